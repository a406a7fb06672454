import PyProof.Rows.All
import Wide.All
import OpenK.AllK
import Wide.FinOn
import HandS.ForMost
import HandS.ForExc
import HandS.ExcInit
import HandS.WideBits
import HandS.EndBits
import HandS.Property
import HandS.OwnEq
import HandS.Conv
import HandS.IsInst
import HandS.MakeKw
import HandS.Style
import HandS.RaiseMore
import PyProof.ReprLen
import KE.KExcSuper
import HandS.ExcField
import HandS.TryOnly
import HandS.TryMany
import HandS.CallSlots
import HandS.More
import HandS.Ends
import KE.KMethU
import KE.KMinKey
import HandS.SortKw
import KE.KRevSl
import HandS.ExcIs
import HandS.SetFor
import KE.KDictLaws
import HandS.Text
import HandS.Lambda
import HandS.EndTab
import HandS.StrMore
import HandS.Walk
import KE.GoesEnum
import KE.IntTextLaws
import KE.IntTextText
import PyProof.Rows.StrDigitsNeg
import PyProof.Rows.ReprOcc
import KE.LtData
import KE.GoesZip
import KE.KUnpackStar
import HandS.Zip
import HandS.DictEq
import HandS.WordsExc
import KE.DatumOrd
import HandS.TupSets
import KE.KeyNested
import HandS.FStr
import HandS.Star
import PySem.Challenge.RW_rowmarks_k92_texts_that_are_no_markings
import HandS.TupAny
set_option Elab.async false
set_option linter.all false
set_option maxRecDepth 100000
set_option maxHeartbeats 4000000
namespace Rm
open PySem PySem.Spec L2
open PyProof.Rows hiding St

/-! ### promises of defs that know that no display is being written -/
def Gd (A : Around) : Prop := A.guards = some []
theorem Gd.deeper {A : Around} (h : Gd A) (e : Env) : Gd (A.deeper e) := h
theorem Gd.in1 {A : Around} (h : Gd A) : Gd A.in1 := h
theorem Gd.make {A : Around} (h : Gd A) (C : Addr) (us : List Value)
    (kw : List (Str × Value)) : Gd (A.under (.builtin "type.__call__" ⟨.ref C :: us, kw⟩)) := by
  have e : Code.guards (.builtin "type.__call__" ⟨.ref C :: us, kw⟩) = [] := by
    unfold Code.guards Code.isGuard
    exact if_neg (show ¬ (guardIds.contains "type.__call__" = true) by decide +kernel)
  unfold Gd Around.under
  dsimp only
  rw [e]
  exact h

structure FnG (P : Program) (w : World) (K : PySem.W.Frag)
    (mg : Str → Option Value) (base : Heap) (CX : CXT) (k : Nat)
    (f : Addr) (fd : FuncData) (ps : List Str) (sp : Sp) : Prop where
  len : ∀ vs H Q E, sp vs H Q E → vs.length = ps.length
  run : ∀ (A : Around) (outer : List Env) (s : Shared) (H : Hp) (ar : Args)
    (us : List Value) (vs : List V) (Q : VK) (E : XK), Room k A → Gd A →
    Env0 P w K mg base A outer s H → BindsTo s fd ar (ps.zip us) → Vals vs us →
    sp vs H Q E →
    codeAny (model P w) A (.call (.ref f) ar) (CR CX outer P w H s Q E) s

section
variable {P : Program} {w : World} {K : PySem.W.Frag}
variable {mg : Str → Option Value} {base : Heap} {CX : CXT} {k j : Nat}
variable {f : Addr} {fd : FuncData} {ps : List Str} {sp sp' : Sp}
theorem FnG.of (F : FnOk P w K mg base CX k f fd ps sp) : FnG P w K mg base CX k f fd ps sp :=
  ⟨F.len, fun A outer s H ar us vs Q E hr _ => F.run A outer s H ar us vs Q E hr⟩
theorem FnG.mono (F : FnG P w K mg base CX j f fd ps sp) (h : j ≤ k) : FnG P w K mg base CX k f fd ps sp :=
  ⟨F.len, fun A outer s H ar us vs Q E hr => F.run A outer s H ar us vs Q E (hr.mono h)⟩
theorem FnG.imp (F : FnG P w K mg base CX k f fd ps sp)
    (h : ∀ vs H Q E, sp' vs H Q E → sp vs H Q E) : FnG P w K mg base CX k f fd ps sp' :=
  ⟨fun vs H Q E q => F.len vs H Q E (h _ _ _ _ q),
    fun A outer s H ar us vs Q E hr hg e0 hb hv hs =>
      F.run A outer s H ar us vs Q E hr hg e0 hb hv (h _ _ _ _ hs)⟩
end

/-! ### calls -/
section
variable {X : Cx} {CX : CXT} {k : Nat} {f C : Addr} {fd : FuncData} {ps : List Str} {sp : Sp}
variable {dvs : List V} {ds : List Value} {E : XK} {x m : Str} {p pos apos : Pos} {e o : Expr}
variable {es : List Expr} {ta : TE} {t : TA}

/-- behind a callee's end -/
theorem came {pins : List (Addr × Obj)} {σ : St} {H : Hp} {s s' : Shared} {Q : VK} {r : Result}
    (hx : Passes CX X E) (I : Inv X pins σ H s)
    (hq : CR CX X.stack X.prog X.w H s Q E r s') :
    wants (EP X pins σ Q) X.xe r s' := by
  match r, hq with
  | .error e, hq => exact hx pins σ H s e s' I hq
  | .ok (.ret u), hq => exact I.after hq
  | .ok .next, hq => exact False.elim hq
  | .ok .brk, hq => exact False.elim hq
  | .ok .cont, hq => exact False.elim hq

theorem goes {pins : List (Addr × Obj)} {σ : St} {H : Hp} {s : Shared} {Q : VK}
    {us : List Value} {vs : List V}
    (F : FnG X.prog X.w X.K X.mg X.base CX k f fd ps sp) (hr : Room k X.A) (hG : Gd X.A)
    (hb : Binds X.K fd ps ds) (hd : Vals dvs ds) (hx : Passes CX X E)
    (I : Inv X pins σ H s) (r : Vals vs us) (h : sp (vs ++ dvs) H Q E) :
    wpAny (model X.prog X.w) X.A (call (.ref f) us) (EP X pins σ Q) X.xe s := by
  have both := r.append hd
  have hl : (us ++ ds).length = ps.length := both.length.symm.trans (F.len _ _ _ _ h)
  exact wpAny_call (codeAny_mono (F.run X.A X.stack s H ⟨us, []⟩ _ _ Q E hr hG I.env0
    (hb s us I.kIn hl) both h) fun r s' hq => came hx I hq)

theorem pe_fn (F : FnG X.prog X.w X.K X.mg X.base CX k f fd ps sp) (hr : Room k X.A) (hG : Gd X.A)
    (hg : Gl X x) (hm : X.mg x = some (.ref f)) (hk : PySem.W.keepIn X.K (.ref f) = true)
    (hb : Binds X.K fd ps ds) (hd : Vals dvs ds) (hx : Passes CX X E) (ha : PA X (e :: es) t)
    (hdb : (x == ("__debug__" : Str)) = false := by decide)
    (he : starEach (e :: es) X.env = (false, eval e X.env) :: starEach es X.env := by rfl)
    (hpl : (backTo pos (starEach es X.env)).any (·.1) = false := by rfl) :
    PE X (.Call (.Name x p) (e :: es) [] pos) (tCall sp dvs E t) :=
  ⟨fun pins s σ H Q I h => wpAny_Call_Name_kw (ld_glob I hg hm
    (PySem.W.callWith_K (h₀ := X.base) I.ok.mod.kin hk
      (thn (ha.run pos pins s σ H _ I h) fun us s1 ⟨vs, H1, I1, r, q⟩ =>
        ⟨I1.kIn, goes F hr hG hb hd hx I1 r q⟩) he hpl) hdb)⟩

theorem pe_fn0 (F : FnG X.prog X.w X.K X.mg X.base CX k f fd ps sp) (hr : Room k X.A) (hG : Gd X.A)
    (hg : Gl X x) (hm : X.mg x = some (.ref f)) (hk : PySem.W.keepIn X.K (.ref f) = true)
    (hb : Binds X.K fd ps ds) (hd : Vals dvs ds) (hx : Passes CX X E)
    (hdb : (x == ("__debug__" : Str)) = false := by decide) :
    PE X (.Call (.Name x p) [] [] pos) (tCall sp dvs E tNil) :=
  ⟨fun pins s σ H Q I h => wpAny_Call_Name_kw (ld_glob I hg hm
    (PySem.W.callWith_K0 I.kIn hk (goes (us := []) F hr hG hb hd hx I .nil h)) hdb)⟩

theorem pe_mth {pl : Sem Bool} (he : PE X o ta) (c : Cls X.K C) (hm : Meth X.K C m f)
    (F : FnG X.prog X.w X.K X.mg X.base CX k f fd ps sp) (hr : Room k X.A) (hG : Gd X.A)
    (hb : Binds X.K fd ps ds) (hd : Vals dvs ds) (hx : Passes CX X E) (ha : PA X (e :: es) t)
    (hst : starEach (e :: es) X.env = (false, eval e X.env) :: starEach es X.env := by rfl)
    (hpl : (backTo pos (starEach es X.env)).any (·.1) = false := by rfl)
    (ht : eval (.Call (.Attribute o m apos) (e :: es) [] pos) X.env = (do
      let ov ← eval o X.env
      standAt apos.atName
      let (g, first) ← holding [ov] (getMethod ov m pl)
      callWith pos g first (backTo pos (starEach (e :: es) X.env))
        (backToKw pos (keywordEach [] X.env))) := by rfl) :
    PE X (.Call (.Attribute o m apos) (e :: es) [] pos) (tMeth C m sp dvs E ta t) := by
  constructor
  intro pins s σ H Q I h
  refine PySem.W.methodCall_KW (pl := pl)
    (thn (he.run pins s σ H _ I h) fun u s1 ⟨y, H1, I1, ry, a, dx, fs, ey, ea, l, q⟩ => ?_) ht
  obtain rfl := ey
  have ru : u = Value.ref a := ry
  rw [ru]
  exact getmeth_ok I1 ea c hm l (PySem.W.callWith_K (first := [.ref a]) (h₀ := X.base)
    I.ok.mod.kin hm.kp (thn (ha.run pos pins s1 σ H1 _ I1 q) fun us s2 ⟨vs, H2, I2, r, q2⟩ =>
      ⟨I2.kIn, goes (us := .ref a :: us) (vs := .ref a :: vs) F hr hG hb hd hx I2 (.cons rfl r) q2⟩) hst hpl)

theorem pe_mth0 {pl : Sem Bool} (he : PE X o ta) (c : Cls X.K C) (hm : Meth X.K C m f)
    (F : FnG X.prog X.w X.K X.mg X.base CX k f fd ps sp) (hr : Room k X.A) (hG : Gd X.A)
    (hb : Binds X.K fd ps ds) (hd : Vals dvs ds) (hx : Passes CX X E)
    (ht : eval (.Call (.Attribute o m apos) [] [] pos) X.env = (do
      let ov ← eval o X.env
      standAt apos.atName
      let (g, first) ← holding [ov] (getMethod ov m pl)
      callWith pos g first (backTo pos (starEach [] X.env))
        (backToKw pos (keywordEach [] X.env))) := by rfl) :
    PE X (.Call (.Attribute o m apos) [] [] pos) (tMeth C m sp dvs E ta tNil) := by
  constructor
  intro pins s σ H Q I h
  refine PySem.W.methodCall_KW (pl := pl)
    (thn (he.run pins s σ H _ I h) fun u s1 ⟨y, H1, I1, ry, a, dx, fs, ey, ea, l, q⟩ => ?_) ht
  obtain rfl := ey
  have ru : u = Value.ref a := ry
  rw [ru]
  exact getmeth_ok I1 ea c hm l (PySem.W.callWith_K0 (first := [.ref a]) I1.kIn hm.kp
    (goes (us := [.ref a]) (vs := [.ref a]) F hr hG hb hd hx I1 (.cons rfl .nil) q))

/-! ### a new instance -/
theorem grows {pins : List (Addr × Obj)} {σ : St} {H : Hp} {s : Shared} {Q : VK}
    {us : List Value} {vs : List V} (M : Mk X.K C f)
    (F : FnG X.prog X.w X.K X.mg X.base CX k f fd ps sp) (hr : Room (k + 1) X.A) (hG : Gd X.A)
    (hb : Binds X.K fd ps ds) (hd : Vals dvs ds) (hx : Passes CX X E)
    (I : Inv X pins σ H s) (r : Vals vs us)
    (h : ∀ y dx, H y = none → H dx = none → dx ≠ y →
      sp (.ref y :: (vs ++ dvs)) (upd (upd H dx (.own y)) y (.ins C dx []))
        (fun v H2 => v = .non ∧ Q (.ref y) H2) E) :
    wpAny (model X.prog X.w) X.A (call (.ref C) us) (EP X pins σ Q) X.xe s := by
  have n1 : H (s.heap.objs.size + 1) = none := I.hok.fresh (Nat.le_succ _)
  have n0 : H s.heap.objs.size = none := I.hok.fresh (Nat.le_refl _)
  have hq := h _ _ n1 n0 (Nat.ne_of_lt (Nat.lt_succ_self _))
  have I2 := Inv.made (C := C) I
  have both : Vals (V.ref (s.heap.objs.size + 1) :: (vs ++ dvs))
      (Value.ref (s.heap.objs.size + 1) :: (us ++ ds)) := .cons rfl (r.append hd)
  have hl : (Value.ref (s.heap.objs.size + 1) :: us ++ ds).length = ps.length :=
    both.length.symm.trans (F.len _ _ _ _ hq)
  refine wpAny_call (make_map (f := f) I.kIn M.makes M.init (beq_iff_eq.mp M.fn)
    (codeAny_mono (F.run _ X.stack _ _ ⟨Value.ref (s.heap.objs.size + 1) :: us, []⟩ _ _ _ E
      (hr.make C us []) (hG.make C us []) (I2.env0.make C us [])
      (hb _ (Value.ref (s.heap.objs.size + 1) :: us) I2.kIn hl) both hq) fun r s' hq' => ?_))
  match r, hq' with
  | .error er, hq' => exact hx pins σ _ _ er s' I2 hq'
  | .ok (.ret u), hq' =>
    obtain ⟨v, H', I3, rv, ev, q3⟩ := I2.after hq'
    subst ev
    exact ⟨rv, V.ref (s.heap.objs.size + 1), H', I3, rfl, q3⟩
  | .ok .next, hq' => exact False.elim hq'
  | .ok .brk, hq' => exact False.elim hq'
  | .ok .cont, hq' => exact False.elim hq'

theorem pe_new (M : Mk X.K C f) (F : FnG X.prog X.w X.K X.mg X.base CX k f fd ps sp)
    (hr : Room (k + 1) X.A) (hG : Gd X.A) (hg : Gl X x) (hm : X.mg x = some (.ref C))
    (hb : Binds X.K fd ps ds) (hd : Vals dvs ds) (hx : Passes CX X E) (ha : PA X (e :: es) t)
    (hdb : (x == ("__debug__" : Str)) = false := by decide)
    (he : starEach (e :: es) X.env = (false, eval e X.env) :: starEach es X.env := by rfl)
    (hpl : (backTo pos (starEach es X.env)).any (·.1) = false := by rfl) :
    PE X (.Call (.Name x p) (e :: es) [] pos) (tMake C sp dvs E t) :=
  ⟨fun pins s σ H Q I h => wpAny_Call_Name_kw (ld_glob I hg hm
    (PySem.W.callWith_K (h₀ := X.base) I.ok.mod.kin M.kp
      (thn (ha.run pos pins s σ H _ I h) fun us s1 ⟨vs, H1, I1, r, q⟩ =>
        ⟨I1.kIn, grows M F hr hG hb hd hx I1 r q⟩) he hpl) hdb)⟩

theorem pe_new0 (M : Mk X.K C f) (F : FnG X.prog X.w X.K X.mg X.base CX k f fd ps sp)
    (hr : Room (k + 1) X.A) (hG : Gd X.A) (hg : Gl X x) (hm : X.mg x = some (.ref C))
    (hb : Binds X.K fd ps ds) (hd : Vals dvs ds) (hx : Passes CX X E)
    (hdb : (x == ("__debug__" : Str)) = false := by decide) :
    PE X (.Call (.Name x p) [] [] pos) (tMake C sp dvs E tNil) :=
  ⟨fun pins s σ H Q I h => wpAny_Call_Name_kw (ld_glob I hg hm
    (PySem.W.callWith_K0 I.kIn M.kp (grows (us := []) M F hr hG hb hd hx I .nil h)) hdb)⟩
end

/-! ### a def by its body -/
section
variable {P : Program} {w : World} {K : PySem.W.Frag} {mg : Str → Option Value} {base : Heap}
theorem fn_in {CX : CXT} {x qual : Str} {st : Stmt} {f : Addr} {fd : FuncData} {N ps : List Str}
    {k : Nat} {sp : Sp} (F : Fun K x qual st f fd) (S : FnScope N ps (defScope st))
    (len : ∀ vs H Q E, sp vs H Q E → vs.length = ps.length)
    (body : ∀ (cdv : Value) (A : Around) (outer : List Env) (s : Shared) (H : Hp) (vs : List V)
        (Q : VK) (E : XK), Room k (A.deeper (envOfC qual (defScope st) s.heap.objs.size f cdv)) →
      Gd (A.deeper (envOfC qual (defScope st) s.heap.objs.size f cdv)) → sp vs H Q E →
      ∃ t, PSs (cxOf CX P w K mg base N qual (defScope st) f cdv A outer s H E) (defBody st) t ∧
        t { nx := fun _ H' => Q .non H', rt := Q } (start N vs) H) :
    FnG P w K mg base CX (k + 1) f fd ps sp := by
  obtain ⟨oc, od, kV, doc, pm, an, cdv, ct, osl, rfl, lk, hcd⟩ := F.ex
  refine ⟨len, fun A outer s H ar us vs Q E hr hG e0 hb r hsp => ?_⟩
  have hl := len _ _ _ _ hsp
  have up : ∀ b o, base.get? b = some o → s.heap.get? b = some o := fun b o e => (e0.bs b o e).1
  have KX : K.In s.heap := e0.mod.kin.keeps up
  have lim : s.heap.NoLimit := e0.mod.nolimit.keeps up
  refine codeAny_call_function hr.depth (KX _ _ lk) rfl S.co S.gen rfl
    (PySem.W.codeRec_of KX hcd) (hb _ _ _ _ ?_)
  refine wpAny_newFunctionEnv_cells S.kind (fun ⟨n, v⟩ hy => ?_) fun env he s1 z => ?_
  · exact (S.par n (List.of_mem_zip hy).1).imp id
      fun q => ⟨q, PySem.W.cellsFrom_some _ _ _ (.inl q)⟩
  subst he
  refine ⟨lim.keeps z.toInCall.keep, codeAny_func ?_⟩
  obtain ⟨t, ht, hq⟩ := body cdv A outer s H vs Q E (hr.deeper _) (hG.deeper _) hsp
  have I := inv_start (CX := CX) (E := E) (qual := qual) (f := f) (cd := cdv) S hr.hd e0 hl r z
  refine wpAny_mono (ht.run [] s1 (start N vs) H _ I hq) (fun fl s' hs => ?_) fun e s' hs => hs
  match fl, hs with
  | .ret u, ⟨v, σ', H', J, rv, q⟩ => exact ⟨v, H', J.os, J.bare, J.base, J.hok, rv, q⟩
  | .next, ⟨σ', H', J, q⟩ => exact ⟨V.non, H', J.os, J.bare, J.base, J.hok, rfl, q⟩
  | .brk, ⟨_, _, _, q⟩ => exact False.elim q
  | .cont, ⟨_, _, _, q⟩ => exact False.elim q

/-- nothing leaves the def -/
theorem fn_q {x qual : Str} {st : Stmt} {f : Addr} {fd : FuncData} {N ps : List Str}
    {k : Nat} {sp : Sp} (F : Fun K x qual st f fd) (S : FnScope N ps (defScope st))
    (len : ∀ vs H Q E, sp vs H Q E → vs.length = ps.length)
    (body : ∀ (cdv : Value) (A : Around) (outer : List Env) (s : Shared) (H : Hp) (vs : List V)
        (Q : VK) (E : XK), Room k (A.deeper (envOfC qual (defScope st) s.heap.objs.size f cdv)) →
      Gd (A.deeper (envOfC qual (defScope st) s.heap.objs.size f cdv)) → sp vs H Q E →
      ∃ t, PSs (cxOf CX0 P w K mg base N qual (defScope st) f cdv A outer s H E).nox (defBody st) t ∧
        t { nx := fun _ H' => Q .non H', rt := Q } (start N vs) H) :
    FnG P w K mg base CX0 (k + 1) f fd ps sp :=
  fn_in F S len fun cdv A outer s H vs Q E hr hG hs =>
    let ⟨t, h, q⟩ := body cdv A outer s H vs Q E hr hG hs
    ⟨t, h.nox, q⟩
end
end Rm

set_option maxRecDepth 100000
set_option maxHeartbeats 4000000
namespace Rm
open PySem PySem.Spec L2
open PyProof.Rows hiding St

/-! ### data of any kind: what stands behind a value -/
def keyD : Key → PyData
  | .inl i => .int i
  | .inr x => .str x
mutual
inductive Dx (K : PySem.W.Frag) (H : Hp) : V → PyData → Prop
  | non : Dx K H .non .none
  | bl (b : Bool) : Dx K H (.bl b) (.bool b)
  | int (i : Int) : Dx K H (.int i) (.int i)
  | str (x : Str) : Dx K H (.str x) (.str x)
  | lst {a : Addr} {xs : List V} {ds : List PyData} :
      SqL K H a xs → DxAll K H xs ds → Dx K H (.ref a) (.list ds)
  | tup {a : Addr} {xs : List V} {ds : List PyData} :
      SqT K H a xs → DxAll K H xs ds → Dx K H (.ref a) (.tuple ds)
  | dic {a : Addr} {kvs : List (Key × V)} {es : List (PyData × PyData)} :
      Rd H a (.dK kvs) → DxKv K H kvs es → Dx K H (.ref a) (.dict es)
inductive DxAll (K : PySem.W.Frag) (H : Hp) : List V → List PyData → Prop
  | nil : DxAll K H [] []
  | cons {v : V} {vs : List V} {d : PyData} {ds : List PyData} :
      Dx K H v d → DxAll K H vs ds → DxAll K H (v :: vs) (d :: ds)
inductive DxKv (K : PySem.W.Frag) (H : Hp) : List (Key × V) → List (PyData × PyData) → Prop
  | nil : DxKv K H [] []
  | cons {k : Key} {v : V} {r : List (Key × V)} {d : PyData} {es : List (PyData × PyData)} :
      Dx K H v d → DxKv K H r es → DxKv K H ((k, v) :: r) ((keyD k, d) :: es)
end

/-- what is read stays -/
def SameR (H H' : Hp) : Prop := ∀ a u, Rd H a u → Rd H' a u
theorem SameR.of {H H' : Hp} (e : Same H H') : SameR H H' := fun a u h =>
  h.elim (fun h => .inl (e _ _ h)) fun ⟨o, h⟩ => .inr ⟨o, e _ _ h⟩
theorem SameR.trans {H H' H2 : Hp} (e : SameR H H') (e2 : SameR H' H2) : SameR H H2 := fun a u h => e2 a u (e a u h)
/-- a thing that is locked is read as before -/
theorem SameR.lock {H : Hp} {d : Addr} {o : Obj} {u : HO} (h : H d = some u) (n : ∀ o' u', u ≠ .frz o' u') : SameR H (upd H d (.frz o u)) := fun a w r => by
  by_cases z : a = d
  · subst z
    rcases r with r | ⟨o', r⟩
    · rw [h] at r; cases r
      exact .inr ⟨o, upd_same⟩
    · rw [h] at r; cases r
      exact absurd rfl (n _ _)
  · rcases r with r | ⟨o', r⟩
    · exact .inl (by rw [upd_ne z]; exact r)
    · exact .inr ⟨o', by rw [upd_ne z]; exact r⟩
theorem sq_upR {K : PySem.W.Frag} {H H' : Hp} {a : Addr} {xs : List V} (e : SameR H H')
    (h : SqL K H a xs) : SqL K H' a xs := h.elim (fun h => .inl (e _ _ h)) .inr
theorem st_upR {K : PySem.W.Frag} {H H' : Hp} {a : Addr} {xs : List V} (e : SameR H H')
    (h : SqT K H a xs) : SqT K H' a xs := h.elim (fun h => .inl (e _ _ h)) .inr
theorem sq_up {K : PySem.W.Frag} {H H' : Hp} {a : Addr} {xs : List V} (e : Same H H')
    (h : SqL K H a xs) : SqL K H' a xs := sq_upR (.of e) h
mutual
theorem Dx.upR {K : PySem.W.Frag} {H H' : Hp} (e : SameR H H') : ∀ {v : V} {d : PyData},
    Dx K H v d → Dx K H' v d
  | _, _, .non => .non
  | _, _, .bl b => .bl b
  | _, _, .int i => .int i
  | _, _, .str x => .str x
  | _, _, .lst h r => .lst (sq_upR e h) (DxAll.upR e r)
  | _, _, .tup h r => .tup (st_upR e h) (DxAll.upR e r)
  | _, _, .dic h r => .dic (e _ _ h) (DxKv.upR e r)
theorem DxAll.upR {K : PySem.W.Frag} {H H' : Hp} (e : SameR H H') : ∀ {vs : List V} {ds : List PyData},
    DxAll K H vs ds → DxAll K H' vs ds
  | _, _, .nil => .nil
  | _, _, .cons h r => .cons (Dx.upR e h) (DxAll.upR e r)
theorem DxKv.upR {K : PySem.W.Frag} {H H' : Hp} (e : SameR H H') :
    ∀ {vs : List (Key × V)} {ds : List (PyData × PyData)}, DxKv K H vs ds → DxKv K H' vs ds
  | _, _, .nil => .nil
  | _, _, .cons h r => .cons (Dx.upR e h) (DxKv.upR e r)
end
theorem Dx.up {K : PySem.W.Frag} {H H' : Hp} {v : V} {d : PyData} (e : Same H H') (h : Dx K H v d) : Dx K H' v d := h.upR (.of e)
theorem DxAll.get {K : PySem.W.Frag} {H : Hp} : ∀ {vs : List V} {ds : List PyData} {i : Nat} {v : V}, DxAll K H vs ds → vs[i]? = some v →
    ∃ d, ds[i]? = some d ∧ Dx K H v d
  | _, _, _, _, .nil, h => by simp at h
  | _, _, 0, _, .cons h _, e => by simp at e; subst e; exact ⟨_, rfl, h⟩
  | _, _, i + 1, _, .cons _ r, e => by simp at e; simpa using DxAll.get r e

theorem DxKv.keys {K : PySem.W.Frag} {H : Hp} : ∀ {kvs : List (Key × V)} {es : List (PyData × PyData)},
    DxKv K H kvs es → es.map (·.1) = kvs.map fun p => keyD p.1
  | _, _, .nil => rfl
  | _, _, .cons _ r => by simp only [List.map_cons]; rw [DxKv.keys r]

section
variable {X : Cx} {pins : List (Addr × Obj)} {σ : L2.St} {H : Hp} {s : Shared}

/-- how u is written, and that it can be read -/
def Shw (P : Program) (w : World) (h : Heap) (u : Value) (d : PyData) : Prop :=
  (∃ as, Reads h u d as) ∧ ∃ bs, ReadAtMost h d.depth bs ∧ ReprK P w bs h d.depth u d.shown
def ShwAll (P : Program) (w : World) (h : Heap) (us : List Value) (ds : List PyData) : Prop :=
  (∃ as, ReadsAll h us ds as) ∧ ∃ bs, ReadAtMost h (PyData.depthAll ds) bs ∧
    ReprAllK P w bs h (PyData.depthAll ds) us (PyData.shownAll ds)

theorem ShwAll.none {P : Program} {w : World} {h : Heap} : ShwAll P w h [] [] :=
  ⟨⟨_, .nil⟩, [], (fun _ z => nomatch z), by simp only [PyData.shownAll]; exact .nil⟩
theorem ShwAll.more {P : Program} {w : World} {h : Heap} {u : Value} {us : List Value} {d : PyData}
    {ds : List PyData} (a : Shw P w h u d) (b : ShwAll P w h us ds) : ShwAll P w h (u :: us) (d :: ds) := by
  obtain ⟨⟨_, r1⟩, b1, m1, k1⟩ := a
  obtain ⟨⟨_, r2⟩, b2, m2, k2⟩ := b
  refine ⟨⟨_, .cons r1 r2⟩, b1 ++ b2, ?_, ?_⟩
  · simp only [PyData.depthAll]
    exact (m1.mono (Nat.le_max_left _ _)).append (m2.mono (Nat.le_max_right _ _))
  · simp only [PyData.depthAll, PyData.shownAll]
    exact .cons ((k1.more fun _ z => List.mem_append_left _ z).level_le (Nat.le_max_left _ _))
      (k2.more_le (fun _ z => List.mem_append_right _ z) (Nat.le_max_right _ _))

theorem kv_read : ∀ {kvs : List (Key × V)} {vs : List (Key × Value)} {es : List DictEntry}
    {P : Program} {w : World}, KV kvs vs → Pairs (mixKind P w) es vs →
    (∀ (h : Heap), ∀ (ks : List PyData), ks = kvs.map (fun p => keyD p.1) →
      PyData.showableAll ks = true → (∀ t ∈ PyData.shownAll ks, t.length ≤ sizeLine) →
      ShwAll P w h (es.map (·.key)) ks) ∧ Vals (kvs.map (·.2)) (es.map (·.val))
  | _, _, _, P, w, .nil, .nil => ⟨fun h ks e _ _ => by subst e; exact ShwAll.none, .nil⟩
  | _, _, _, P, w, .cons (a := (k, v)) (b := (k', u)) hr tl, .cons (e := e) hk hv r => by
    obtain ⟨ih1, ih2⟩ := kv_read tl r
    obtain ⟨rfl, rv⟩ := hr
    refine ⟨fun h ks e2 hs hz => ?_, ?_⟩
    · subst e2
      simp only [List.map_cons, PyData.showableAll, Bool.and_eq_true] at hs
      simp only [List.map_cons, PyData.shownAll] at hz ⊢
      refine ShwAll.more ?_ (ih1 h _ rfl hs.2 fun t ht => hz t (List.mem_cons_of_mem _ ht))
      have z0 := hz _ (List.mem_cons_self ..)
      rcases keyIs_shape (k := k) (v := e.key) hk with ⟨i, t, ek, ev⟩ | ⟨x, t, ek, ev⟩
      · subst ek
        rw [ev]
        have hi : i.natAbs.log2 < 1920 := by simpa [keyD, PyData.showable] using hs.1
        refine ⟨⟨_, .int i t⟩, [], (fun _ z => nomatch z), ?_⟩
        simp only [keyD, PyData.shown]
        exact .of_is (ReprIs.int t hi) _ _ _
      · subst ek
        rw [ev]
        refine ⟨⟨_, .str x t⟩, [], (fun _ z => nomatch z), ?_⟩
        simp only [keyD, PyData.shown] at z0 ⊢
        exact .of_is (ReprIs.str x t z0) _ _ _
    · simp only [List.map_cons]
      rw [hv]
      exact .cons rv ih2

mutual
theorem Dx.shw (I : Inv X pins σ H s) : ∀ (d : PyData) (v : V) (u : Value), Dx X.K H v d → RelV v u →
    d.showable = true → d.shown.length ≤ sizeLine → Shw X.prog X.w s.heap u d
  | .none, _, _, h, r, _, _ => by
    cases h; cases r
    exact ⟨⟨_, .none⟩, [], (fun _ z => nomatch z), by simp only [PyData.shown]; exact .of_is ReprIs.none _ _ _⟩
  | .bool b, _, _, h, r, _, _ => by
    cases h; cases r
    exact ⟨⟨_, .bool b⟩, [], (fun _ z => nomatch z), by simp only [PyData.shown]; exact .of_is (ReprIs.bool b) _ _ _⟩
  | .int i, _, _, h, r, hs, _ => by
    cases h
    obtain ⟨t, rfl⟩ := r
    refine ⟨⟨_, .int i t⟩, [], (fun _ z => nomatch z), ?_⟩
    simp only [PyData.shown]
    exact .of_is (ReprIs.int t (by simpa [PyData.showable] using hs)) _ _ _
  | .str x, _, _, h, r, _, hz => by
    cases h
    obtain ⟨t, rfl⟩ := r
    refine ⟨⟨_, .str x t⟩, [], (fun _ z => nomatch z), ?_⟩
    simp only [PyData.shown] at hz ⊢
    exact .of_is (ReprIs.str x t hz) _ _ _
  | .list ds, _, _, h, r, hs, hz => by
    cases h with
    | lst hl ha =>
      cases r
      obtain ⟨its, rv, ⟨o, n, ho, hc, _, hd⟩, _⟩ := I.list hl
      simp only [PyData.shown] at hz
      obtain ⟨⟨as, ra⟩, bs, mb, kb⟩ := Dx.shwAll I ds _ its ha rv (by simpa [PyData.showable] using hs)
        fun t ht => Nat.le_trans (listText_mem_le ht) hz
      have rr := Reads.list ho hc hd ra
      refine ⟨⟨_, rr⟩, _, ReadAtMost.cons rr (by simp only [PyData.depth]; omega) mb, ?_⟩
      simp only [PyData.depth, PyData.shown]
      cases its with
      | nil =>
        cases ra
        simp only [PyData.shownAll, listText_nil]
        exact ReprK.listEmpty ho hc hd
      | cons y l =>
        exact ReprK.list ho hc hd (not_mem_of_deeper rr (by simp only [PyData.depth]; omega) mb)
          (by simpa using kb.length_eq) fun i z e => kb.item i z (by simpa using e)
  | .tuple ds, _, _, h, r, hs, hz => by
    cases h with
    | tup hl ha =>
      cases r
      obtain ⟨its, rv, ⟨o, ho, hc, n, hd⟩, _⟩ := I.tuple hl
      simp only [PyData.shown] at hz
      obtain ⟨⟨as, ra⟩, bs, mb, kb⟩ := Dx.shwAll I ds _ its ha rv (by simpa [PyData.showable] using hs)
        fun t ht => Nat.le_trans (tupleText_mem_le ht) hz
      have rr := Reads.tuple ho hc hd ra
      refine ⟨⟨_, rr⟩, _, ReadAtMost.cons rr (by simp only [PyData.depth]; omega) mb, ?_⟩
      simp only [PyData.depth, PyData.shown]
      exact ReprK.tuple ho hc hd (not_mem_of_deeper rr (by simp only [PyData.depth]; omega) mb) kb
  | .dict es, _, _, h, r, hs, hz => by
    cases h with
    | dic hl ha =>
      cases r
      obtain ⟨hsz, hsys, vs, kv, o, ents, ep, ho, hx, hd, _, hp, _⟩ := dk_rd I.hok hl
      obtain ⟨hs1, hs2⟩ := PyData.showableKv_split es (by simpa [PyData.showable] using hs)
      simp only [PyData.shown] at hz
      obtain ⟨kr, vr⟩ := kv_read kv hp
      have ek := DxKv.keys ha
      obtain ⟨⟨_, r1⟩, b1, m1, k1⟩ := kr s.heap _ ek hs1 fun t ht =>
        let ⟨p, hp, hl⟩ := PyData.shownKv_key_le es t ht
        Nat.le_trans hl (Nat.le_trans (dictText_mem_le hp) hz)
      obtain ⟨⟨_, r2⟩, b2, m2, k2⟩ := Dx.shwAll2 I es _ _ ha vr hs2 fun t ht =>
        let ⟨p, hp, hl⟩ := PyData.shownKv_val_le es t ht
        Nat.le_trans hl (Nat.le_trans (dictText_mem_le hp) hz)
      have rr : Reads s.heap (.ref _) (.dict es) _ := Reads.dict ho hx.1 hd r1 r2
      have mb := (m1.mono (PyData.depthAll_keys_le es)).append (m2.mono (PyData.depthAll_vals_le es))
      refine ⟨⟨_, rr⟩, _, ReadAtMost.cons rr (by simp only [PyData.depth]; omega) mb, ?_⟩
      simp only [PyData.depth, PyData.shown, PyData.shownKv_eq]
      exact ReprK.dict ho hx.1 hd hsys (not_mem_of_deeper rr (by simp only [PyData.depth]; omega) mb)
        (ReprEntriesK.of_two ents.toList _ _
          (k1.more_le (fun _ z => List.mem_append_left _ z) (PyData.depthAll_keys_le es))
          (k2.more_le (fun _ z => List.mem_append_right _ z) (PyData.depthAll_vals_le es)))
theorem Dx.shwAll (I : Inv X pins σ H s) : ∀ (ds : List PyData) (vs : List V) (us : List Value),
    DxAll X.K H vs ds → Vals vs us → PyData.showableAll ds = true →
    (∀ t ∈ PyData.shownAll ds, t.length ≤ sizeLine) → ShwAll X.prog X.w s.heap us ds
  | [], _, _, h, r, _, _ => by
    cases h; cases r
    exact ShwAll.none
  | d :: ds, _, _, h, r, hs, hz => by
    cases h with
    | cons h1 h2 =>
      cases r with
      | cons r1 r2 =>
        simp only [PyData.showableAll, Bool.and_eq_true] at hs
        simp only [PyData.shownAll] at hz
        exact ShwAll.more (Dx.shw I d _ _ h1 r1 hs.1 (hz _ (List.mem_cons_self ..)))
          (Dx.shwAll I ds _ _ h2 r2 hs.2 fun t ht => hz t (List.mem_cons_of_mem _ ht))
theorem Dx.shwAll2 (I : Inv X pins σ H s) : ∀ (es : List (PyData × PyData)) (kvs : List (Key × V))
    (us : List Value), DxKv X.K H kvs es → Vals (kvs.map (·.2)) us →
    PyData.showableAll (es.map (·.2)) = true →
    (∀ t ∈ PyData.shownAll (es.map (·.2)), t.length ≤ sizeLine) → ShwAll X.prog X.w s.heap us (es.map (·.2))
  | [], _, _, h, r, _, _ => by
    cases h; cases r
    exact ShwAll.none
  | (k, d) :: ds, _, _, h, r, hs, hz => by
    cases h with
    | cons h1 h2 =>
      cases r with
      | cons r1 r2 =>
        simp only [List.map_cons, PyData.showableAll, Bool.and_eq_true] at hs
        simp only [List.map_cons, PyData.shownAll] at hz
        exact ShwAll.more (Dx.shw I d _ _ h1 r1 hs.1 (hz _ (List.mem_cons_self ..)))
          (Dx.shwAll2 I ds _ _ h2 r2 hs.2 fun t ht => hz t (List.mem_cons_of_mem _ ht))
end
end
end Rm

set_option maxRecDepth 100000
set_option maxHeartbeats 4000000
namespace Rm
open PySem PySem.Spec L2
open PyProof.Rows hiding St

/-- small enough to be written out -/
structure Sm (d : PyData) : Prop where
  sh : d.showable = true
  lv : d.leavesShort 100 = true
  wt : d.weight ≤ 100000
  dp : d.depth ≤ 50
theorem Sm.len {d : PyData} (h : Sm d) : d.shown.length ≤ sizeLine := by
  have h1 := PyData.shown_le 100 (by decide) d h.lv
  have h2 := h.wt
  rw [sizeLine_eq]
  omega

def rRep (K : PySem.W.Frag) : List V → Hp → VK → Prop := fun xs H Q =>
  ∃ x d, xs = [x] ∧ Dx K H x d ∧ Sm d ∧ Q (.str d.shown) H
theorem call_rep {X : Cx} (hG : Gd X.A) (hu : X.A.units + 64 < cLine) : CallR X (.builtin "repr") (rRep X.K) := by
  intro pins s σ H xs us Q I r h
  obtain ⟨x, d, rfl, hd, hs, q⟩ := h
  obtain ⟨u, rfl, ru⟩ := vals1 r
  have hz := hs.len
  have hdp := hs.dp
  have S := Dx.shw I d x u hd ru hs.sh hz
  have fin : ∀ h' t tk, (∀ b o, s.heap.get? b = some o → h'.get? b = some o) →
      EP X pins σ Q (.str d.shown t) { s with heap := h', toks := tk } := fun h' t tk k =>
    ⟨.str d.shown, H, I.kept k, ⟨t, rfl⟩, q⟩
  cases hd with
  | non =>
    cases ru
    simp only [PyData.shown] at fin
    exact PySem.P.repr_of_none (fin s.heap _ _ fun _ _ e => e)
  | bl b =>
    cases ru
    simp only [PyData.shown] at fin
    exact PySem.P.repr_of_bool (fin s.heap _ _ fun _ _ e => e)
  | int i =>
    obtain ⟨t, rfl⟩ := ru
    simp only [PyData.shown] at fin
    exact PySem.P.repr_of_int (by simpa [PyData.showable] using hs.sh) (fin s.heap _ _ fun _ _ e => e)
  | str z =>
    obtain ⟨t, rfl⟩ := ru
    simp only [PyData.shown] at fin hz
    exact PySem.P.repr_of_str (fin s.heap _ _ fun _ _ e => e) hz
  | lst hl ha =>
    cases ru
    rename_i a xs ds
    obtain ⟨its, rv, ⟨o, n, ho, hc, _, hdt⟩, _⟩ := I.list hl
    simp only [PyData.shown] at hz fin
    simp only [PyData.depth] at hdp
    have ss : PyData.showableAll ds = true := by simpa [PyData.showable] using hs.sh
    obtain ⟨⟨as, ra⟩, bs, mb, kb⟩ := Dx.shwAll I ds _ its ha rv ss
      fun t ht => Nat.le_trans (listText_mem_le ht) hz
    have rr := Reads.list ho hc hdt ra
    refine call_repr_slot (by omega) ⟨o, ho, hc⟩ F.slot_list_repr.toG ?_
    cases its with
    | nil =>
      cases ra
      simp only [PyData.shownAll, listText_nil] at fin
      exact call_list_repr_empty ⟨o, ho, hc⟩ ho hdt ⟨_, _, rfl, fin s.heap _ _ fun _ _ e => e⟩
    | cons y l =>
      exact call_list_reprK ho hc hdt (not_mem_of_deeper rr (by simp only [PyData.depth]; omega) mb)
        (by simpa using kb.length_eq) (fun i z e => kb.item i z (by simpa using e)) hG
        (fun b _ => Clear.nil b) (by show X.A.units + 1 + _ < cLine; omega) (fun _ _ e => e)
        (fun h' t tk k => ⟨_, _, rfl, fin h' t tk k⟩) hz
  | tup hl ha =>
    cases ru
    rename_i a xs ds
    obtain ⟨its, rv, ⟨o, ho, hc, n, hdt⟩, _⟩ := I.tuple hl
    simp only [PyData.shown] at hz fin
    simp only [PyData.depth] at hdp
    have ss : PyData.showableAll ds = true := by simpa [PyData.showable] using hs.sh
    obtain ⟨⟨as, ra⟩, bs, mb, kb⟩ := Dx.shwAll I ds _ its ha rv ss
      fun t ht => Nat.le_trans (tupleText_mem_le ht) hz
    have rr := Reads.tuple ho hc hdt ra
    refine call_repr_slot (by omega) ⟨o, ho, hc⟩ F.slot_tuple_repr ?_
    exact call_tuple_reprK ho hc hdt (not_mem_of_deeper rr (by simp only [PyData.depth]; omega) mb) kb hG
      (fun b _ => Clear.nil b) (by show X.A.units + 1 + _ < cLine; omega) (fun _ _ e => e)
      (fun h' t tk k => ⟨_, _, rfl, fin h' t tk k⟩) hz
  | dic hl ha =>
    cases ru
    rename_i a kvs es
    obtain ⟨hsz, hsys, vs, kv, o, ents, ep, ho, hx, hdt, _, hp, _⟩ := dk_rd I.hok hl
    obtain ⟨hs1, hs2⟩ := PyData.showableKv_split es (by simpa [PyData.showable] using hs.sh)
    simp only [PyData.shown] at hz fin
    simp only [PyData.depth] at hdp
    obtain ⟨kr, vr⟩ := kv_read kv hp
    have ek := DxKv.keys ha
    obtain ⟨⟨_, r1⟩, b1, m1, k1⟩ := kr s.heap _ ek hs1 fun t ht =>
      let ⟨p, hp, hl⟩ := PyData.shownKv_key_le es t ht
      Nat.le_trans hl (Nat.le_trans (dictText_mem_le hp) hz)
    obtain ⟨⟨_, r2⟩, b2, m2, k2⟩ := Dx.shwAll2 I es _ _ ha vr hs2 fun t ht =>
      let ⟨p, hp, hl⟩ := PyData.shownKv_val_le es t ht
      Nat.le_trans hl (Nat.le_trans (dictText_mem_le hp) hz)
    have rr : Reads s.heap (.ref _) (.dict es) _ := Reads.dict ho hx.1 hdt r1 r2
    have mb := (m1.mono (PyData.depthAll_keys_le es)).append (m2.mono (PyData.depthAll_vals_le es))
    rw [PyData.shownKv_eq] at fin hz
    refine call_repr_slot (by omega) ⟨o, ho, hx.1⟩ F.slot_dict_repr ?_
    exact call_dict_reprK ho hx.1 hdt hsys (not_mem_of_deeper rr (by simp only [PyData.depth]; omega) mb)
      (ReprEntriesK.of_two ents.toList _ _
        (k1.more_le (fun _ z => List.mem_append_left _ z) (PyData.depthAll_keys_le es))
        (k2.more_le (fun _ z => List.mem_append_right _ z) (PyData.depthAll_vals_le es))) hG
      (fun b _ => Clear.nil b) (by show X.A.units + 1 + _ < cLine; omega) (fun _ _ e => e)
      (fun h' t tk k => ⟨_, _, rfl, fin h' t tk k⟩) hz

/-! ### powers of great numbers -/
def CPowX (i j : Int) : Prop := 0 ≤ j ∧ (Builtin.Int.intBits i : Int) * j ≤ 2 ^ 27
theorem op_powX {X : Cx} : OpR X (binaryOp .Pow) (rI CPowX fun i j => .int (i ^ j.toNat)) :=
  opI fun _ _ _ _ _ _ _ hc q => pow_int hc.1 hc.2 q
end Rm

set_option maxRecDepth 100000
set_option maxHeartbeats 4000000
namespace Rm
open PySem PySem.Spec L2
open PyProof.Rows hiding St

/-! ### what is called, in one word each -/
/-- the module's name x is a def that keeps sp -/
def Ce (P : Program) (w : World) (K : PySem.W.Frag) (mg : Str → Option Value) (base : Heap) (CX : CXT)
    (k : Nat) (x : Str) (ps : List Str) (sp : Sp) : Prop :=
  ∃ f fd, mg x = some (.ref f) ∧ PySem.W.keepIn K (.ref f) = true ∧ Binds K fd ps [] ∧
    FnG P w K mg base CX k f fd ps sp
/-- the class at C has the method m that keeps sp -/
def Cm (P : Program) (w : World) (K : PySem.W.Frag) (mg : Str → Option Value) (base : Heap) (CX : CXT)
    (k : Nat) (C : Addr) (m : Str) (ps : List Str) (sp : Sp) : Prop :=
  ∃ f fd, Cls K C ∧ Meth K C m f ∧ Binds K fd ps [] ∧ FnG P w K mg base CX k f fd ps sp
/-- the module's name x is a class whose __init__ keeps sp -/
def Cn (P : Program) (w : World) (K : PySem.W.Frag) (mg : Str → Option Value) (base : Heap) (CX : CXT)
    (k : Nat) (x : Str) (C : Addr) (ps : List Str) (sp : Sp) : Prop :=
  ∃ f fd, mg x = some (.ref C) ∧ Mk K C f ∧ Binds K fd ps [] ∧ FnG P w K mg base CX k f fd ps sp
/-- the class at C has the property m that keeps sp -/
def Cp (P : Program) (w : World) (K : PySem.W.Frag) (mg : Str → Option Value) (base : Heap) (CX : CXT)
    (k : Nat) (C : Addr) (m : Str) (sp : Sp) : Prop :=
  ∃ p g fd, Cls K C ∧ PropOf K C m p g ∧ Binds K fd ["self"] [] ∧ FnG P w K mg base CX k g fd ["self"] sp

section
variable {X : Cx} {CX : CXT} {k : Nat} {C : Addr} {ps : List Str} {sp : Sp}
variable {E : XK} {x m : Str} {p pos apos : Pos} {e o : Expr}
variable {es : List Expr} {ta : TE} {t : TA}
theorem pe_ce (D : Ce X.prog X.w X.K X.mg X.base CX k x ps sp) (hr : Room k X.A) (hG : Gd X.A)
    (ha : PA X (e :: es) t) (hx : Passes CX X E) (hg : Gl X x := by rfl)
    (hdb : (x == ("__debug__" : Str)) = false := by decide)
    (he : starEach (e :: es) X.env = (false, eval e X.env) :: starEach es X.env := by rfl)
    (hpl : (backTo pos (starEach es X.env)).any (·.1) = false := by rfl) :
    PE X (.Call (.Name x p) (e :: es) [] pos) (tCall sp [] E t) :=
  let ⟨_, _, hm, hk, hb, F⟩ := D
  pe_fn F hr hG hg hm hk hb .nil hx ha hdb he hpl
theorem pe_ce0 (D : Ce X.prog X.w X.K X.mg X.base CX k x ps sp) (hr : Room k X.A) (hG : Gd X.A)
    (hx : Passes CX X E) (hg : Gl X x := by rfl)
    (hdb : (x == ("__debug__" : Str)) = false := by decide) :
    PE X (.Call (.Name x p) [] [] pos) (tCall sp [] E tNil) :=
  let ⟨_, _, hm, hk, hb, F⟩ := D
  pe_fn0 F hr hG hg hm hk hb .nil hx hdb
theorem pe_cm {pl : Sem Bool} (D : Cm X.prog X.w X.K X.mg X.base CX k C m ps sp) (hr : Room k X.A)
    (hG : Gd X.A) (he : PE X o ta) (ha : PA X (e :: es) t) (hx : Passes CX X E)
    (hst : starEach (e :: es) X.env = (false, eval e X.env) :: starEach es X.env := by rfl)
    (hpl : (backTo pos (starEach es X.env)).any (·.1) = false := by rfl)
    (ht : eval (.Call (.Attribute o m apos) (e :: es) [] pos) X.env = (do
      let ov ← eval o X.env
      standAt apos.atName
      let (g, first) ← holding [ov] (getMethod ov m pl)
      callWith pos g first (backTo pos (starEach (e :: es) X.env))
        (backToKw pos (keywordEach [] X.env))) := by rfl) :
    PE X (.Call (.Attribute o m apos) (e :: es) [] pos) (tMeth C m sp [] E ta t) :=
  let ⟨_, _, c, hm, hb, F⟩ := D
  pe_mth he c hm F hr hG hb .nil hx ha hst hpl ht
theorem pe_cm0 {pl : Sem Bool} (D : Cm X.prog X.w X.K X.mg X.base CX k C m ps sp) (hr : Room k X.A)
    (hG : Gd X.A) (he : PE X o ta) (hx : Passes CX X E)
    (ht : eval (.Call (.Attribute o m apos) [] [] pos) X.env = (do
      let ov ← eval o X.env
      standAt apos.atName
      let (g, first) ← holding [ov] (getMethod ov m pl)
      callWith pos g first (backTo pos (starEach [] X.env))
        (backToKw pos (keywordEach [] X.env))) := by rfl) :
    PE X (.Call (.Attribute o m apos) [] [] pos) (tMeth C m sp [] E ta tNil) :=
  let ⟨_, _, c, hm, hb, F⟩ := D
  pe_mth0 he c hm F hr hG hb .nil hx ht
theorem pe_cn (D : Cn X.prog X.w X.K X.mg X.base CX k x C ps sp) (hr : Room (k + 1) X.A) (hG : Gd X.A)
    (ha : PA X (e :: es) t) (hx : Passes CX X E) (hg : Gl X x := by rfl)
    (hdb : (x == ("__debug__" : Str)) = false := by decide)
    (he : starEach (e :: es) X.env = (false, eval e X.env) :: starEach es X.env := by rfl)
    (hpl : (backTo pos (starEach es X.env)).any (·.1) = false := by rfl) :
    PE X (.Call (.Name x p) (e :: es) [] pos) (tMake C sp [] E t) :=
  let ⟨_, _, hm, M, hb, F⟩ := D
  pe_new M F hr hG hg hm hb .nil hx ha hdb he hpl
theorem pe_cn0 (D : Cn X.prog X.w X.K X.mg X.base CX k x C ps sp) (hr : Room (k + 1) X.A) (hG : Gd X.A)
    (hx : Passes CX X E) (hg : Gl X x := by rfl)
    (hdb : (x == ("__debug__" : Str)) = false := by decide) :
    PE X (.Call (.Name x p) [] [] pos) (tMake C sp [] E tNil) :=
  let ⟨_, _, hm, M, hb, F⟩ := D
  pe_new0 M F hr hG hg hm hb .nil hx hdb
end

/-! ### properties -/
section
variable {X : Cx} {CX : CXT} {k : Nat} {C : Addr} {sp : Sp} {E : XK} {f : Str} {pos : Pos} {e : Expr} {ta : TE}
theorem pe_cp (D : Cp X.prog X.w X.K X.mg X.base CX k C f sp) (hr : Room (k + 1) X.A) (hG : Gd X.A)
    (he : PE X e ta) (hx : Passes CX X.nox E)
    (hab : attributeBase e f X.env (eval e X.env) = eval e X.env := by rfl) :
    PE X (.Attribute e f pos) (tProp C sp [] E ta) := by
  obtain ⟨p, g, fd, c, hp, hb, F⟩ := D
  constructor
  intro pins s σ H Q I h
  refine attr_of hab (thn (he.run pins s σ H _ I h) fun u s1 ⟨x, H1, I1, rx, a, dx, fs, ex, ea, q⟩ => ?_)
  obtain rfl := ex
  have ru : u = Value.ref a := rx
  rw [ru]
  obtain ⟨mA, O, _⟩ := ins_get I1.hok ea
  obtain ⟨od, J, _⟩ := O.look
  obtain ⟨rest, hrec⟩ := hp.rec_
  have I2 := I1.tok (s1.toks + 1)
  have pg := PySem.W.plainGet_of (c.get f)
  have hc : (PySem.W.clsIn X.K C).isSome = true := by
    obtain ⟨cd, z, _⟩ := PySem.W.any_some c.hd
    rw [z]; rfl
  refine PySem.W.get_bind I1.kIn J pg.1 (PySem.W.findObj_data hc hp.at_ hp.get hp.tak) pg.2
    (wpAny_call (PySem.W.prop_get (s := { s1 with toks := s1.toks + 1 }) I1.kIn hrec ?_))
  refine codeAny_mono (F.run X.A.in1 X.stack _ H1 ⟨[.ref a], []⟩ [.ref a] [.ref a] Q E hr.in1 hG.in1
    I2.env0.in1 (hb _ [.ref a] I2.kIn rfl) (.cons rfl .nil) q) fun r s' hq => ?_
  match r, hq with
  | .error er, hq => exact False.elim (hx pins σ H1 _ er s' (I2.wish _) hq)
  | .ok (.ret v), hq =>
    obtain ⟨y, H', I3, rv, q3⟩ := I2.after hq
    show wpAny _ _ (handedOut v) _ _ _
    rw [PySem.W.handedOut_of (handed_of rv)]
    exact wpAny_pure ⟨y, H', I3, rv, q3⟩
  | .ok .next, hq => exact False.elim hq
  | .ok .brk, hq => exact False.elim hq
  | .ok .cont, hq => exact False.elim hq
end

/-! ### the tape -/
def tapeO (dg mx : Int) : HO := .dK [(.inr "digits", .int dg), (.inr "mixed", .int mx)]
structure TapeOk (dg mx : Int) : Prop where
  d0 : 0 ≤ dg
  m0 : 0 ≤ mx
  m1 : mx < 4294967296
def IsTape (o : HO) : Prop := ∃ dg mx, o = tapeO dg mx ∧ TapeOk dg mx
theorem s_dm : ¬ (("digits" : Str) = ("mixed" : Str)) := by decide +kernel
theorem s_md : ¬ (("mixed" : Str) = ("digits" : Str)) := by decide +kernel
theorem k_dm : ¬ ((Sum.inr ("digits" : Str) : Key) = Sum.inr ("mixed" : Str)) := by decide +kernel
theorem k_md : ¬ ((Sum.inr ("mixed" : Str) : Key) = Sum.inr ("digits" : Str)) := by decide +kernel
section
variable {H : Hp} {t : Addr} {dg mx z : Int}
theorem tape_dg (h : H t = some (tapeO dg mx)) : DGet H t (.str "digits") (some (.int dg)) := by
  have e := DGet.k (k := Sum.inr ("digits" : Str)) h
  rw [valV_pos rfl] at e
  exact e
theorem tape_mx (h : H t = some (tapeO dg mx)) : DGet H t (.str "mixed") (some (.int mx)) := by
  have e := DGet.k (k := Sum.inr ("mixed" : Str)) h
  rw [valV_neg k_dm, valV_pos rfl] at e
  exact e
theorem tape_pd (h : H t = some (tapeO dg mx)) : DPut H t (.str "digits") (.int z) (upd H t (tapeO z mx)) := by
  have e := DPut.k (k := Sum.inr ("digits" : Str)) (v := .int z) h (small1000 (by show 2 ≤ 1000; decide))
  have q : putK [((Sum.inr "digits" : Key), V.int dg), (.inr "mixed", .int mx)] (Sum.inr "digits") (V.int z)
      = [(.inr "digits", .int z), (.inr "mixed", .int mx)] := by
    unfold putK
    simp [s_md]
  rw [q] at e
  exact e
theorem tape_pm (h : H t = some (tapeO dg mx)) : DPut H t (.str "mixed") (.int z) (upd H t (tapeO dg z)) := by
  have e := DPut.k (k := Sum.inr ("mixed" : Str)) (v := .int z) h (small1000 (by show 2 ≤ 1000; decide))
  have q : putK [((Sum.inr "digits" : Key), V.int dg), (.inr "mixed", .int mx)] (Sum.inr "mixed") (V.int z)
      = [(.inr "digits", .int dg), (.inr "mixed", .int z)] := by
    unfold putK
    simp [s_dm]
  rw [q] at e
  exact e
end
/-- a number from 0 to many - 1; the tape goes on -/
def spPick : Sp := fun vs H Q _ => ∃ (t : Addr) (o : HO) (n : Int), vs = [.ref t, .int n] ∧ H t = some o ∧ IsTape o ∧
  1 ≤ n ∧ n ≤ 1000000 ∧ ∀ (k : Int) (o' : HO), 0 ≤ k → k < n → IsTape o' → Q (.int k) (upd H t o')
theorem bits32 {m : Int} (h0 : 0 ≤ m) (h1 : m < 4294967296) : Builtin.Int.intBits m ≤ 32 := by
  unfold Builtin.Int.intBits
  split
  · omega
  · have : m.natAbs.log2 < 32 := PySem.Flt.log2_lt_of (by decide) (by omega)
    omega
theorem pow32 {m j : Int} (h0 : 0 ≤ m) (h1 : m < 4294967296) (hj : 0 ≤ j) (hj2 : j ≤ 100) : CPowX m j := by
  refine ⟨hj, ?_⟩
  have b := bits32 h0 h1
  have : (Builtin.Int.intBits m : Int) * j ≤ 32 * 100 :=
    Int.mul_le_mul (by omega) hj2 hj (by decide)
  omega
end Rm

set_option maxRecDepth 100000
set_option maxHeartbeats 4000000
namespace Rm
open PySem PySem.Spec L2
open PyProof.Rows hiding St

theorem ib_lt {x : Int} {n : Nat} (h : Builtin.Int.intBits x ≤ n) : x.natAbs < 2 ^ n := by
  unfold Builtin.Int.intBits at h
  split at h
  · rename_i e
    have : x = 0 := by simpa using e
    subst this
    exact Nat.two_pow_pos n
  · rename_i e
    have e' : x.natAbs ≠ 0 := by
      intro z
      exact e (by simp [Int.natAbs_eq_zero.mp z])
    have q := (Nat.log2_lt e').1 (show x.natAbs.log2 < n by omega)
    exact q
theorem ib_of {x : Int} {n : Nat} (h : x.natAbs < 2 ^ n) : Builtin.Int.intBits x ≤ n := by
  unfold Builtin.Int.intBits
  split
  · omega
  · rename_i e
    have e' : x.natAbs ≠ 0 := by
      intro z
      exact e (by simp [Int.natAbs_eq_zero.mp z])
    have := (Nat.log2_lt e').2 h
    omega
theorem ib_mul {x y : Int} {n m : Nat} (h : Builtin.Int.intBits x ≤ n) (h' : Builtin.Int.intBits y ≤ m) :
    Builtin.Int.intBits (x * y) ≤ n + m := by
  apply ib_of
  rw [Int.natAbs_mul, Nat.pow_add]
  exact Nat.mul_lt_mul'' (ib_lt h) (ib_lt h')
theorem ib_mono {x : Int} {n m : Nat} (h : Builtin.Int.intBits x ≤ n) (hm : n ≤ m) : Builtin.Int.intBits x ≤ m :=
  Nat.le_trans h hm
theorem ib_add {x y : Int} {n : Nat} (h : Builtin.Int.intBits x ≤ n) (h' : Builtin.Int.intBits y ≤ n) :
    Builtin.Int.intBits (x + y) ≤ n + 1 := by
  apply ib_of
  have a := ib_lt h
  have b := ib_lt h'
  have c := Int.natAbs_add_le x y
  rw [Nat.pow_succ]
  omega
/-- the tape's mixing: the power of a cell's square -/
theorem mix_pow {m c : Int} (h0 : 0 ≤ m) (h1 : m < 4294967296) (hc : Builtin.Int.intBits c ≤ 1048576) :
    CMulX m 30013 ∧ CMulX c c ∧ CPowX (m * 30013 + c * c + 11) 2 := by
  have bm := bits32 h0 h1
  have b3 : Builtin.Int.intBits (30013 : Int) ≤ 32 := bits32 (by decide) (by decide)
  have b1 : Builtin.Int.intBits (11 : Int) ≤ 32 := bits32 (by decide) (by decide)
  have s1 := ib_add (n := 2097152) (ib_mono (ib_mul bm b3) (by decide)) (ib_mono (ib_mul hc hc) (by decide))
  have s2 := ib_add (n := 2097153) s1 (ib_mono b1 (by decide))
  refine ⟨?_, ?_, by decide, ?_⟩
  · unfold CMulX; omega
  · unfold CMulX; omega
  · have e : (2 : Int) ^ 27 = 134217728 := by decide
    rw [e]
    omega
/-- a list that is read stands while the tape goes on -/
theorem sq_tape {K : PySem.W.Frag} {H : Hp} {t l : Addr} {o o' : HO} {xs : List V} (h : SqL K H l xs)
    (ht : H t = some o) (ho : IsTape o) : SqL K (upd H t o') l xs := by
  obtain ⟨dg, mx, rfl, _⟩ := ho
  rcases h with (h | ⟨ob, h⟩) | h
  · have ne : l ≠ t := fun e => by
      subst e; rw [ht] at h; cases h
    exact .inl (.inl (by rw [upd_ne ne]; exact h))
  · have ne : l ≠ t := fun e => by
      subst e; rw [ht] at h; cases h
    exact .inl (.inr ⟨ob, by rw [upd_ne ne]; exact h⟩)
  · exact .inr h
/-- a drawn item -/
def spOne (K : PySem.W.Frag) : Sp := fun vs H Q _ => ∃ (t l : Addr) (o : HO) (xs : List V), vs = [.ref t, .ref l] ∧
  H t = some o ∧ IsTape o ∧ SqL K H l xs ∧ 1 ≤ xs.length ∧ xs.length ≤ 1000000 ∧
  ∀ (i : Nat) (v : V) (o' : HO), xs[i]? = some v → IsTape o' → Q v (upd H t o')
/-- a new tape -/
def spTape (K : PySem.W.Frag) : Sp := fun vs H Q _ => ∃ (a : Addr) (ns : List Int) (z : Int), vs = [.ref a, .int z] ∧
  SqL K H a (ns.map V.int) ∧ ns.length ≤ 63 ∧ (∀ n ∈ ns, Builtin.Int.intBits n ≤ 1048576) ∧ 0 ≤ z ∧ z ≤ 1000 ∧
  ∀ (p : Addr) (o : HO), H p = none → IsTape o → Q (.ref p) (upd H p o)
end Rm

set_option maxRecDepth 100000
set_option maxHeartbeats 4000000
namespace Rm
open PySem PySem.Spec L2
open PyProof.Rows hiding St

/-! ### an own error whose __init__ says super().__init__(text); self.y = y -/
/-- the built-in __init__, bound to the error e, is called -/
theorem call_mw {prog : Program} {w : World} {A : Around} {E : Value → Shared → Prop} {h : Heap}
    {g : Array GenState} {d : Drawn} {tk : Nat} {os : OsState} {u e C t0 : Addr} {dv : Option Addr}
    {rest : List Value} {Q : Value → Shared → Prop} {nm q : Str} {N : Addr} {bs bm : List Value}
    {hdct : Bool} {sn : List Str} {sub : List Value} {ab : Bool} {col : Option Bool} {dd : Option Addr}
    {k0 k1 k2 k3 k5 : Option Value}
    (hC : h.get? C = some (excClassObj nm q C N bs bm hdct sn sub ab col dd k0 k1 k2 k3 k5 "ValueError.__new__"))
    (he : h.get? e = some (PySem.W.excObj C t0 dv .none))
    (hu : h.get? u = some (PySem.W.kxs_mw "ValueError.__init__" e)) (hz : rest.length ≤ sizeLine)
    (k : ∀ h', (∀ b o, b ≠ e → h.get? b = some o → h'.get? b = some o) →
      h'.get? e = some (PySem.W.excObj C h.objs.size dv .none) → Q .none ⟨h', g, d, tk, os⟩) :
    wpAny (model prog w) A (call (.ref u) rest) Q E ⟨h, g, d, tk, os⟩ := by
  apply wpAny_call
  apply codeAny_of_tree
  show wpAny _ A.in1 (callAny (.ref u) ⟨rest, []⟩) _ _ _
  unfold callAny
  apply wpAny_bind
  apply wpAny_load hu
  have t1 : (Value.type "method-wrapper" == Value.type "method") = false := by decide
  have t2 : (Value.type "method-wrapper" == Value.type "builtin_function_or_method") = false := by decide
  have t3 : (Value.type "method-wrapper" == Value.type "method-wrapper") = true := by decide
  simp only [PySem.W.kxs_mw, t1, t2, t3, Bool.false_or, Bool.or_true, if_true]
  refine PySem.W.KFB.if_so (by decide) ?_
  apply wpAny_bind
  refine PySem.W.check_bound_init F.excBase_ValueError.toExcCallFacts hC he rfl ?_
  apply wpAny_pure
  refine ⟨plainId_quiet F.excBase_ValueError.init.plain _, codeAny_builtin F.excBase_ValueError.initEntry ?_⟩
  exact PySem.W.exc_init_tree (cls := .ref C) (t0 := t0) (dv := dv) (c2 := .none) (c3 := .none)
    (b4 := .bool false) he hz fun h' k1 k2 _ => k h' k1 k2

/-- what the written part says of the error class at C, its def f of __init__ (name, text), and what these lean on -/
structure ErrC (prog : Program) (K : PySem.W.Frag) (C f : Addr) (qual y : Str) (params : Arguments)
    (body : List Stmt) (scope : Scope) (fd : FuncData) : Prop where
  ox : OexC K C
  fn : ∃ (oc : Value) (od : Option Addr) (dV kV doc pm : Value) (an : Option Addr) (cda cc : Addr) (ct : Value)
    (osl : Array (Option Value)) (ccl cl : Value) (cdd cld : Option Addr) (vs : Array Value) (ccs csl : Array (Option Value)) (file : Str) (tf : Tok),
    fd = PySem.W.ksFn "__init__" qual params body scope dV kV doc pm an (.ref cda) ct cc ∧
    K.lookup f = some ⟨oc, od, .func fd, osl⟩ ∧ PySem.W.codeIn K (.ref cda) qual = true ∧
    K.lookup cda = some ⟨ccl, cdd, .fields vs, ccs⟩ ∧ vs[2]? = some (.str file tf) ∧
    ((prog.main.file : Str) == file) = true ∧ K.lookup cc = some ⟨cl, cld, .cell (some (.ref C)), csl⟩
  any_ : PySem.W.nsIn K cStatics "thirdparty.any" = some none
  sup : PySem.W.ks_superIn K C C "__init__" = some (some (.builtin "ValueError.__init__"))
  sub : PySem.W.subIn K (.ref C) (.type "ValueError") = some true
  self_ : PySem.W.mroIn K C (.ref C) = some true
  no : PySem.W.findIn K (.ref C) y = some none
  ini : PySem.W.findIn K (.ref C) "__init__" = some (some (.ref f))
  typ : PySem.W.typeIn K (.ref f) = some (.type "function")

/-- the promise of such an __init__ -/
def spErr (K : PySem.W.Frag) (C : Addr) (y : Str) : Sp := fun vs H Q _ => ∃ (a : Addr) (v : V), vs = [.ref a, v] ∧
  H a = some (exo a C none) ∧ ∀ dx, H dx = none → dx ≠ a →
    Q .non (upd (upd H dx (exd dx [(y, v)])) a (exo a C (some dx)))


section
variable {P : Program} {w : World} {K : PySem.W.Frag} {mg : Str → Option Value} {base : Heap}
theorem fn_err {f C : Addr} {fd : FuncData} {qual y : Str} {params : Arguments} {body : List Stmt} {scope : Scope}
    {CX : CXT} {msg : Str} {j : Nat} {p0 p1 p2 p3 p4 p5 q0 q1 q2 q3 : Pos} {ar : Arg} {ars : List Arg}
    (T : ErrC P K C f qual y params body scope fd)
    (hbody : body = [.Expr (.Call (.Attribute (.Call (.Name "super" p0) [] [] p1) "__init__" p2) [.Constant (.str msg) j p3] [] p4) p5,
      .Assign [.Attribute (.Name "self" q0) y q1] (.Name y q2) q3])
    (hsc : scope.names = ([(("self" : Str), NameKind.local), (y, .local), (("__class__" : Str), .free), (("super" : Str), .globalImplicit)] : List (Str × NameKind)))
    (hk : scope.kind = .function) (hco : scope.isCoroutine = false) (hgen : scope.isGenerator = false)
    (hpar : (params.posonlyargs ++ params.args).head? = some ar) (har : ar.arg = "self")
    (hsup : mg "super" = none) (htop : (P.main.scope.names.lookup ("super" : Str)).isSome = false)
    (hy1 : ¬ y = "self") (hy2 : ¬ y = "__class__") (hy3 : ¬ y = "super") (hmsg : msg.length ≤ 1000)
    {pl : Env → Sem Bool} (hev : ∀ env : Env,
      eval (.Call (.Attribute (.Call (.Name "super" p0) [] [] p1) "__init__" p2) [.Constant (.str msg) j p3] [] p4) env = (do
        let ov ← attributeBase (.Call (.Name "super" p0) [] [] p1) "__init__" env (eval (.Call (.Name "super" p0) [] [] p1) env)
        standAt p2.atName
        let (g, first) ← holding [ov] (getMethod ov "__init__" (pl env))
        callWith p4 g first (backTo p4 (starEach [.Constant (.str msg) j p3] env)) []))
    (hyd : (y == ("__debug__" : Str)) = false) (hyc : (y == ("__classdict__" : Str)) = false) :
    FnG P w K mg base CX 2 f fd ([("self" : Str), y] : List Str) (spErr K C y) := by
  refine ⟨fun vs H Q E h => ?_, fun A outer s H args us vs Q E hr hG e0 hb r hsp => ?_⟩
  · obtain ⟨a, v, rfl, _⟩ := h
    rfl
  obtain ⟨oc, od, dV, kV, doc, pm, an, cda, cc, ct, osl, ccl, cl, cdd, cld, fvs, ccs, csl, file, tf, rfl, lk, hcd, lcd, hvs, hfile, lcc⟩ := T.fn
  obtain ⟨a, v, rfl, ha, q⟩ := hsp
  obtain ⟨u0, u, rfl, r0, ru⟩ := vals2 r
  obtain rfl : u0 = Value.ref a := r0
  have up : ∀ b o, base.get? b = some o → s.heap.get? b = some o := fun b o e => (e0.bs b o e).1
  have KX : K.In s.heap := e0.mod.kin.keeps up
  have lim : s.heap.NoLimit := e0.mod.nolimit.keeps up
  have l1 : scope.names.lookup ("self" : Str) = some .local := by rw [hsc]; rfl
  have l2 : scope.names.lookup y = some .local := by
    rw [hsc]
    have e : (y == ("self" : Str)) = false := by simpa using hy1
    simp [List.lookup, e]
  have l3 : scope.names.lookup ("__class__" : Str) = some .free := by
    rw [hsc]
    have e : (("__class__" : Str) == y) = false := by simpa using fun z => hy2 z.symm
    have e2 : (("__class__" : Str) == ("self" : Str)) = false := by decide +kernel
    simp [List.lookup, e, e2]
  have l4 : scope.names.lookup ("super" : Str) = some .globalImplicit := by
    rw [hsc]
    have e : (("super" : Str) == y) = false := by simpa using fun z => hy3 z.symm
    have e2 : (("super" : Str) == ("self" : Str)) = false := by decide +kernel
    have e3 : (("super" : Str) == ("__class__" : Str)) = false := by decide +kernel
    simp [List.lookup, e, e2, e3]
  refine ks_codeAny_call_defAt (fd := PySem.W.ksFn "__init__" qual params body scope dV kV doc pm an (.ref cda) ct cc)
    (body := body) (binds := ([("self" : Str), y] : List Str).zip [Value.ref a, u]) hr.depth (KX _ _ lk) rfl lim
    (PySem.W.codeRec_of KX hcd) rfl hb ?_ ?_ (fun h1 hns hk1 => ?_) hco hgen hk
  · intro x hx
    have hx' : x ∈ scope.names := hx
    rw [hsc] at hx'
    simp only [List.mem_cons, List.not_mem_nil, or_false] at hx'
    rcases hx' with rfl | rfl | rfl | rfl <;> simp
  · intro x hx
    simp only [List.zip_cons_cons, List.zip_nil_left, List.mem_cons, List.not_mem_nil, or_false] at hx
    rcases hx with rfl | rfl
    · exact l1
    · exact l2
  generalize hE : callEnv (PySem.W.ksFn "__init__" qual params body scope dV kV doc pm an (.ref cda) ct cc) s.heap.objs.size f = env
  have eenv : env = PySem.W.ksEnv qual scope s.heap.objs.size f (.ref cda) cc := by rw [← hE] <;> rfl
  have hcells : env.cells = ([(("__class__" : Str), cc)] : List (Str × Addr)) := by rw [eenv]
  let X : Cx := { prog := P, w := w, K := K, mg := mg, base := base, A := A.deeper env, N := [("self" : Str), y], s_0 := s, H_0 := H, env := env, outer := outer, stack := env :: outer, ex := [], calm := true, fn := fun _ => false, pn := [], xe := fun _ _ => False }
  have bcc : base.get? cc = some ⟨cl, cld, .cell (some (.ref C)), csl⟩ := e0.mod.kin _ _ lcc
  have okX : X.Ok := {
    mod := e0.mod
    kind := by show env.scope.kind = .function; rw [eenv]; exact hk
    glob := by show env.globals = _; rw [eenv]
    blt := by show env.builtins = _; rw [eenv]
    above := by show s.heap.objs.size ≤ env.locals; rw [eenv]; exact Nat.le_refl _
    inj := fun x z c h1 h2 => by
      have h1' : env.cells.lookup x = some c := h1
      have h2' : env.cells.lookup z = some c := h2
      rw [hcells] at h1' h2'
      have k1 : x = "__class__" := by
        have := PySem.mem_of_lookup h1'
        simp at this; exact this.1
      have k2 : z = "__class__" := by
        have := PySem.mem_of_lookup h2'
        simp at this; exact this.1
      rw [k1, k2]
    has := fun x hx => by
      have hx' : scope.names.lookup x = some .cell ∨ scope.names.lookup x = some .free := by
        have z : env.scope.names.lookup x = some .cell ∨ env.scope.names.lookup x = some .free := hx
        rw [eenv] at z; exact z
      have hm : x = "__class__" := by
        rcases hx' with hx' | hx' <;> (have := PySem.mem_of_lookup hx'; rw [hsc] at this; simp at this)
        exact this
      exact ⟨cc, by show env.cells.lookup x = some cc; rw [hcells, hm]; rfl⟩
    cab := fun x c h _ => by cases h
    hd := fun _ => hr.hd
    frames := Around.frames_deeper e0.frames
    stk := .inr ⟨rfl, by show env.frame = some env.locals; rw [eenv]⟩
    exf := fun b z => by cases z
    bs := e0.bs
    bsz := e0.bsz
    noex := fun b o _ z => by cases z
    exfs := fun b z => by cases z
    funs := e0.funs
    frf := e0.frf }
  have elocs : env.locals = s.heap.objs.size := by rw [eenv]
  have ekind : env.scope.kind = .function := by rw [eenv]; exact hk
  have enames : env.scope.names = scope.names := by rw [eenv]
  have bm : ([("self" : Str), y].zip [Value.ref a, u]).reverse = [(y, u), (("self" : Str), Value.ref a)] := rfl
  rw [bm] at hns
  have ey : (("self" : Str) == y) = false := by simpa using fun z => hy1 z.symm
  have m1 : List.lookup ("self" : Str) [(y, u), (("self" : Str), Value.ref a)] = some (Value.ref a) := by
    simp [List.lookup, ey]
  have m2 : List.lookup y [(y, u), (("self" : Str), Value.ref a)] = some u := by
    simp [List.lookup]
  have hns' : h1.Ns env.locals (fun x => List.lookup x [(y, u), (("self" : Str), Value.ref a)]) := by rw [elocs]; exact hns
  have hcc1 : (Heap.IsCell h1 cc (some (.ref C))) := ⟨_, hk1 _ _ (up _ _ bcc), rfl⟩
  have onecell : ∀ x c, env.cells.lookup x = some c → c = cc := fun x c hx => by
    rw [hcells] at hx
    have := PySem.mem_of_lookup hx
    simp at this
    exact this.2
  have I : Inv X [] [some (.ref a), some v] H { s with heap := h1, toks := s.toks + ([("self" : Str), y].zip [Value.ref a, u]).length } := {
    ok := okX
    os := rfl
    bare := e0.bare
    base := Un.kept hk1
    loc := ⟨_, hns', fun i x z n1 n2 n3 => by
      match i, n1, n2 with
      | 0, n1, n2 =>
        cases (show some ("self" : Str) = some x from n1)
        cases (show some (some (V.ref a)) = some (some z) from n2)
        exact ⟨_, rfl, .inl ⟨by show env.scope.names.lookup _ = _; rw [enames]; exact l1, m1⟩⟩
      | 1, n1, n2 =>
        cases (show some y = some x from n1)
        cases (show some (some v) = some (some z) from n2)
        exact ⟨u, ru, .inl ⟨by show env.scope.names.lookup _ = _; rw [enames]; exact l2, m2⟩⟩
      | i + 2, n1, n2 => cases (show (none : Option Str) = some x from n1)⟩
    cell := fun x c hx => ⟨some (.ref C), (onecell x c hx).symm ▸ hcc1⟩
    free := by show H env.locals = none; rw [elocs]; exact e0.hok.fresh (Nat.le_refl _)
    freeC := fun x c hx => by rw [onecell x c hx]; exact (e0.bs _ _ bcc).2
    pin := fun p hp => by cases hp
    hok := e0.hok.kept hk1
    len := rfl }
  subst hbody
  obtain ⟨nm, qn, N, bs, bm', sn, sub, ab, col, dd, k0, k1, k2, k3, k5, lC, hbm⟩ := T.ox.cls
  have hcl : PySem.W.clsIn K C = some { name := nm, bases := bs, mro := .ref C :: bm', ns := N, qualname := qn, hasDict := true, slotNames := sn, subclasses := sub, abstract := ab, collection := col, hasDel := false } := by
    unfold PySem.W.clsIn; rw [lC] <;> rfl
  refine ks_wpAt_execs_cons (ks_wpAt_Expr_any (ks_wpAt_MethodCall ?_ (hev env)) I.quiet)
  have e1 : env.kindOf "super" = some .globalImplicit := by show env.scope.names.lookup _ = _; rw [enames]; exact l4
  have e2 : env.kindOf "__class__" = some .free := by show env.scope.names.lookup _ = _; rw [enames]; exact l3
  have e3 : env.kindOf "self" = some .local := by show env.scope.names.lookup _ = _; rw [enames]; exact l1
  have e4 : env.func = some f := by rw [eenv]
  have e5 : env.code = .ref cda := by rw [eenv]
  refine ks_wpAt_super_base e1 e2 (by decide +kernel) e4 (hk1 _ _ (KX _ _ lk)) rfl hpar e5 (hk1 _ _ (KX _ _ lcd)) rfl hvs hfile htop ?_
  obtain ⟨mb, b1, b2⟩ := e0.mod.blt
  have up1 : ∀ b o, base.get? b = some o → h1.get? b = some o := fun b o e => hk1 _ _ (up b o e)
  have g1 : env.globals = mainGlobals := by rw [eenv]
  have g2 : env.builtins = builtinsNs := by rw [eenv]
  refine PySem.W.ks_loadName_global ekind e1 (Calls.loadGlobal_builtin (by rw [g1]; exact e0.mod.glob.keeps up1) hsup (by rw [g2]; exact b1.keeps up1) ((b2 _ (by decide +kernel)).trans (by decide +kernel)) ⟨rfl, ?_⟩)
  refine wpAny_loadName_free ekind e2 (by rw [hcells]; rfl) hcc1 ?_
  rw [har]
  refine wpAny_loadName_local ekind e3 hns' m1 ?_
  have KX1 : K.In h1 := KX.keeps hk1
  refine ks_wpAny_isType_cls (KX1 _ _ lC) rfl ⟨rfl, ?_⟩
  obtain ⟨t1, hx1⟩ := exo_at I.hok ha
  have iat : PySem.W.InstAt h1 a (PySem.W.excObj C t1 none .none) C none := ⟨hx1, rfl, rfl, trivial⟩
  refine ks_wpAny_call_super (KX1 _ _ lC) rfl hx1 rfl (fun c e => by cases e) (PySem.W.looks_mroIn KX1 T.self_) fun h2 hso hk2 => ?_
  have I2 := I.kept (t' := s.toks + ([("self" : Str), y].zip [Value.ref a, u]).length) hk2
  have KX2 : K.In h2 := KX1.keeps hk2
  have iat2 : PySem.W.InstAt h2 a (PySem.W.excObj C t1 none .none) C none := ⟨hk2 _ _ hx1, rfl, rfl, trivial⟩
  have hsu := T.sup
  unfold PySem.W.ks_superIn at hsu
  rw [hcl] at hsu
  refine PySem.W.kxs_getMethod PySem.W.kxs_ValueError hso (PySem.W.looks_opaque KX2 T.any_) (l₀ := .ref C :: bm')
    ((PySem.W.looks_clsIn KX2 hcl).andThen .now) rfl KX2 hsu (iat2.type.andThen (PySem.W.looks_subIn KX2 T.sub))
    (PySem.W.ks_ne KX2 iat2 hcl) (by decide +kernel) ?_
  have kp : ∀ b o, h2.get? b = some o → (h2.push (PySem.W.kxs_mw "ValueError.__init__" a)).get? b = some o :=
    fun b o e => Heap.get?_push_of_some _ e
  have I3 := I2.kept (t' := s.toks + ([("self" : Str), y].zip [Value.ref a, u]).length + 1) kp
  have hmw : (h2.push (PySem.W.kxs_mw "ValueError.__init__" a)).get? h2.objs.size = some (PySem.W.kxs_mw "ValueError.__init__" a) := Heap.get?_push_at rfl rfl
  refine PySem.W.kxs_callWith (i := "ValueError.__init__") (x := a) rfl (Calls.evalArgs_plain ?_)
  refine Calls.spliced_cons (Calls.Constant_str (k := j) (pos := p3) ?_)
  refine Calls.spliced_nil ⟨hmw, ?_⟩
  have I3' := I3.tok (s.toks + ([("self" : Str), y].zip [Value.ref a, u]).length + 1 + 1)
  refine call_mw ((KX2.keeps kp) _ _ lC) (kp _ _ (hk2 _ _ hx1)) hmw (by show 1 ≤ sizeLine; decide) fun h4 k4 hx4 => ?_
  have J := I3'.write (t' := s.toks + ([("self" : Str), y].zip [Value.ref a, u]).length + 1 + 1) (x := a) (e := a) (o := exo a C none) (by rw [ha]; exact True.intro) (.inl rfl) k4 ⟨_, hx4⟩ (exo_ok hx4)
  have eu : upd H a (exo a C none) = H := by
    funext b
    by_cases hb' : b = a
    · rw [hb', upd_same, ha]
    · rw [upd_ne hb']
  rw [eu] at J
  show PySem.wpAt _ _ _ _ _ _ _
  refine wpAt_of_wpAny ?_
  have P1 : PE X (.Name "self" q0) (tVar 0) := pe_var (i := 0) rfl (.inl e3) (by decide) (by decide)
  have P2 : PE X (.Name y q2) (tVar 1) := pe_var (i := 1) rfl (.inl (by show env.scope.names.lookup _ = _; rw [enames]; exact l2)) hyd hyc
  have body2 : PSs X [.Assign [.Attribute (.Name "self" q0) y q1] (.Name y q2) q3] (tOst K y (tVar 0) (tVar 1)) := pss_one (ps_ost P1 P2)
  refine wpAny_mono (body2.run [] _ _ H { nx := fun _ H' => Q .non H', rt := fun _ _ => False } J
    ⟨v, rfl, V.ref a, rfl, a, C, rfl, T.ox, T.no, .inl ⟨ha, fun dx n ne => q dx n ne⟩⟩) (fun fl s' hs => ?_) fun _ _ z => False.elim z
  match fl, hs with
  | .next, ⟨σ', H', J', q'⟩ => exact ⟨V.non, H', J'.os, J'.bare, J'.base, J'.hok, rfl, q'⟩
  | .ret _, ⟨_, _, _, _, _, q'⟩ => exact False.elim q'
  | .brk, ⟨_, _, _, q'⟩ => exact False.elim q'
  | .cont, ⟨_, _, _, q'⟩ => exact False.elim q'
end
end Rm

set_option maxRecDepth 100000
set_option maxHeartbeats 4000000
namespace Rm
open PySem PySem.Spec L2
open PyProof.Rows hiding St

/-- an own error class: x names the class at C, whose __init__ stores y -/
def Er (P : Program) (w : World) (K : PySem.W.Frag) (mg : Str → Option Value) (base : Heap) (x : Str)
    (C : Addr) (y : Str) : Prop :=
  ∃ f fd, mg x = some (.ref C) ∧ OexC K C ∧ PySem.W.findIn K (.ref C) "__init__" = some (some (.ref f)) ∧
    PySem.W.typeIn K (.ref f) = some (.type "function") ∧ PySem.W.keepIn K (.ref C) = true ∧
    Binds K fd [("self" : Str), y] [] ∧ FnG P w K mg base CX0 2 f fd [("self" : Str), y] (spErr K C y)

section
variable {X : Cx} {C : Addr} {y : Str}
/-- the call of the class: what stands behind it -/
structure Born (X : Cx) (pins : List (Addr × Obj)) (σ : L2.St) (H : Hp) (s : Shared) (C : Addr) (y : Str) (v : V) (u : Value) (s' : Shared) : Prop where
  ex : ∃ (a d : Addr) (hp2 : Heap), u = .ref a ∧ s.heap.objs.size ≤ a ∧ H a = none ∧ H d = none ∧ d ≠ a ∧
    (∀ b o, s.heap.get? b = some o → hp2.get? b = some o) ∧
    Un (frs X.stack) [] (upd H a (exo a C none)) (upd (upd (upd H a (exo a C none)) d (exd d [(y, v)])) a (exo a C (some d))) hp2 s'.heap ∧
    HOk X.prog X.w (upd (upd (upd H a (exo a C none)) d (exd d [(y, v)])) a (exo a C (some d))) s'.heap ∧ s'.os = s.os ∧ AllBare s'.gens

theorem born {x : Str} {pins : List (Addr × Obj)} {σ : L2.St} {H : Hp} {s : Shared} {v : V} {u : Value} {E : Value → Shared → Prop}
    (D : Er X.prog X.w X.K X.mg X.base x C y) (hr : Room 3 X.A) (hG : Gd X.A) (I : Inv X pins σ H s) (r : RelV v u) :
    wpAny (model X.prog X.w) X.A (call (.ref C) [u]) (Born X pins σ H s C y v) E s := by
  obtain ⟨f, fd, hm, T, iC, tI, kC, hb, F0⟩ := D
  obtain ⟨nm, q, N, bs, bm, sn, sub, ab, col, dd, k0, k1, k2, k3, k5, lC, hbm⟩ := T.cls
  obtain ⟨hp, g, dr, tk, os⟩ := s
  have one : hp.objs.size ≤ hp.objs.size + 1 := Nat.le_succ _
  have hn : H (hp.objs.size + 1) = none := I.hok.fresh one
  let hp2 := (hp.push (PySem.W.kdv_tup [u])).push (PySem.HandSPX.excO C hp.objs.size)
  have kk : ∀ b o, hp.get? b = some o → hp2.get? b = some o := fun b o e =>
    Heap.get?_push_of_some _ (Heap.get?_push_of_some _ e)
  have hget : hp2.get? (hp.objs.size + 1) = some (PySem.HandSPX.excO C hp.objs.size) := by
    show ((hp.push _).push _).get? _ = _
    heap_get
  have I2 := I.laid (t' := tk) (a := hp.objs.size + 1) (o := exo (hp.objs.size + 1) C none) (h' := hp2) kk one (exo_ok hget)
  have both : Vals [V.ref (hp.objs.size + 1), v] [Value.ref (hp.objs.size + 1), u] := .cons rfl (.cons r .nil)
  have hsp : spErr X.K C y [V.ref (hp.objs.size + 1), v] (upd H (hp.objs.size + 1) (exo (hp.objs.size + 1) C none))
      (fun z H2 => z = .non ∧ ∃ d, H d = none ∧ d ≠ hp.objs.size + 1 ∧
        H2 = upd (upd (upd H (hp.objs.size + 1) (exo (hp.objs.size + 1) C none)) d (exd d [(y, v)])) (hp.objs.size + 1) (exo (hp.objs.size + 1) C (some d)))
      (fun _ _ _ => False) :=
    ⟨_, v, rfl, upd_same, fun d n ne => ⟨rfl, d, by rw [upd_ne ne] at n; exact n, ne, rfl⟩⟩
  refine wpAny_call (PySem.HandSPX.call_own F.excBase_ValueError (fun Y => PySem.HandSPX.refsVE_contains Y bm hbm)
    (I.kIn _ _ lC) (PySem.W.looks_findIn I.kIn iC) (fun self => PySem.W.bind_fn I.kIn self tI) (by show 1 ≤ sizeLine; decide)
    (codeAny_mono (F0.run _ X.stack _ _ ⟨[Value.ref (hp.objs.size + 1), u], []⟩ _ _ _ (fun _ _ _ => False)
      (hr.make C [u] []) (hG.make C [u] []) (I2.env0.make C [u] []) (hb _ [Value.ref (hp.objs.size + 1), u] I2.kIn rfl) both hsp)
      fun rr s' hq => ?_))
  match rr, hq with
  | .ok (.ret z), ⟨zz, H2, os2, bare2, un2, hok2, rz, ez, d, hd, ne, eH⟩ =>
    subst ez
    subst eH
    exact ⟨rz, ⟨_, d, hp2, rfl, one, hn, hd, ne, kk, un2, hok2, os2, bare2⟩⟩
  | .error er, hq => exact False.elim hq
  | .ok .next, hq => exact False.elim hq
  | .ok .brk, hq => exact False.elim hq
  | .ok .cont, hq => exact False.elim hq

theorem born_eq {H : Hp} {a d : Addr} {o1 o2 o3 : HO} (ne : d ≠ a) :
    upd (upd (upd H a o1) d o2) a o3 = upd (upd H d o2) a o3 := by
  funext b
  by_cases h1 : b = a
  · rw [h1, upd_same, upd_same]
  · rw [upd_ne h1, upd_ne h1]
    by_cases h2 : b = d
    · rw [h2, upd_same, upd_same]
    · rw [upd_ne h2, upd_ne h2, upd_ne h1]

/-- C(e) as a value: a new error, its dict -/
def tBorn (C : Addr) (y : Str) (te : TE) : TE := fun σ H Q => tCons te tNil σ H fun vs H1 => ∃ v, vs = [v] ∧ ∀ a d, H1 a = none → H1 d = none → d ≠ a →
  Q (.ref a) (upd (upd H1 d (exd d [(y, v)])) a (exo a C (some d)))
/-- C(e) to be raised: its dict stands as an exception's dict -/
def tErr (C : Addr) (y : Str) (te : TE) : L2.St → Hp → XK → Prop := fun σ H Q => tCons te tNil σ H fun vs H1 => ∃ v, vs = [v] ∧ ∀ d, H1 d = none →
  Q (.ref C) (some d) (upd H1 d (.xd [(y, v)]))
variable {x : Str} {e : Expr} {te : TE} {p pos : Pos}
theorem pe_er (D : Er X.prog X.w X.K X.mg X.base x C y) (hr : Room 3 X.A) (hG : Gd X.A) (he : PE X e te) (hg : Gl X x := by rfl)
    (hdb : (x == ("__debug__" : Str)) = false := by decide)
    (hs : starEach [e] X.env = (false, eval e X.env) :: starEach [] X.env := by rfl)
    (hpl : (backTo pos (starEach [] X.env)).any (·.1) = false := by rfl) :
    PE X (.Call (.Name x p) [e] [] pos) (tBorn C y te) := by
  have D' := D
  obtain ⟨f, fd, hm, T, iC, tI, kC, hb, F0⟩ := D'
  refine ⟨fun pins s σ H Q I h => wpAny_Call_Name_kw (ld_glob I hg hm
    (PySem.W.callWith_K (h₀ := X.base) I.ok.mod.kin kC
      (thn ((pa_cons (X := X) (es := []) he pa_nil hs).run pos pins s σ H _ I (show tCons te tNil σ H _ from h)) fun us s1 ⟨vs, H1, I1, r, v, ev, q⟩ => ⟨I1.kIn, ?_⟩) hs hpl) hdb)⟩
  subst ev
  obtain ⟨u, rfl, ru⟩ := vals1 r
  refine thn (born D hr hG I1 ru) fun u2 s2 B => ?_
  obtain ⟨a, d, hp2, rfl, sz, na, nd, ne, kk, un, hok, ho, hb2⟩ := B.ex
  rw [born_eq ne] at un hok
  refine ⟨.ref a, _, ?_, rfl, q a d na nd ne⟩
  have un0 : Un (frs X.stack) [] H1 (upd (upd H1 d (exd d [(y, v)])) a (exo a C (some d))) s1.heap s2.heap := by
    have nha : ∀ {b : Addr} {o : Obj}, s1.heap.get? b = some o → b ≠ a := fun z => Nat.ne_of_lt (Nat.lt_of_lt_of_le (Heap.lt_size z) sz)
    have upn : ∀ {b : Addr}, b ≠ a → H1 b = none → upd H1 a (exo a C none) b = none := fun hb n => by rw [upd_ne hb]; exact n
    exact {
      keep := fun b o z n hf hx => un.keep b o (kk b o z) (upn (nha z) n) hf hx
      slot := fun b o z n hf hx => un.slot b o (kk b o z) (upn (nha z) n) hf hx
      free := fun b o z n hx => un.free b o (kk b o z) (upn (nha z) n) hx
      there := fun b o z hx => un.there b o (kk b o z) hx
      tups := fun b xs z => un.tups b xs (by rw [upd_ne (ne_of_none z na)]; exact z)
      frzs := fun b o w z => un.frzs b o w (by rw [upd_ne (ne_of_none z na)]; exact z)
      tbls := fun b ps z => un.tbls b ps (by rw [upd_ne (ne_of_none z na)]; exact z) }
  exact I1.call' (ch := []) ho un0 hok hb2 fun b z => absurd z (by simp)
/-- raise C(e) -/
theorem pmk_er (D : Er X.prog X.w X.K X.mg X.base x C y) (hr : Room 3 X.A) (hG : Gd X.A) (he : PE X e te) (hg : Gl X x := by rfl)
    (hdb : (x == ("__debug__" : Str)) = false := by decide)
    (hs : starEach [e] X.env = (false, eval e X.env) :: starEach [] X.env := by rfl)
    (hpl : (backTo pos (starEach [] X.env)).any (·.1) = false := by rfl) :
    PMk X (.Call (.Name x p) [e] [] pos) (tErr C y te) := by
  have D' := D
  obtain ⟨f, fd, hm, T, iC, tI, kC, hb, F0⟩ := D'
  intro pins s σ H Q I h
  refine wpAny_Call_Name_kw (ld_glob I hg hm (PySem.W.callWith_K (h₀ := X.base) I.ok.mod.kin kC
    (thn ((pa_cons (X := X) (es := []) he pa_nil hs).run pos pins s σ H _ I (show tCons te tNil σ H _ from h)) fun us s1 ⟨vs, H1, I1, r, v, ev, q⟩ => ⟨I1.kIn, ?_⟩) hs hpl) hdb)
  subst ev
  obtain ⟨u, rfl, ru⟩ := vals1 r
  refine thn (born D hr hG I1 ru) fun u2 s2 B => ?_
  obtain ⟨a, d, hp2, rfl, sz, na, nd, ne, kk, un, hok, ho, hb2⟩ := B.ex
  obtain ⟨h1, g1, d1, t1, o1⟩ := s1
  obtain ⟨h2, g2, d2, t2, o2⟩ := s2
  have q2 := q d nd
  have eq : upd (del (upd (upd (upd H1 a (exo a C none)) d (exd d [(y, v)])) a (exo a C (some d))) a) d (.xd [(y, v)]) = upd H1 d (.xd [(y, v)]) := by
    funext b
    by_cases h1 : b = d
    · rw [h1, upd_same, upd_same]
    · rw [upd_ne h1, upd_ne h1]
      by_cases h2 : b = a
      · rw [h2, del_same, na]
      · rw [del_ne h2, upd_ne h2, upd_ne h1, upd_ne h2]
  rw [← eq] at q2
  have ed : (upd (upd (upd H1 a (exo a C none)) d (exd d [(y, v)])) a (exo a C (some d))) d = some (exd d [(y, v)]) := by
    rw [upd_ne ne, upd_same]
  exact mk_end (raises_own T.exC T.tyC) I1 sz kk un hok ho hb2 upd_same ed nd q2
end
end Rm

set_option maxRecDepth 100000
set_option maxHeartbeats 4000000
namespace Rm
open PySem PySem.Spec L2
open PyProof.Rows hiding St

/-! ### calls whose errors are wished for at the caller's names -/
section
variable {X : Cx} {CX : CXT} {k : Nat} {f C : Addr} {fd : FuncData} {ps : List Str} {sp : Sp}
variable {dvs : List V} {ds : List Value} {E : L2.St → XK} {x m : Str} {p pos apos : Pos} {e o : Expr}
variable {es : List Expr} {ta : TE} {t : TA}
/-- behind a callee's end -/
theorem cameS {pins : List (Addr × Obj)} {σ : St} {H : Hp} {s s' : Shared} {Q : VK} {r : Result}
    (hx : ∀ σ, PassesAt CX X σ (E σ)) (I : Inv X pins σ H s)
    (hq : CR CX X.stack X.prog X.w H s Q (E σ) r s') :
    wants (EP X pins σ Q) X.xe r s' := by
  match r, hq with
  | .error e, hq => exact hx σ pins H s e s' I hq
  | .ok (.ret u), hq => exact I.after hq
  | .ok .next, hq => exact False.elim hq
  | .ok .brk, hq => exact False.elim hq
  | .ok .cont, hq => exact False.elim hq

theorem goesS {pins : List (Addr × Obj)} {σ : St} {H : Hp} {s : Shared} {Q : VK}
    {us : List Value} {vs : List V}
    (F : FnG X.prog X.w X.K X.mg X.base CX k f fd ps sp) (hr : Room k X.A) (hG : Gd X.A)
    (hb : Binds X.K fd ps ds) (hd : Vals dvs ds) (hx : ∀ σ, PassesAt CX X σ (E σ))
    (I : Inv X pins σ H s) (r : Vals vs us) (h : sp (vs ++ dvs) H Q (E σ)) :
    wpAny (model X.prog X.w) X.A (call (.ref f) us) (EP X pins σ Q) X.xe s := by
  have both := r.append hd
  have hl : (us ++ ds).length = ps.length := both.length.symm.trans (F.len _ _ _ _ h)
  exact wpAny_call (codeAny_mono (F.run X.A X.stack s H ⟨us, []⟩ _ _ Q (E σ) hr hG I.env0
    (hb s us I.kIn hl) both h) fun r s' hq => cameS hx I hq)

theorem growsS {pins : List (Addr × Obj)} {σ : St} {H : Hp} {s : Shared} {Q : VK}
    {us : List Value} {vs : List V} (M : Mk X.K C f)
    (F : FnG X.prog X.w X.K X.mg X.base CX k f fd ps sp) (hr : Room (k + 1) X.A) (hG : Gd X.A)
    (hb : Binds X.K fd ps ds) (hd : Vals dvs ds) (hx : ∀ σ, PassesAt CX X σ (E σ))
    (I : Inv X pins σ H s) (r : Vals vs us)
    (h : ∀ y dx, H y = none → H dx = none → dx ≠ y →
      sp (.ref y :: (vs ++ dvs)) (upd (upd H dx (.own y)) y (.ins C dx []))
        (fun v H2 => v = .non ∧ Q (.ref y) H2) (E σ)) :
    wpAny (model X.prog X.w) X.A (call (.ref C) us) (EP X pins σ Q) X.xe s := by
  have n1 : H (s.heap.objs.size + 1) = none := I.hok.fresh (Nat.le_succ _)
  have n0 : H s.heap.objs.size = none := I.hok.fresh (Nat.le_refl _)
  have hq := h _ _ n1 n0 (Nat.ne_of_lt (Nat.lt_succ_self _))
  have I2 := Inv.made (C := C) I
  have both : Vals (V.ref (s.heap.objs.size + 1) :: (vs ++ dvs))
      (Value.ref (s.heap.objs.size + 1) :: (us ++ ds)) := .cons rfl (r.append hd)
  have hl : (Value.ref (s.heap.objs.size + 1) :: us ++ ds).length = ps.length :=
    both.length.symm.trans (F.len _ _ _ _ hq)
  refine wpAny_call (make_map (f := f) I.kIn M.makes M.init (beq_iff_eq.mp M.fn)
    (codeAny_mono (F.run _ X.stack _ _ ⟨Value.ref (s.heap.objs.size + 1) :: us, []⟩ _ _ _ (E σ)
      (hr.make C us []) (hG.make C us []) (I2.env0.make C us [])
      (hb _ (Value.ref (s.heap.objs.size + 1) :: us) I2.kIn hl) both hq) fun r s' hq' => ?_))
  match r, hq' with
  | .error er, hq' => exact hx σ pins _ _ er s' I2 hq'
  | .ok (.ret u), hq' =>
    obtain ⟨v, H', I3, rv, ev, q3⟩ := I2.after hq'
    subst ev
    exact ⟨rv, V.ref (s.heap.objs.size + 1), H', I3, rfl, q3⟩
  | .ok .next, hq' => exact False.elim hq'
  | .ok .brk, hq' => exact False.elim hq'
  | .ok .cont, hq' => exact False.elim hq'


def tCallE (sp : Sp) (E : L2.St → XK) (t : TA) : TE := fun σ H Q => t σ H fun vs H1 => sp vs H1 Q (E σ)
def tMethE (C : Addr) (m : Str) (sp : Sp) (E : L2.St → XK) (ta : TE) (t : TA) : TE := fun σ H Q => ta σ H fun x H1 =>
  ∃ a dx fs, x = .ref a ∧ H1 a = some (.ins C dx fs) ∧ fs.lookup m = none ∧ t σ H1 fun vs H2 => sp (x :: vs) H2 Q (E σ)
def tMakeE (C : Addr) (sp : Sp) (E : L2.St → XK) (t : TA) : TE := fun σ H Q => t σ H fun vs H1 => ∀ x dx, H1 x = none → H1 dx = none → dx ≠ x →
  sp (.ref x :: vs) (upd (upd H1 dx (.own x)) x (.ins C dx [])) (fun v H2 => v = .non ∧ Q (.ref x) H2) (E σ)
theorem pe_ceE (D : Ce X.prog X.w X.K X.mg X.base CX k x ps sp) (hr : Room k X.A) (hG : Gd X.A)
    (ha : PA X (e :: es) t) (hx : ∀ σ, PassesAt CX X σ (E σ)) (hg : Gl X x := by rfl)
    (hdb : (x == ("__debug__" : Str)) = false := by decide)
    (he : starEach (e :: es) X.env = (false, eval e X.env) :: starEach es X.env := by rfl)
    (hpl : (backTo pos (starEach es X.env)).any (·.1) = false := by rfl) :
    PE X (.Call (.Name x p) (e :: es) [] pos) (tCallE sp E t) :=
  let ⟨_, _, hm, hk, hb, F⟩ := D
  ⟨fun pins s σ H Q I h => wpAny_Call_Name_kw (ld_glob I hg hm
    (PySem.W.callWith_K (h₀ := X.base) I.ok.mod.kin hk
      (thn (ha.run pos pins s σ H _ I h) fun us s1 ⟨vs, H1, I1, r, q⟩ =>
        ⟨I1.kIn, goesS (dvs := []) (ds := []) F hr hG hb .nil hx I1 r (by rw [List.append_nil]; exact q)⟩) he hpl) hdb)⟩
theorem pe_cnE (D : Cn X.prog X.w X.K X.mg X.base CX k x C ps sp) (hr : Room (k + 1) X.A) (hG : Gd X.A)
    (ha : PA X (e :: es) t) (hx : ∀ σ, PassesAt CX X σ (E σ)) (hg : Gl X x := by rfl)
    (hdb : (x == ("__debug__" : Str)) = false := by decide)
    (he : starEach (e :: es) X.env = (false, eval e X.env) :: starEach es X.env := by rfl)
    (hpl : (backTo pos (starEach es X.env)).any (·.1) = false := by rfl) :
    PE X (.Call (.Name x p) (e :: es) [] pos) (tMakeE C sp E t) :=
  let ⟨_, _, hm, M, hb, F⟩ := D
  ⟨fun pins s σ H Q I h => wpAny_Call_Name_kw (ld_glob I hg hm
    (PySem.W.callWith_K (h₀ := X.base) I.ok.mod.kin M.kp
      (thn (ha.run pos pins s σ H _ I h) fun us s1 ⟨vs, H1, I1, r, q⟩ =>
        ⟨I1.kIn, growsS (dvs := []) (ds := []) M F hr hG hb .nil hx I1 r (by rw [List.append_nil]; exact q)⟩) he hpl) hdb)⟩
theorem pe_cmE {pl : Sem Bool} (D : Cm X.prog X.w X.K X.mg X.base CX k C m ps sp) (hr : Room k X.A)
    (hG : Gd X.A) (he : PE X o ta) (ha : PA X (e :: es) t) (hx : ∀ σ, PassesAt CX X σ (E σ))
    (hst : starEach (e :: es) X.env = (false, eval e X.env) :: starEach es X.env := by rfl)
    (hpl : (backTo pos (starEach es X.env)).any (·.1) = false := by rfl)
    (ht : eval (.Call (.Attribute o m apos) (e :: es) [] pos) X.env = (do
      let ov ← eval o X.env
      standAt apos.atName
      let (g, first) ← holding [ov] (getMethod ov m pl)
      callWith pos g first (backTo pos (starEach (e :: es) X.env))
        (backToKw pos (keywordEach [] X.env))) := by rfl) :
    PE X (.Call (.Attribute o m apos) (e :: es) [] pos) (tMethE C m sp E ta t) := by
  obtain ⟨f, fd, c, hm, hb, F⟩ := D
  constructor
  intro pins s σ H Q I h
  refine PySem.W.methodCall_KW (pl := pl)
    (thn (he.run pins s σ H _ I h) fun u s1 ⟨y, H1, I1, ry, a, dx, fs, ey, ea, l, q⟩ => ?_) ht
  obtain rfl := ey
  have ru : u = Value.ref a := ry
  rw [ru]
  exact getmeth_ok I1 ea c hm l (PySem.W.callWith_K (first := [.ref a]) (h₀ := X.base)
    I.ok.mod.kin hm.kp (thn (ha.run pos pins s1 σ H1 _ I1 q) fun us s2 ⟨vs, H2, I2, r, q2⟩ =>
      ⟨I2.kIn, goesS (dvs := []) (ds := []) (us := .ref a :: us) (vs := .ref a :: vs) F hr hG hb .nil hx I2 (.cons rfl r) (by rw [List.append_nil]; exact q2)⟩) hst hpl)
theorem pe_cmE0 {pl : Sem Bool} (D : Cm X.prog X.w X.K X.mg X.base CX k C m ps sp) (hr : Room k X.A)
    (hG : Gd X.A) (he : PE X o ta) (hx : ∀ σ, PassesAt CX X σ (E σ))
    (ht : eval (.Call (.Attribute o m apos) [] [] pos) X.env = (do
      let ov ← eval o X.env
      standAt apos.atName
      let (g, first) ← holding [ov] (getMethod ov m pl)
      callWith pos g first (backTo pos (starEach [] X.env))
        (backToKw pos (keywordEach [] X.env))) := by rfl) :
    PE X (.Call (.Attribute o m apos) [] [] pos) (tMethE C m sp E ta tNil) := by
  obtain ⟨f, fd, c, hm, hb, F⟩ := D
  constructor
  intro pins s σ H Q I h
  refine PySem.W.methodCall_KW (pl := pl)
    (thn (he.run pins s σ H _ I h) fun u s1 ⟨y, H1, I1, ry, a, dx, fs, ey, ea, l, q⟩ => ?_) ht
  obtain rfl := ey
  have ru : u = Value.ref a := ry
  rw [ru]
  exact getmeth_ok I1 ea c hm l (PySem.W.callWith_K0 (first := [.ref a]) I1.kIn hm.kp
    (goesS (dvs := []) (ds := []) (us := [.ref a]) (vs := [.ref a]) F hr hG hb .nil hx I1 (.cons rfl .nil) q))
end
end Rm

set_option maxRecDepth 100000
set_option maxHeartbeats 4000000
namespace Rm
open PySem PySem.Spec L2
open PyProof.Rows hiding St
open SeqAt MeetsSeq

/-! ### a built-in value on the left declines an own instance on the right -/
section
variable {M : Model} {prog : Program} {w : World} {A : Around} {E : Value → Shared → Prop} {K : PySem.W.Frag} {x C : Addr} {ox : Obj} {od : Option Obj} {hp : Heap} {g : Array GenState} {d : Drawn} {tk : Nat} {os : OsState}
theorem look_in {T : String} (X : K.In hp) (I : PySem.W.InstAt hp x ox C od) (e : PySem.W.subIn K (.ref C) (.type T) = some false) :
    PySem.W.Looks M hp (isInstance (.ref x) (.type T)) false := I.type.andThen (PySem.W.looks_subIn X e)
theorem dec_int {dx : Addr} (X : K.In hp) (I : PySem.W.InstAt hp x (PySem.W.instObj C dx) C od) {a : Int} {t : Tok} {Q : Fin → Shared → Prop}
    (hq : Q (.done (.ret .notImplemented)) ⟨hp, g, d, tk, os⟩) : wpAny M A (Builtin.«int.__eq__» ⟨[.int a t, .ref x], []⟩) Q E ⟨hp, g, d, tk, os⟩ := by
  have hx := I.at_
  wp_walk using wpAny_load hx
  exact hq
theorem dec_bool {dx : Addr} (X : K.In hp) (I : PySem.W.InstAt hp x (PySem.W.instObj C dx) C od) {a : Bool} {Q : Fin → Shared → Prop}
    (hq : Q (.done (.ret .notImplemented)) ⟨hp, g, d, tk, os⟩) : wpAny M A (Builtin.«int.__eq__» ⟨[.bool a, .ref x], []⟩) Q E ⟨hp, g, d, tk, os⟩ := by
  have hx := I.at_
  wp_walk using wpAny_load hx
  exact hq
theorem dec_str {dx : Addr} (X : K.In hp) (I : PySem.W.InstAt hp x (PySem.W.instObj C dx) C od) {a : Str} {t : Tok} {Q : Fin → Shared → Prop}
    (hq : Q (.done (.ret .notImplemented)) ⟨hp, g, d, tk, os⟩) : wpAny M A (Builtin.«str.__eq__» ⟨[.str a t, .ref x], []⟩) Q E ⟨hp, g, d, tk, os⟩ := by
  have hx := I.at_
  wp_walk using wpAny_load hx
  exact hq
theorem dec_none {Q : Fin → Shared → Prop}
    (hq : Q (.done (.ret .notImplemented)) ⟨hp, g, d, tk, os⟩) : wpAny M A (Builtin.«NoneType.__eq__» ⟨[.none, .ref x], []⟩) Q E ⟨hp, g, d, tk, os⟩ := by
  wp_walk
  exact hq
theorem dec_list {dx l : Addr} (X : K.In hp) (I : PySem.W.InstAt hp x (PySem.W.instObj C dx) C od) (e : PySem.W.subIn K (.ref C) (.type "list") = some false)
    {Q : Fin → Shared → Prop}
    (hq : Q (.done (.ret .notImplemented)) ⟨hp, g, d, tk, os⟩) : wpAny M A (Builtin.«list.__eq__» ⟨[.ref l, .ref x], []⟩) Q E ⟨hp, g, d, tk, os⟩ := by
  have hL := look_in (M := M) X I e
  wp_walk using PySem.W.Looks.at hL
  exact hq
theorem dec_tuple {dx l : Addr} (X : K.In hp) (I : PySem.W.InstAt hp x (PySem.W.instObj C dx) C od) (e : PySem.W.subIn K (.ref C) (.type "tuple") = some false)
    {Q : Fin → Shared → Prop}
    (hq : Q (.done (.ret .notImplemented)) ⟨hp, g, d, tk, os⟩) : wpAny M A (Builtin.«tuple.__eq__» ⟨[.ref l, .ref x], []⟩) Q E ⟨hp, g, d, tk, os⟩ := by
  have hL := look_in (M := M) X I e
  wp_walk using PySem.W.Looks.at hL
  exact hq
theorem dec_dict {dx l : Addr} (X : K.In hp) (I : PySem.W.InstAt hp x (PySem.W.instObj C dx) C od) (e : PySem.W.subIn K (.ref C) (.type "dict") = some false)
    {Q : Fin → Shared → Prop}
    (hq : Q (.done (.ret .notImplemented)) ⟨hp, g, d, tk, os⟩) : wpAny M A (Builtin.«dict.__eq__» ⟨[.ref l, .ref x], []⟩) Q E ⟨hp, g, d, tk, os⟩ := by
  have hL := look_in (M := M) X I e
  wp_walk using PySem.W.Looks.at hL
  exact hq
end

/-- the class at C has an own __eq__ that keeps sp, and is none of the built-in ones -/
structure OwnE (P : Program) (w : World) (K : PySem.W.Frag) (mg : Str → Option Value) (base : Heap) (n : Nat) (C : Addr) (sp : Sp) : Prop where
  fn : ∃ f fd ps, PySem.W.findIn K (.ref C) "__eq__" = some (some (.ref f)) ∧ PySem.W.isFn K (.ref f) = true ∧
    Binds K fd ps [] ∧ FnG P w K mg base CX0 n f fd ps sp
  l : PySem.W.subIn K (.ref C) (.type "list") = some false
  t : PySem.W.subIn K (.ref C) (.type "tuple") = some false
  d : PySem.W.subIn K (.ref C) (.type "dict") = some false
  i : PySem.W.subIn K (.ref C) (.type "int") = some false
  b : PySem.W.subIn K (.ref C) (.type "bool") = some false
  s : PySem.W.subIn K (.ref C) (.type "str") = some false
  n : PySem.W.subIn K (.ref C) (.type "NoneType") = some false
def tyD : PyData → String
  | .none => "NoneType" | .bool _ => "bool" | .int _ => "int" | .str _ => "str" | .list _ => "list" | .tuple _ => "tuple" | .dict _ => "dict"
section
variable {X : Cx} {C : Addr} {n : Nat} {sp : Sp} {pins : List (Addr × Obj)} {σ : L2.St} {H : Hp} {s : Shared}
theorem OwnE.sub {P : Program} {w : World} {K : PySem.W.Frag} {mg : Str → Option Value} {base : Heap} (D : OwnE P w K mg base n C sp) :
    ∀ d : PyData, PySem.W.subIn K (.ref C) (.type (tyD d)) = some false
  | .none => D.n | .bool _ => D.b | .int _ => D.i | .str _ => D.s | .list _ => D.l | .tuple _ => D.t | .dict _ => D.d
theorem Dx.typ (I : Inv X pins σ H s) {v : V} {d : PyData} {u : Value} (h : Dx X.K H v d) (r : RelV v u) : s.TypeIs u (tyD d) := by
  cases h with
  | non => cases r; rfl
  | bl b => cases r; rfl
  | int i => obtain ⟨t, rfl⟩ := r; rfl
  | str x => obtain ⟨t, rfl⟩ := r; rfl
  | lst h _ =>
    cases r
    obtain ⟨its, rv, pl, hz⟩ := I.list h
    exact pl.isList.typeIs
  | tup h _ =>
    cases r
    obtain ⟨its, rv, ⟨o, h1, h2, _⟩, hz⟩ := I.tuple h
    exact ⟨o, h1, h2⟩
  | dic h _ =>
    cases r
    obtain ⟨_, _, vs, _, p⟩ := dk_rd I.hok h
    exact p.typeIs
theorem looks_ty {M : Model} {u : Value} {T : String} (t : s.TypeIs u T) : PySem.W.Looks M s.heap (typeOf u) (.type T) := by
  cases u with
  | ref a =>
    obtain ⟨o, ho, hc⟩ := t
    exact hc ▸ (PySem.W.Looks.ld ho).andThen .now
  | _ => exact PySem.W.Looks.of_pure t
/-- x == y, y an instance with its own ==, x of a built-in kind: y is asked -/
def rFlip (K : PySem.W.Frag) (C : Addr) (sp : Sp) : R2 := fun x y H Q => ∃ a dx fs d, y = .ref a ∧ H a = some (.ins C dx fs) ∧ Dx K H x d ∧
  sp [y, x] H (fun z H' => ∃ b, z = .bl b ∧ Q z H') E0
theorem op_flip (D : OwnE X.prog X.w X.K X.mg X.base n C sp) (hr : Room n X.A) (hG : Gd X.A) : OpR X (compareOp .Eq) (rFlip X.K C sp) := by
  intro pins s σ H x y v u Q I rx ry h
  obtain ⟨a, dx, fs, d, rfl, ha, hd, q⟩ := h
  cases ry
  obtain ⟨f, fd, ps, hs, hf, hb, F0⟩ := D.fn
  obtain ⟨mA, O, _⟩ := ins_get I.hok ha
  obtain ⟨od, J, _⟩ := O.look
  have tv := Dx.typ I hd rx
  have lv := looks_ty (M := model X.prog X.w) tv
  have dec : ∃ id, Slot (tyD d) "__eq__" id ∧ ∀ {Q' : Value → Shared → Prop}, Q' .notImplemented s →
      wpAny (model X.prog X.w) X.A (call (.builtin id) [v, .ref a]) Q' X.xe s := by
    obtain ⟨hp, g, dr, tk, os⟩ := s
    cases hd with
    | non => cases rx; exact ⟨_, F.slot_NoneType_eq, fun hq => wpAny_call_entry F.slot_NoneType_eq tv F.entry_NoneType_eq (dec_none ⟨_, rfl, hq⟩) (F.args_NoneType_eq_2 _ _)⟩
    | bl b => cases rx; exact ⟨_, F.slot_bool_eq, fun hq => wpAny_call_entry F.slot_bool_eq tv F.entry_int_eq (dec_bool I.kIn J ⟨_, rfl, hq⟩) (F.args_int_eq_2 _ _)⟩
    | int i => obtain ⟨t, rfl⟩ := rx; exact ⟨_, F.slot_int_eq, fun hq => wpAny_call_entry F.slot_int_eq tv F.entry_int_eq (dec_int I.kIn J ⟨_, rfl, hq⟩) (F.args_int_eq_2 _ _)⟩
    | str z => obtain ⟨t, rfl⟩ := rx; exact ⟨_, F.slot_str_eq, fun hq => wpAny_call_entry F.slot_str_eq tv F.entry_str_eq (dec_str I.kIn J ⟨_, rfl, hq⟩) (F.args_str_eq_2 _ _)⟩
    | lst hl _ =>
      cases rx
      obtain ⟨its, rv, ⟨o, n, ho, hc, _, hdt⟩, _⟩ := I.list hl
      exact ⟨_, F.slot_list_eq, fun hq => wpAny_call_entry F.slot_list_eq tv F.entry_list_eq (dec_list I.kIn J D.l ⟨_, rfl, hq⟩) (F.args_list_eq_2 _ _)⟩
    | tup hl _ => cases rx; exact ⟨_, F.slot_tuple_eq, fun hq => wpAny_call_entry F.slot_tuple_eq tv F.entry_tuple_eq (dec_tuple I.kIn J D.t ⟨_, rfl, hq⟩) (F.args_tuple_eq_2 _ _)⟩
    | dic hl _ => cases rx; exact ⟨_, F.slot_dict_eq, fun hq => wpAny_call_entry F.slot_dict_eq tv F.entry_dict_eq (dec_dict I.kIn J D.d ⟨_, rfl, hq⟩) (F.args_dict_eq_2 _ _)⟩
  obtain ⟨id, sl, dec⟩ := dec
  have two : wpAny (model X.prog X.w) X.A (tryCompare (.ref a) "__eq__" v) (fun r s' => ∃ b, r = some (.bool b) ∧ EP X pins σ Q (.bool b) s') X.xe s := by
    unfold tryCompare
    have hl : ([Value.ref a] ++ [v]).length = ps.length := by
      have := F0.len _ _ _ _ q
      exact this
    refine wpAny_bind (PySem.W.ifBound_K I.kIn J hs hf (wpAny_call (codeAny_mono (F0.run X.A X.stack s H ⟨[.ref a, v], []⟩ [.ref a, v] [.ref a, x] _ _ hr hG I.env0
      (by have := hb s [.ref a, v] I.kIn (by simpa using hl); simpa using this) (.cons rfl (.cons rx .nil)) q) fun rr s' hq => ?_)))
    match rr, hq with
    | .error er, hq => exact False.elim hq
    | .ok (.ret z), hq =>
      obtain ⟨y, H', I2, ry, ⟨b, ey, qq⟩⟩ := I.after hq
      subst ey
      cases ry
      exact wpAny_pure ⟨b, rfl, .bl b, H', I2, rfl, qq⟩
    | .ok .next, hq => exact False.elim hq
    | .ok .brk, hq => exact False.elim hq
    | .ok .cont, hq => exact False.elim hq
  show wpAny _ _ (richCompare .Eq v (.ref a)) _ _ _
  simp only [richCompare, cmpInfo_Eq, tv.oneThing_none]
  refine wpAny_holding (wpAny_bind (wpAny_cRoomFor hr.units0 ?_))
  refine wpAny_bind (lv.here (wpAny_bind (J.type.here ?_)))
  split
  · refine wpAny_bind ((PySem.W.looks_subIn I.kIn (D.sub d)).here ?_)
    simp only [Bool.false_eq_true, if_false, Bool.not_false, if_true]
    refine wpAny_bind (m := tryCompare v _ (.ref a)) (wpAny_tryCompare_declines tv sl (dec ⟨rfl, ?_⟩))
    refine wpAny_bind (m := tryCompare (.ref a) _ v) (thn two fun r s' z => ?_)
    obtain ⟨b, rfl, z⟩ := z
    exact wpAny_pure z
  · rename_i z
    exact absurd (by simp) z

/-- x == y, x an instance with its own ==, y of a built-in kind or of the same class -/
def rOwnL (K : PySem.W.Frag) (C : Addr) (sp : Sp) : R2 := fun x y H Q => ∃ a dx fs, x = .ref a ∧ H a = some (.ins C dx fs) ∧
  ((∃ d, Dx K H y d ∧ PySem.W.subIn K (.type (tyD d)) (.ref C) = some false) ∨ ∃ b dy gs, y = .ref b ∧ H b = some (.ins C dy gs)) ∧
  sp [x, y] H (fun z H' => ∃ b, z = .bl b ∧ Q z H') E0
theorem op_ownL (D : OwnE X.prog X.w X.K X.mg X.base n C sp) (hr : Room n X.A) (hG : Gd X.A) : OpR X (compareOp .Eq) (rOwnL X.K C sp) := by
  intro pins s σ H x y v u Q I rx ry h
  obtain ⟨a, dx, fs, rfl, ha, hy, q⟩ := h
  cases rx
  obtain ⟨f, fd, ps, hs, hf, hb, F0⟩ := D.fn
  obtain ⟨mA, O, _⟩ := ins_get I.hok ha
  obtain ⟨od, J, _⟩ := O.look
  obtain ⟨m, hF⟩ := I.fr
  have ty : ∃ tb, PySem.W.Looks (model X.prog X.w) s.heap (typeOf u) tb ∧ PySem.W.notFirst X.K C tb = true := by
    rcases hy with ⟨d, hd, e⟩ | ⟨b, dy, gs, rfl, hb'⟩
    · exact ⟨_, looks_ty (Dx.typ I hd ry), by unfold PySem.W.notFirst; rw [e]; simp⟩
    · cases ry
      obtain ⟨mB, O', _⟩ := ins_get I.hok hb'
      obtain ⟨od', J', _⟩ := O'.look
      exact ⟨_, J'.type, by simp [PySem.W.notFirst]⟩
  obtain ⟨tb, t1, t2⟩ := ty
  have hl : ([Value.ref a] ++ [u]).length = ps.length := F0.len _ _ _ _ q
  refine PySem.W.cmp_K (op := .Eq) (tb := tb) hr.units0 hF I.ok.mod.kin J t1 t2 hs hf ?_
  refine wpAny_call (codeAny_mono (F0.run X.A X.stack s H ⟨[.ref a, u], []⟩ [.ref a, u] [.ref a, y] _ _ hr hG I.env0
      (by have := hb s [.ref a, u] I.kIn (by simpa using hl); simpa using this) (.cons rfl (.cons ry .nil)) q) fun rr s' hq => ?_)
  match rr, hq with
  | .error er, hq => exact False.elim hq
  | .ok (.ret z), hq =>
    obtain ⟨y, H', I2, ry, ⟨b, ey, qq⟩⟩ := I.after hq
    subst ey
    cases ry
    exact ⟨.bl b, H', I2, rfl, qq⟩
  | .ok .next, hq => exact False.elim hq
  | .ok .brk, hq => exact False.elim hq
  | .ok .cont, hq => exact False.elim hq
end
end Rm

set_option maxRecDepth 100000
set_option maxHeartbeats 4000000
namespace Rm
open PySem PySem.Spec L2
open PyProof.Rows hiding St

theorem Dx.tyx {K : PySem.W.Frag} {H : Hp} {v : V} {d : PyData} (h : Dx K H v d) : TyX K H v (.type (tyD d)) := by
  cases h with
  | non => exact .base .non
  | bl b => exact .base (.bl b)
  | int i => exact .base (.int i)
  | str x => exact .base (.str x)
  | lst h _ =>
    rcases h with (h | ⟨o, h⟩) | ⟨o, its, n, h, c, _⟩
    · exact .base (.lst h)
    · exact .base (.frz h)
    · exact .kList h c
  | tup h _ =>
    rcases h with (h | ⟨o, h⟩) | ⟨o, its, n, h, c, _⟩
    · exact .base (.tup h)
    · exact .fTuple h
    · exact .kTuple h c
  | dic h _ =>
    rcases h with h | ⟨o, h⟩
    · exact .base (.dK h)
    · exact .fDict h
def isS : PyData → Bool
  | .str _ => true
  | _ => false
theorem kit_str {K : PySem.W.Frag} : ∀ d : PyData, PySem.W.kitOne K (.type (tyD d)) (.type "str") = some (isS d)
  | .none => kit_ty (a := "NoneType") (r := false) (by decide +kernel) | .bool _ => kit_ty (a := "bool") (r := false) (by decide +kernel)
  | .int _ => kit_ty (a := "int") (r := false) (by decide +kernel) | .str _ => kit_ty (a := "str") (r := true) (by decide +kernel)
  | .list _ => kit_ty (a := "list") (r := false) (by decide +kernel) | .tuple _ => kit_ty (a := "tuple") (r := false) (by decide +kernel)
  | .dict _ => kit_ty (a := "dict") (r := false) (by decide +kernel)
/-- isinstance(x, str) for data -/
theorem isi_str {K : PySem.W.Frag} {H : Hp} {v : V} {d : PyData} {Q : VK} (h : Dx K H v d) (q : Q (.bl (isS d)) H) :
    rIsi K [v, .ty "str"] H Q := ⟨v, .ty "str", _, _, _, rfl, .ty _, h.tyx, kit_str d, q⟩

/-! ### the four words -/
def rkS (z : Str) : Option Int :=
  if z = "hold" then some 1 else if z = "keep" then some 2 else if z = "change" then some 3 else if z = "replace" then some 4 else none
def rkD : PyData → Option Int
  | .str z => rkS z
  | _ => none
structure Rk (w : World) (K : PySem.W.Frag) (mg : Str → Option Value) (R : Addr) : Prop where
  g : mg "RANKS" = some (.ref R)
  kd : ∃ es n, KDict K w R es n
  yes : ∀ z i, rkS z = some i → ∃ t, PySem.W.nsIn K R z = some (some (.int i t))
  no : ∀ z, rkS z = none → PySem.W.nsIn K R z = some none
theorem rk_of {w : World} {K : PySem.W.Frag} {mg : Str → Option Value} {R : Addr} {t1 t2 t3 t4 u1 u2 u3 u4 : Tok} {n : Nat}
    (g : mg "RANKS" = some (.ref R)) (low : (R == sysModules) = false)
    (h : K.lookup R = some ⟨.type "dict", none, .dict #[⟨PyData.keyHash w.params "hold", .str "hold" t1, .int 1 u1⟩,
      ⟨PyData.keyHash w.params "keep", .str "keep" t2, .int 2 u2⟩, ⟨PyData.keyHash w.params "change", .str "change" t3, .int 3 u3⟩,
      ⟨PyData.keyHash w.params "replace", .str "replace" t4, .int 4 u4⟩] n, #[]⟩) : Rk w K mg R := by
  refine ⟨g, ⟨_, _, h, ⟨⟨_, _, rfl, rfl⟩, ⟨_, _, rfl, rfl⟩, ⟨_, _, rfl, rfl⟩, ⟨_, _, rfl, rfl⟩, True.intro⟩, low⟩, fun z i e => ?_, fun z e => ?_⟩
  · unfold rkS at e
    unfold PySem.W.nsIn
    rw [h]
    simp only [List.find?_cons, Value.isStr, List.find?_nil]
    split at e
    · rename_i q; subst q; cases e; exact ⟨u1, by simp⟩
    split at e
    · rename_i q0 q; subst q; cases e; exact ⟨u2, by simp [show (("hold" : Str) == "keep") = false by decide +kernel]⟩
    split at e
    · rename_i q0 q1 q; subst q; cases e; exact ⟨u3, by simp [show (("hold" : Str) == "change") = false by decide +kernel, show (("keep" : Str) == "change") = false by decide +kernel]⟩
    split at e
    · rename_i q0 q1 q2 q; subst q; cases e; exact ⟨u4, by simp [show (("hold" : Str) == "replace") = false by decide +kernel, show (("keep" : Str) == "replace") = false by decide +kernel, show (("change" : Str) == "replace") = false by decide +kernel]⟩
    · cases e
  · unfold rkS at e
    unfold PySem.W.nsIn
    rw [h]
    simp only [List.find?_cons, Value.isStr, List.find?_nil]
    split at e
    · cases e
    split at e
    · cases e
    split at e
    · cases e
    split at e
    · cases e
    rename_i q0 q1 q2 q3
    have f : ∀ {a b : Str}, ¬ a = b → (a == b) = false := fun h => by simpa using h
    simp [f q0, f q1, f q2, f q3, f (fun e => q0 e.symm), f (fun e => q1 e.symm), f (fun e => q2 e.symm), f (fun e => q3 e.symm), DictEntry.refKey]

/-! ### a class of the program -/
def allTy (l : List Value) : Bool := l.all fun v => match v with
  | .type _ => true
  | _ => false
theorem allTy_no {C : Addr} : ∀ {l : List Value}, allTy l = true → l.contains (.ref C) = false
  | [], _ => rfl
  | v :: r, h => by
    unfold allTy at h
    rw [List.all_cons, Bool.and_eq_true] at h
    rw [List.contains_cons, allTy_no (l := r) h.2]
    cases v with
    | type _ => rfl
    | _ => exact absurd h.1 (by simp)
theorem sub_own {K : PySem.W.Frag} {C : Addr} {T : String} (h : (fastBuiltinMro T).map allTy = some true) : PySem.W.subIn K (.type T) (.ref C) = some false := by
  unfold PySem.W.subIn
  dsimp only
  obtain ⟨l, e, q⟩ := Option.map_eq_some_iff.mp h
  rw [e]
  exact congrArg some (allTy_no q)
theorem sub_ownD {K : PySem.W.Frag} {C : Addr} : ∀ d : PyData, PySem.W.subIn K (.type (tyD d)) (.ref C) = some false
  | .none => sub_own (T := "NoneType") (by decide +kernel) | .bool _ => sub_own (T := "bool") (by decide +kernel)
  | .int _ => sub_own (T := "int") (by decide +kernel) | .str _ => sub_own (T := "str") (by decide +kernel)
  | .list _ => sub_own (T := "list") (by decide +kernel) | .tuple _ => sub_own (T := "tuple") (by decide +kernel)
  | .dict _ => sub_own (T := "dict") (by decide +kernel)
structure OwnC (K : PySem.W.Frag) (C : Addr) : Prop where
  cls : Cls K C
  ty : PySem.W.typeIn K (.ref C) = some (.type "type")
  ha : PySem.W.findIn K (.ref C) "__class__" = some (some (.builtin "object.__class__"))
  hn : PySem.W.specialIn K (.builtin "object.__class__") "__get__" = some (some (.builtin "getset_descriptor.__get__"))
  htk : PySem.W.takesIn K (.builtin "object.__class__") = some true
  hm : PySem.W.mroIn K C (.type "object") = some true
section
variable {K : PySem.W.Frag} {H : Hp} {C a b dx dy : Addr} {fs gs : List (Str × V)} {x v : V} {d : PyData} {Q : VK}
theorem OwnC.isi_not (c : OwnC K C) (h : Dx K H v d) (q : Q (.bl false) H) : rIsi K [v, .ref C] H Q := by
  refine ⟨v, .ref C, _, _, false, rfl, .own C, h.tyx, ?_, q⟩
  unfold PySem.W.kitOne
  rw [if_neg (by simp)]
  unfold PySem.W.kitCls
  have e : (PySem.W.clsIn K C).isSome = true := by
    obtain ⟨cd, z, _⟩ := PySem.W.any_some c.cls.hd
    rw [z]; rfl
  dsimp only
  rw [if_pos (by rw [e, c.ty]; simp)]
  exact sub_ownD d
theorem OwnC.isi_so (c : OwnC K C) (h : H b = some (.ins C dy gs)) (q : Q (.bl true) H) : rIsi K [.ref b, .ref C] H Q := by
  refine ⟨.ref b, .ref C, _, _, true, rfl, .own C, .base (.ins h c.cls c.ha c.hn c.htk c.hm), ?_, q⟩
  unfold PySem.W.kitOne
  rw [if_pos (by simp)]
end

/-! ### what the modes' defs keep -/
def mdO (C dx : Addr) (z : Str) : HO := .ins C dx [("_word", .str z)]
def spIs (K : PySem.W.Frag) : Sp := fun vs H Q _ => ∃ x d, vs = [x] ∧ Dx K H x d ∧ Q (.bl (rkD d).isSome) H
def spRank : Sp := fun vs H Q _ => ∃ z i, vs = [.str z] ∧ rkS z = some i ∧ Q (.int i) H
/-- a mode is made of any value -/
def spModeX (K : PySem.W.Frag) (C BM : Addr) : Sp := fun vs H Q E => ∃ a dx x d, vs = [.ref a, x] ∧ H a = some (.ins C dx []) ∧ Dx K H x d ∧
  (rkD d = none → ∀ e, H e = none → E (.ref BM) (some e) (upd H e (.xd [("value", x)]))) ∧
  (∀ z i, d = .str z → rkS z = some i → Q .non (upd H a (mdO C dx z)))
/-- a mode is made of one of the words -/
def spModeQ (K : PySem.W.Frag) (C : Addr) : Sp := fun vs H Q _ => ∃ a dx z i, vs = [.ref a, .str z] ∧ H a = some (.ins C dx []) ∧ rkS z = some i ∧
  Q .non (upd H a (mdO C dx z))
def spWord (C : Addr) : Sp := fun vs H Q _ => ∃ a dx z, vs = [.ref a] ∧ H a = some (mdO C dx z) ∧ Q (.str z) H
def spRk (C : Addr) : Sp := fun vs H Q _ => ∃ a dx z i, vs = [.ref a] ∧ H a = some (mdO C dx z) ∧ rkS z = some i ∧ Q (.int i) H
def spEqM (K : PySem.W.Frag) (C : Addr) : Sp := fun vs H Q _ => ∃ a dx z y, vs = [.ref a, y] ∧ H a = some (mdO C dx z) ∧
  ((∃ d, Dx K H y d ∧ Q (.bl false) H) ∨ ∃ b dy z', y = .ref b ∧ H b = some (mdO C dy z') ∧ Q (.bl (decide (z = z'))) H)

/-! ### values that are small -/
structure Sv (d : PyData) : Prop where
  sh : d.showable = true
  lv : d.leavesShort 100 = true
  wt : d.weight ≤ 1000
  dp : d.depth ≤ 10
theorem Sv.sm {d : PyData} (h : Sv d) : Sm d := ⟨h.sh, h.lv, by have := h.wt; omega, by have := h.dp; omega⟩
def svB (d : PyData) : Bool := d.showable && (d.leavesShort 100 && (decide (d.weight ≤ 1000) && decide (d.depth ≤ 10)))
theorem Sv.of {d : PyData} (h : svB d = true) : Sv d := by
  unfold svB at h
  simp only [Bool.and_eq_true, decide_eq_true_eq] at h
  exact ⟨h.1, h.2.1, h.2.2.1, h.2.2.2⟩
theorem Sv.all {ds : List PyData} (h : ds.all svB = true) {i : Nat} {d : PyData} (e : ds[i]? = some d) : Sv d :=
  Sv.of (List.all_eq_true.mp h d (List.mem_of_getElem? e))
/-! ### drawn values -/
/-- all but the tape at t is as it was -/
structure Nxt (t : Addr) (H H' : Hp) : Prop where
  keep : ∀ b u, H b = some u → b ≠ t → H' b = some u
  tape : ∃ o, H' t = some o ∧ IsTape o
def spAny (K : PySem.W.Frag) : Sp := fun vs H Q _ => ∃ t o, vs = [.ref t] ∧ H t = some o ∧ IsTape o ∧
  ∀ v d H', Dx K (del H' t) v d → Sv d → Nxt t H H' → Q v H'
theorem del_upd {H : Hp} {t : Addr} {o : HO} : del (upd H t o) t = del H t := by
  funext b
  by_cases h : b = t
  · rw [h, del_same, del_same]
  · rw [del_ne h, del_ne h, upd_ne h]
/-- a new thing beside the tape -/
structure New (t p : Addr) (o ot : HO) (H : Hp) : Prop where
  th : upd H p o t = some ot
  s : Same H (upd H p o)
  d : Same (del H t) (del (upd H p o) t)
  a : del (upd H p o) t p = some o
theorem new_at {t p : Addr} {H : Hp} (o : HO) {ot : HO} (hp : H p = none) (ht : H t = some ot) : New t p o ot H := by
  have ne : p ≠ t := fun e => by rw [e, ht] at hp; cases hp
  have nb : ∀ {b : Addr} {u : HO}, H b = some u → b ≠ p := fun h e => by rw [e, hp] at h; cases h
  refine ⟨by rw [upd_ne (Ne.symm ne)]; exact ht, fun b u h => by rw [upd_ne (nb h)]; exact h, fun b u h => ?_, by rw [del_ne ne, upd_same]⟩
  by_cases e : b = t
  · rw [e, del_same] at h; cases h
  · rw [del_ne e] at h ⊢
    rw [upd_ne (nb h)]
    exact h
theorem Sm.of {d : PyData} (h : (d.showable && (d.leavesShort 100 && (decide (d.weight ≤ 100000) && decide (d.depth ≤ 50)))) = true) : Sm d := by
  simp only [Bool.and_eq_true, decide_eq_true_eq] at h
  exact ⟨h.1, h.2.1, h.2.2.1, h.2.2.2⟩
/-- what _law_made tells of a value -/
def madeD (d : PyData) : PyData := match rkD d with
  | some i => .list [.str "made", d, .int i]
  | none => .list [.str "bad", d]
def spMade (K : PySem.W.Frag) : Sp := fun vs H Q _ => ∃ x d, vs = [x] ∧ Dx K H x d ∧
  ∀ v H', Same H H' → Dx K H' v (madeD d) → Q v H'
theorem same_new {H : Hp} {p : Addr} {o : HO} (n : H p = none) : Same H (upd H p o) := fun b u h => by
  rw [upd_ne (fun e => by rw [e, n] at h; cases h)]
  exact h
end Rm

set_option maxRecDepth 100000
set_option maxHeartbeats 4000000
namespace Rm
open PySem PySem.Spec L2
open PyProof.Rows hiding St
open SeqAt MeetsSeq

/-! ### != of two instances of a class with its own == -/
section
variable {M : Model} {A : Around} {E : Value → Shared → Prop} {s : Shared} {K : PySem.W.Frag} {x C : Addr} {ox : Obj} {od : Option Obj}
theorem bound_ne {args : List Value} {Q : Option Value → Shared → Prop} (X : K.In s.heap) (I : PySem.W.InstAt s.heap x ox C od)
    (hs : PySem.W.findIn K (.ref C) "__ne__" = some (some (.builtin "object.__ne__")))
    (h : wpAny M A (call (.builtin "object.__ne__") (.ref x :: args)) (fun v => Q (some v)) E s) : wpAny M A (callSpecialIfBound? (.ref x) "__ne__" args) Q E s := by
  simp only [callSpecialIfBound?, bindSpecialIfBound?]
  refine wpAny_holding (wpAny_bind (wpAny_bind (wpAny_bind (I.type.here ((PySem.W.looks_findIn X hs).here ?_)))))
  refine wpAny_bind (wpAny_askSetting (wpAny_ite ?_))
  have fin : wpAny M A (call (.builtin "object.__ne__") ([.ref x] ++ args) >>= fun v => pure (some v)) Q E s :=
    wpAny_bind (wpAny_mono h (fun v s' h' => wpAny_pure h') fun _ _ h' => h')
  split
  · exact wpAny_bind (wpAny_of_eq (F.cmp_object.ne.bind _) (wpAny_pure (by exact fin)))
  · exact wpAny_tryCatch (wpAny_bind (wpAny_of_eq (F.cmp_object.ne.bind _) (wpAny_pure (by exact fin))))
theorem entry_ne {y : Value} {Q : Fin → Shared → Prop} (hu : A.units < cLine)
    (h : wpAny M A (callSpecialIfBound? (.ref x) "__eq__" [y]) (fun r s' => ∃ b, r = some (.bool b) ∧ Q (.done (.ret (.bool (!b)))) s') E s) :
    wpAny M A (Builtin.«object.__ne__» ⟨[.ref x, y], []⟩) Q E s := by
  unfold Builtin.«object.__ne__»
  repeat (first
    | with_reducible refine wpAny_cRoomFor hu ?_
    | (refine wpAny_bind (m := callSpecialIfBound? (.ref x) (Str.ofString "__eq__") [y]) (wpAny_mono h (fun r s' hr => by
          obtain ⟨b, rfl, hq⟩ := hr
          repeat (first | exact hq | exact wpAny_pure hq | exact wpAny_truthy_bool hq | (refine wpAny_bind (m := truthy (.bool _)) (wpAny_truthy_bool ?_)) | wp_step)) fun _ _ e => e))
    | wp_step)
end
def rOwnNe (C : Addr) (sp : Sp) : R2 := fun x y H Q => ∃ a dx fs b dy gs, x = .ref a ∧ H a = some (.ins C dx fs) ∧ y = .ref b ∧ H b = some (.ins C dy gs) ∧
  sp [x, y] H (fun z H' => ∃ c, z = .bl c ∧ Q (.bl (!c)) H') E0
section
variable {X : Cx} {C : Addr} {n : Nat} {sp : Sp}
theorem op_ownNe (D : OwnE X.prog X.w X.K X.mg X.base n C sp) (hm : PySem.W.mroIn X.K C (.type "object") = some true)
    (hne : PySem.W.findIn X.K (.ref C) "__ne__" = some (some (.builtin "object.__ne__"))) (hr : Room (n + 1) X.A) (hG : Gd X.A)
    (h1 : X.A.units + 1 < cLine) : OpR X (compareOp .NotEq) (rOwnNe C sp) := by
  intro pins s σ H x y v u Q I rx ry h
  obtain ⟨a, dx, fs, b, dy, gs, rfl, ha, rfl, hb', q⟩ := h
  cases rx
  cases ry
  obtain ⟨f, fd, ps, hs, hf, hb, F0⟩ := D.fn
  obtain ⟨mA, O, _⟩ := ins_get I.hok ha
  obtain ⟨od, J, _⟩ := O.look
  obtain ⟨mB, O', _⟩ := ins_get I.hok hb'
  obtain ⟨od', J', _⟩ := O'.look
  have hl : ([Value.ref a] ++ [Value.ref b]).length = ps.length := F0.len _ _ _ _ q
  have two : wpAny (model X.prog X.w) X.A (tryCompare (.ref a) "__ne__" (.ref b)) (fun r s' => ∃ c, r = some (.bool c) ∧ EP X pins σ Q (.bool c) s') X.xe s := by
    unfold tryCompare
    refine wpAny_bind (bound_ne I.kIn J hne (wpAny_call (codeAny_call_builtin F.cmp_object.ne.plain F.cmpEntry_ne
      (PySem.W.check_slot F.cmpKind_ne F.cmpSplit_ne (J.type.andThen (PySem.W.looks_mroIn I.kIn hm)) (F.cmpArgs_ne _ _) ?_))))
    refine entry_ne (A := X.A.in1) h1 (PySem.W.ifBound_K I.kIn J hs hf (wpAny_call (codeAny_mono (F0.run X.A.in1 X.stack s H ⟨[.ref a, .ref b], []⟩ [.ref a, .ref b] [.ref a, .ref b] _ _ hr.in1 hG.in1 I.env0.in1
      (by have := hb s [.ref a, .ref b] I.kIn (by simpa using hl); simpa using this) (.cons rfl (.cons rfl .nil)) q) fun rr s' hq => ?_)))
    match rr, hq with
    | .error er, hq => exact False.elim hq
    | .ok (.ret z), hq =>
      obtain ⟨y, H', I2, ry, ⟨c, ey, qq⟩⟩ := I.after hq
      subst ey
      cases ry
      have fin : ∃ c', some (Value.bool !c) = some (.bool c') ∧ EP X pins σ Q (.bool c') s' := ⟨_, rfl, .bl (!c), H', I2, rfl, qq⟩
      first | exact ⟨c, rfl, wpAny_pure fin⟩ | exact ⟨c, rfl, _, rfl, wpAny_pure fin⟩ | exact ⟨c, rfl, rfl, wpAny_pure fin⟩ | exact ⟨c, rfl, wpAny_pure (wpAny_pure fin)⟩
    | .ok .next, hq => exact False.elim hq
    | .ok .brk, hq => exact False.elim hq
    | .ok .cont, hq => exact False.elim hq
  show wpAny _ _ (richCompare .NotEq (.ref a) (.ref b)) _ _ _
  simp only [richCompare, cmpInfo_NotEq, oneThing_ref]
  refine wpAny_holding (wpAny_bind (wpAny_cRoomFor hr.units0 ?_))
  refine wpAny_bind (J.type.here (wpAny_bind (J'.type.here ?_)))
  rw [show (Value.ref C != Value.ref C) = false from by simp]
  simp only [Bool.false_eq_true, if_false]
  refine wpAny_bind (wpAny_pure ?_)
  simp only [Bool.false_eq_true, if_false]
  refine wpAny_bind (thn two fun r s' z => ?_)
  obtain ⟨c, rfl, z⟩ := z
  exact wpAny_pure z
end

/-- the law's own promise: a script of at most 63 numbers -/
def spLaw (K : PySem.W.Frag) : Sp := fun vs H Q _ => ∃ (a : Addr) (ns : List Int), vs = [.ref a] ∧ SqL K H a (ns.map V.int) ∧ ns.length ≤ 63 ∧
  (∀ n ∈ ns, Builtin.Int.intBits n ≤ 1048576) ∧ ∀ H', Q (.bl true) H'
end Rm

set_option maxRecDepth 100000
set_option maxHeartbeats 4000000
namespace Rm
open PySem PySem.Spec L2
open PyProof.Rows hiding St

/-! ### blocks with a middle -/
theorem seq_mid {A B : TS} {D : Ends} {σ : L2.St} {H : Hp} (Mid : L2.St → Hp → Prop) (h2 : ∀ σ' H', Mid σ' H' → B D σ' H')
    (h1 : ∀ N : L2.St → Hp → Prop, (∀ σ' H', Mid σ' H' → N σ' H') → A { D with nx := N } σ H) : tSeq A B D σ H := h1 (B D) h2
theorem asg_mid {A B : TS} {D : Ends} {σ : L2.St} {H : Hp} {i : Nat} {v : V} (Mid : L2.St → Hp → Prop) (h2 : ∀ σ' H', Mid σ' H' → B D σ' H')
    (h1 : ∀ N : L2.St → Hp → Prop, (∀ σ' H', Mid σ' H' → N σ' H') → A { D with nx := N } (σ.set i (some v)) H) : gName i v σ H (tSeq A B D) := h1 (B D) h2
/-- a walk through the keys of a locked dict -/
theorem for_keys {d : Addr} {o : Obj} {kvs : List (Key × V)} {g : TG} {tb : TS} {D : Ends} {σ : L2.St} {H : Hp} (Pv : Nat → L2.St → Hp → Prop)
    (h0 : Pv 0 σ H) (hl : ∀ i σ H, i ≤ kvs.length → Pv i σ H → H d = some (.frz o (.dK kvs)))
    (hs : ∀ i k v σ H, kvs[i]? = some (k, v) → Pv i σ H → g (kV k) σ H fun σ2 H2 => tb { D with nx := Pv (i + 1), ct := Pv (i + 1), bk := D.nx } σ2 H2)
    (hd : ∀ σ H, Pv kvs.length σ H → D.nx σ H) :
    ∃ W : Nat → Nat → L2.St → Hp → Prop, (∃ m, W 0 m σ H) ∧ ∀ i m σ H, W i m σ H →
      ((Itk d o kvs).stop i H ∧ D.nx σ H) ∨ ((Itk d o kvs).go i H ∧ ∃ N : L2.St → Hp → Prop, (∀ σ' H', N σ' H' → ∃ m', m' < m ∧ W (i + 1) m' σ' H') ∧
        ∀ x H', (Itk d o kvs).yld i H x H' → g x σ H' fun σ2 H2 => tb { D with nx := N, ct := N, bk := D.nx } σ2 H2) := by
  refine ⟨fun i m σ H => m = kvs.length - i ∧ i ≤ kvs.length ∧ Pv i σ H, ⟨kvs.length, by simp, Nat.zero_le _, h0⟩, ?_⟩
  rintro i m σ H ⟨rfl, hi, p⟩
  have q := hl i σ H hi p
  by_cases hlt : i < kvs.length
  · refine .inr ⟨⟨q, hlt⟩, Pv (i + 1), fun σ' H' p' => ⟨kvs.length - (i + 1), by omega, rfl, hlt, p'⟩, fun x H' y => ?_⟩
    obtain ⟨rfl, k, v, e, rfl⟩ := y
    exact hs i k v σ _ e p
  · have e : i = kvs.length := by omega
    subst e
    exact .inl ⟨⟨q, Nat.le_refl _⟩, hd σ H p⟩

/-! ### heaps beside the tape -/
theorem same_del {H : Hp} {t : Addr} : Same (del H t) H := fun b u h => by
  by_cases e : b = t
  · rw [e, del_same] at h; cases h
  · rw [del_ne e] at h; exact h
theorem same_dels {H H' : Hp} {t : Addr} (s : Same H H') : Same (del H t) (del H' t) := fun b u h => by
  by_cases e : b = t
  · rw [e, del_same] at h; cases h
  · rw [del_ne e] at h ⊢
    exact s b u h
theorem Nxt.same {t : Addr} {H0 H H' : Hp} (n : Nxt t H H') (f : H0 t = none) (s : Same H0 H) : Same H0 H' := fun b u h =>
  n.keep b u (s b u h) fun e => by rw [e, f] at h; cases h
theorem same_tape {t : Addr} {H0 H : Hp} {o : HO} (f : H0 t = none) (s : Same H0 H) : Same H0 (upd H t o) := fun b u h => by
  rw [upd_ne (fun e => by rw [e, f] at h; cases h)]
  exact s b u h
theorem same_two {H : Hp} {x dx : Addr} {o o' : HO} (nd : H dx = none) (nx : H x = none) (ne : dx ≠ x) : Same H (upd (upd H dx o) x o') :=
  (same_new nd).trans (same_new (by rw [upd_ne (Ne.symm ne)]; exact nx))

/-! ### the ranks as the law has them -/
def rkKV : List (Key × V) := [(.inr "hold", .int 1), (.inr "keep", .int 2), (.inr "change", .int 3), (.inr "replace", .int 4)]
theorem mergeK_rk : mergeK [] [((.inr "hold" : Key), V.int 1), (.inr "keep", .int 2), (.inr "change", .int 3), (.inr "replace", .int 4)] = rkKV := by
  simp [mergeK, putK, rkKV, show ¬ (("hold" : Str) = "keep") by decide +kernel, show ¬ (("hold" : Str) = "change") by decide +kernel, show ¬ (("keep" : Str) = "change") by decide +kernel,
    show ¬ (("hold" : Str) = "replace") by decide +kernel, show ¬ (("keep" : Str) = "replace") by decide +kernel, show ¬ (("change" : Str) = "replace") by decide +kernel]
theorem valV_rk (z : Str) : valV rkKV (.inr z) = (rkS z).map V.int := by
  unfold rkKV rkS
  have f : ∀ {a : Str}, ¬ z = a → ¬ ((Sum.inr a : Key) = Sum.inr z) := fun h e => h (Sum.inr.inj e).symm
  by_cases h1 : z = "hold"
  · subst h1; rw [valV_pos rfl, if_pos rfl]; rfl
  rw [valV_neg (f h1), if_neg h1]
  by_cases h2 : z = "keep"
  · subst h2; rw [valV_pos rfl, if_pos rfl]; rfl
  rw [valV_neg (f h2), if_neg h2]
  by_cases h3 : z = "change"
  · subst h3; rw [valV_pos rfl, if_pos rfl]; rfl
  rw [valV_neg (f h3), if_neg h3]
  by_cases h4 : z = "replace"
  · subst h4; rw [valV_pos rfl, if_pos rfl]; rfl
  rw [valV_neg (f h4), if_neg h4, valV_nil]
  rfl
theorem rk_key {i : Nat} {k : Key} {v : V} (h : rkKV[i]? = some (k, v)) : ∃ z n, k = .inr z ∧ rkS z = some n := by
  match i, h with
  | 0, h => cases h; exact ⟨_, 1, rfl, rfl⟩
  | 1, h => cases h; exact ⟨_, 2, rfl, rfl⟩
  | 2, h => cases h; exact ⟨_, 3, rfl, rfl⟩
  | 3, h => cases h; exact ⟨_, 4, rfl, rfl⟩
  | n + 4, h => cases h
theorem tape_rk {o : HO} (h : IsTape o) : o ≠ .dK rkKV := by
  obtain ⟨dg, mx, rfl, _⟩ := h
  intro e
  have e1 := congrArg (fun u : HO => match u with | .dK l => l.length | _ => 0) e
  simp [tapeO, rkKV] at e1

/-! ### values that are small -/
theorem rk_word {d : PyData} {i : Int} (h : rkD d = some i) : (d, i) = (.str "hold", 1) ∨ (d, i) = (.str "keep", 2) ∨ (d, i) = (.str "change", 3) ∨ (d, i) = (.str "replace", 4) := by
  cases d with
  | str z =>
    have h : rkS z = some i := h
    unfold rkS at h
    split at h
    · rename_i e; subst e; cases h; exact .inl rfl
    split at h
    · rename_i e; subst e; cases h; exact .inr (.inl rfl)
    split at h
    · rename_i e; subst e; cases h; exact .inr (.inr (.inl rfl))
    split at h
    · rename_i e; subst e; cases h; exact .inr (.inr (.inr rfl))
    · cases h
  | _ => cases h
theorem Sv.made {d : PyData} (h : Sv d) : Sm (madeD d) := by
  unfold madeD
  cases e : rkD d with
  | some i =>
    rcases rk_word e with q | q | q | q <;> (cases q; exact Sm.of (by decide +kernel))
  | none =>
    obtain ⟨h1, h2, h3, h4⟩ := h
    have w3 : (PyData.str "bad").weight = 3 := by decide +kernel
    have d3 : (PyData.str "bad").depth = 0 := by decide +kernel
    have l3 : (PyData.str "bad").leavesShort 100 = true := by decide +kernel
    have s3 : (PyData.str "bad").showable = true := by decide +kernel
    refine ⟨by simp [PyData.showable, PyData.showableAll, h1], by simp [PyData.leavesShort, PyData.leavesShortAll, h2] at l3 ⊢; exact l3, ?_, ?_⟩
    · simp only [PyData.weight, PyData.weightAll] at w3 ⊢
      omega
    · simp only [PyData.depth, PyData.depthAll]
      omega

/-! ### texts cut and put together -/
def smC (z : Str) : Bool := z.cps.toList.all fun c => decide (c < 16 ^ 8)
theorem smC_cut {z : Str} {lo hi : Option Int} (h : smC z = true) : smC (cutS z lo hi) = true := by
  unfold smC at h ⊢
  rw [List.all_eq_true] at h ⊢
  intro c hc
  unfold cutS at hc
  simp only at hc
  exact h c (List.mem_of_mem_drop (List.mem_of_mem_take hc))
theorem smC_app {x y : Str} (h : smC x = true) (h' : smC y = true) : smC (x ++ y) = true := by
  unfold smC at h h' ⊢
  have e : (x ++ y).cps.toList = x.cps.toList ++ y.cps.toList := by
    show (x.cps ++ y.cps).toList = _
    simp
  rw [e, List.all_append, h, h']
  rfl
theorem len_app (x y : Str) : (x ++ y).length = x.length + y.length := by
  show (x.cps ++ y.cps).size = _
  simp [Str.length]
theorem Sv.str {z : Str} (h : smC z = true) (hl : z.length ≤ 1000) : Sv (.str z) :=
  ⟨by simp [PyData.showable], by simp only [PyData.leavesShort]; exact h, by simp only [PyData.weight]; exact hl, by simp [PyData.depth]⟩
theorem rk_str {i : Nat} {v : V} (h : (rkKV.map fun kv => kV kv.1)[i]? = some v) : ∃ z n, v = .str z ∧ rkS z = some n := by
  rw [List.getElem?_map] at h
  cases e : rkKV[i]? with
  | none => rw [e] at h; cases h
  | some p =>
    obtain ⟨k, x⟩ := p
    rw [e] at h
    obtain ⟨z, n, rfl, hz⟩ := rk_key e
    cases h
    exact ⟨z, n, rfl, hz⟩
theorem rk_len {z : Str} {n : Int} (h : rkS z = some n) : z.length ≤ 7 ∧ smC z = true := by
  rcases rk_word (d := .str z) h with q | q | q | q <;> (cases q; exact ⟨by decide +kernel, by decide +kernel⟩)
theorem sign_str {i : Nat} {v : V} (h : [V.str "", V.str " ", V.str "e", V.str "H"][i]? = some v) : ∃ z, v = .str z ∧ z.length ≤ 1 ∧ smC z = true := by
  match i, h with
  | 0, h => cases h; exact ⟨_, rfl, by decide +kernel, by decide +kernel⟩
  | 1, h => cases h; exact ⟨_, rfl, by decide +kernel, by decide +kernel⟩
  | 2, h => cases h; exact ⟨_, rfl, by decide +kernel, by decide +kernel⟩
  | 3, h => cases h; exact ⟨_, rfl, by decide +kernel, by decide +kernel⟩
  | n + 4, h => cases h

/-! ### two modes made and compared -/
section
variable {K : PySem.W.Frag} {CM : Addr} {σ : L2.St} {H : Hp} {z z' : Str} {n n' : Int} {i j : Nat} {Q : Bool → Hp → Prop}
theorem pair_eq (hi : σ[i]? = some (some (.str z))) (hj : σ[j]? = some (some (.str z'))) (hz : rkS z = some n) (hz' : rkS z' = some n')
    (q : ∀ H3, Same H H3 → Q (decide (z = z')) H3) :
    tTest (tOp (rOwnL K CM (spEqM K CM)) (tMake CM (spModeQ K CM) [] E0 (tCons (tVar i) tNil)) (tMake CM (spModeQ K CM) [] E0 (tCons (tVar j) tNil))) σ H Q := by
  refine ⟨_, hi, fun x dx nx nd ne => ⟨x, dx, z, n, rfl, upd_same, hz, rfl, ?_⟩⟩
  rw [upd_upd]
  have S1 := same_two (o := .own x) (o' := mdO CM dx z) nd nx ne
  refine ⟨_, hj, fun x2 dx2 nx2 nd2 ne2 => ⟨x2, dx2, z', n', rfl, upd_same, hz', rfl, ?_⟩⟩
  rw [upd_upd]
  have S2 := same_two (o := .own x2) (o' := mdO CM dx2 z') nd2 nx2 ne2
  have h1 := S2 _ _ (upd_same (H := upd H dx (.own x)) (a := x) (o := mdO CM dx z))
  exact ⟨x, dx, _, rfl, h1, .inr ⟨x2, dx2, _, rfl, upd_same⟩, x, dx, z, .ref x2, rfl, h1, .inr ⟨x2, dx2, z', rfl, upd_same, _, rfl, _, rfl, q _ (S1.trans S2)⟩⟩
theorem pair_ne (hi : σ[i]? = some (some (.str z))) (hj : σ[j]? = some (some (.str z'))) (hz : rkS z = some n) (hz' : rkS z' = some n')
    (q : ∀ H3, Same H H3 → Q (!decide (z = z')) H3) :
    tTest (tOp (rOwnNe CM (spEqM K CM)) (tMake CM (spModeQ K CM) [] E0 (tCons (tVar i) tNil)) (tMake CM (spModeQ K CM) [] E0 (tCons (tVar j) tNil))) σ H Q := by
  refine ⟨_, hi, fun x dx nx nd ne => ⟨x, dx, z, n, rfl, upd_same, hz, rfl, ?_⟩⟩
  rw [upd_upd]
  have S1 := same_two (o := .own x) (o' := mdO CM dx z) nd nx ne
  refine ⟨_, hj, fun x2 dx2 nx2 nd2 ne2 => ⟨x2, dx2, z', n', rfl, upd_same, hz', rfl, ?_⟩⟩
  rw [upd_upd]
  have S2 := same_two (o := .own x2) (o' := mdO CM dx2 z') nd2 nx2 ne2
  have h1 := S2 _ _ (upd_same (H := upd H dx (.own x)) (a := x) (o := mdO CM dx z))
  exact ⟨x, dx, _, x2, dx2, _, rfl, h1, rfl, upd_same, x, dx, z, .ref x2, rfl, h1, .inr ⟨x2, dx2, z', rfl, upd_same, _, rfl, _, rfl, q _ (S1.trans S2)⟩⟩
end
/-- the words of the law's dict -/
def rkV : List V := rkKV.map fun kv => kV kv.1
theorem take_yes {p : V → Bool} {i : Nat} {x : V} (e : rkV[i]? = some x) (h : p x = true) : (rkV.take (i + 1)).filter p = (rkV.take i).filter p ++ [x] := by
  rw [List.take_succ, e, List.filter_append]
  simp [h]
theorem take_no {p : V → Bool} {i : Nat} {x : V} (e : rkV[i]? = some x) (h : p x = false) : (rkV.take (i + 1)).filter p = (rkV.take i).filter p := by
  rw [List.take_succ, e, List.filter_append]
  simp [h]
theorem mates {z : Str} {n : Int} (h : rkS z = some n) : (rkV.filter fun y => decide (y = V.str z)) = [V.str z] ∧ (rkV.filter fun y => !decide (y = V.str z)).length = 3 ∧
    SeqAt.shaped (.list [.str z]) = true ∧ PyData.eqv (.list [.str z]) (.list [.str z]) = true := by
  rcases rk_word (d := .str z) h with q | q | q | q <;> (cases q; exact ⟨by decide +kernel, by decide +kernel, by decide +kernel, by decide +kernel⟩)
theorem rkV_len {p : V → Bool} {i : Nat} : ((rkV.take i).filter p).length < sizeLine := by
  have h1 := List.length_filter_le p (rkV.take i)
  have h2 : (rkV.take i).length ≤ 4 := by rw [List.length_take]; exact Nat.min_le_right _ _
  have h3 : 16 < sizeLine := by decide
  omega
end Rm

set_option maxRecDepth 100000
set_option maxHeartbeats 4000000
namespace Rm
open PySem PySem.Spec L2
open PyProof.Rows hiding St

/-! ### the end: the law's promise, asked by the caller that has no display under way -/
section
variable {P : Program} {w : World} {K : PySem.W.Frag} {mg mb : Str → Option Value} {k : Nat} {fa a : Addr} {fd : FuncData} {x : Str} {sp : Sp}
variable {s : Shared} {vs : List Value} {ns : List Int}
/-- what the caller is told -/
def Told (s : Shared) (r : Result) (s' : Shared) : Prop :=
  r = .ok (.ret (.bool true)) ∧ OldK s.heap s'.heap ∧ s'.os = s.os ∧ AllBare s'.gens
/-- the heap H tracks the script at most -/
structure Bare (P : Program) (w : World) (K : PySem.W.Frag) (s : Shared) (a : Addr) (H : Hp) : Prop where
  only : Only H
  hok : HOk P w H s.heap
  at_ : ∀ b u, H b = some u → b = a
  out : ∀ u, H a = some u → K.lookup a = none
  lst : ∃ vs : List Value, s.heap.get? a = some { cls := .type "list", data := .seq vs.toArray }
theorem Bare.dict {H : Hp} (B : Bare P w K s a H) {b : Addr} {o : Obj} {es : Array DictEntry} {ep : Nat}
    (e : s.heap.get? b = some o) (d : o.data = .dict es ep) : H b = none := by
  cases q : H b with
  | none => rfl
  | some u =>
    obtain ⟨vs, l⟩ := B.lst
    have z := B.at_ b u q
    rw [z, l] at e
    cases e
    exact absurd (show Data.seq vs.toArray _ = Data.dict es ep from d) (by intro y; cases y)
theorem Bare.names {H : Hp} (B : Bare P w K s a H) {b : Addr} {m : Str → Option Value} (h : s.heap.Ns b m) : (hidT s.heap H).Ns b m := by
  obtain ⟨o, es, ep, e, d, r⟩ := h
  exact ⟨o, es, ep, hidT_get e (B.dict e d), d, r⟩
theorem Bare.kin {H : Hp} (B : Bare P w K s a H) (KX : K.In s.heap) : K.In (hidT s.heap H) := fun b o e => by
  refine hidT_get (KX b o e) ?_
  cases q : H b with
  | none => rfl
  | some u =>
    have z := B.at_ b u q
    subst z
    rw [B.out u q] at e
    cases e
theorem told_of {H : Hp} (B : Bare P w K s a H) (KX : K.In s.heap) (hns : s.heap.Ns mainGlobals mg) (hb : s.heap.Ns builtinsNs mb)
    (hbb : ∀ y : Str, y ≠ "__name__" → mb y = bootBuiltins y) (hlim : s.heap.NoLimit) (hg : s.gens = #[]) (hr : Room k callerA)
    (F : ∀ base : Heap, K.In base → base.Ns mainGlobals mg → FnG P w K mg base CX0 k fa fd [x] sp)
    (hbind : ∀ (s : Shared) (u : Value), BindsTo s fd ⟨[u], []⟩ [(x, u)])
    (q : sp [.ref a] H (fun v _ => v = .bl true) E0) :
    codeAny (model P w) callerA (.call (.ref fa) ⟨[.ref a], []⟩) (Told s) s := by
  have kin := B.kin KX
  have lim : (hidT s.heap H).NoLimit := by
    obtain ⟨mc, h1, h2⟩ := hlim
    exact ⟨mc, B.names h1, h2⟩
  have md : Mod K mg (hidT s.heap H) := ⟨kin, B.names hns, ⟨mb, B.names hb, hbb⟩, lim⟩
  have none_in : ∀ b : Addr, b ∉ ([] : List Addr) := fun b z => by cases z
  have env : Env0 P w K mg (hidT s.heap H) callerA [] s H :=
    ⟨rfl, md, fun b o e => of_hidT e, Nat.le_of_eq (hidT_size _ _), trivial, fun b z => absurd z (none_in b), B.hok, .of_eq hg⟩
  have run := (F _ kin (B.names hns)).run callerA [] s H ⟨[.ref a], []⟩ [.ref a] [.ref a] _ _ hr rfl env (hbind s (.ref a)) (.cons rfl .nil) q
  refine codeAny_mono run fun r s' h => ?_
  match r, h with
  | .error e, h => exact False.elim h
  | .ok .next, h => exact False.elim h
  | .ok .brk, h => exact False.elim h
  | .ok .cont, h => exact False.elim h
  | .ok (.ret u), ⟨v, H', os, bare, un, hok', r', ev⟩ =>
    have ev : v = .bl true := ev
    subst ev
    have eu : u = Value.bool true := r'
    subst eu
    refine ⟨rfl, OldK.of_keep fun b o e => ?_, os, bare⟩
    rcases B.only b with z | ⟨ob, xs, z⟩
    · exact un.keep b o e z (none_in b) (none_in b)
    · have e1 := (B.hok b _ z).1
      have e2 := (hok' b _ (un.frzs b ob _ z)).1
      exact e2.trans (e1.symm.trans e)
/-- the script as the one tracked thing -/
def scH (a : Addr) (vs : List Value) (ns : List Int) : Hp := fun b =>
  if b = a then some (.frz { cls := .type "list", data := .seq vs.toArray } (.lst (ns.map V.int))) else none
theorem bare_sc (hk : K.lookup a = none) (ha : s.heap.get? a = some { cls := .type "list", data := .seq vs.toArray }) (hi : IntsAre vs ns)
    (hl : ns.length ≤ sizeLine) : Bare P w K s a (scH a vs ns) := by
  have at_ : ∀ b u, scH a vs ns b = some u → b = a := fun b u z => by
    unfold scH at z
    split at z
    · assumption
    · cases z
  refine ⟨fun b => ?_, fun b u z => ?_, at_, fun _ _ => hk, vs, ha⟩
  · unfold scH
    split
    · exact .inr ⟨_, _, rfl⟩
    · exact .inl rfl
  · have e := at_ b u z
    subst e
    unfold scH at z
    rw [if_pos rfl] at z
    cases z
    exact ⟨ha, by rw [List.length_map]; exact hl, vs, _, vals_ints hi, ha⟩
theorem bare_k (ha : s.heap.get? a = some { cls := .type "list", data := .seq vs.toArray }) : Bare P w K s a (fun _ => none) :=
  ⟨fun _ => .inl rfl, fun _ _ z => (nomatch z), fun _ _ z => (nomatch z), fun _ z => (nomatch z), vs, ha⟩
end
theorem walkG {l : PySem.W.OpenLaw} {k : Nat} {q : Program} {loose : List Str} {XP : (Str → Option Value) → Heap → Prop} {YP : World → Heap → Prop} {d : DefRec}
    {K : Params → PySem.W.Frag} (hn : l.most = some 63) (hdf : d.params.defaults = []) (hr : Room k callerA)
    (hY : ∀ (w : World) (h : Heap), YP w h → (K w.params).In h)
    (F : ∀ (w : World) (mg : Str → Option Value) (fa : Addr) (h : Heap), (K w.params).In h → h.Ns mainGlobals mg → mg d.name = some (.ref fa) →
      ∃ fd : FuncData, (∀ (s : Shared) (u : Value), BindsTo s fd ⟨[u], []⟩ [("_law_script", u)]) ∧
        ∀ base : Heap, (K w.params).In base → base.Ns mainGlobals mg → FnG l.prog w (K w.params) mg base CX0 k fa fd ["_law_script"] (spLaw (K w.params))) :
    PySem.W.WalkO q loose XP YP l.row.toRowW d [] (fun f vs => PySem.call f vs) := by
  refine Att.attach_callB hn hdf fun w s₀ s mg mb fa o pm cd doc a vs ns G Y ho hd hcd hmg ha hi hlen hbits hg => ?_
  have KX := hY w _ Y
  obtain ⟨fd, hb, hF⟩ := F w mg fa _ KX G.T.g hmg
  have hl : ns.length ≤ sizeLine := Nat.le_trans hlen (by decide)
  have go : ∀ H : Hp, Bare l.prog w (K w.params) s a H → SqL (K w.params) H a (ns.map V.int) →
      codeAny (model l.prog w) callerA (.call (.ref fa) ⟨[.ref a], []⟩) (Told s) s := fun H B S =>
    told_of B KX G.T.g G.T.b G.T.builtins G.T.nolimit hg hr hF hb ⟨a, ns, rfl, S, hlen, hbits, fun _ => rfl⟩
  cases hk : (K w.params).lookup a with
  | none => exact go _ (bare_sc hk ha hi hl) (.inl (.inr ⟨_, if_pos rfl⟩))
  | some ob =>
    have e := KX a ob hk
    rw [ha] at e
    cases e
    refine go _ (bare_k ha) (.inr ⟨_, vs.toArray, _, hk, rfl, rfl, rfl, ?_, ?_⟩)
    · rw [List.size_toArray, hi.length]; exact hl
    · simpa using vals_ints hi
/-- an error of the class at C is what `except` of C names -/
theorem em_self {K : PySem.W.Frag} {C : Addr} (h1 : PySem.W.subIn K (.ref C) (.type "BaseException") = some true) (h2 : PySem.W.hasDictIn K C = true)
    (h3 : PySem.W.typeIn K (.ref C) = some (.type "type")) (h4 : PySem.W.mroIn K C (.ref C) = some true) : PySem.W.exmOne K (.ref C) (.ref C) = some true := by
  have e : (PySem.W.clsIn K C).isSome = true := by
    obtain ⟨cd, z, _⟩ := PySem.W.any_some h2
    rw [z]; rfl
  unfold PySem.W.exmOne PySem.W.kitCls
  dsimp only
  rw [if_pos (by rw [h1]; rfl), if_pos (by rw [e, h3]; rfl)]
  exact h4
end Rm

set_option maxRecDepth 100000
set_option maxHeartbeats 4000000
namespace Rm
open PySem PySem.Spec L2
open PyProof.Rows hiding St

/-! ### one keyword and nothing else -/
/-- the keyword y fills the last of ps, behind n values -/
structure Kw1 (fd : FuncData) (ps : List Str) (n : Nat) (y : Str) : Prop where
  to : ∀ (s : Shared) (us : List Value) (w : Value), us.length = n → BindsTo s fd ⟨us, [(y, w)]⟩ (ps.zip (us ++ [w]))
def CmK (P : Program) (w : World) (K : PySem.W.Frag) (mg : Str → Option Value) (base : Heap) (CX : CXT)
    (k : Nat) (C : Addr) (m : Str) (ps : List Str) (y : Str) (sp : Sp) : Prop :=
  ∃ f fd, Cls K C ∧ Meth K C m f ∧ Kw1 fd ps 1 y ∧ FnG P w K mg base CX k f fd ps sp
def CnK (P : Program) (w : World) (K : PySem.W.Frag) (mg : Str → Option Value) (base : Heap) (CX : CXT)
    (k : Nat) (x : Str) (C : Addr) (ps : List Str) (y : Str) (sp : Sp) : Prop :=
  ∃ f fd, mg x = some (.ref C) ∧ Mk K C f ∧ Kw1 fd ps 1 y ∧ FnG P w K mg base CX k f fd ps sp
section
variable {X : Cx} {CX : CXT} {k n : Nat} {f C : Addr} {fd : FuncData} {ps : List Str} {sp : Sp} {E : XK} {x m y : Str} {p pos apos kpos : Pos} {e o : Expr} {te ta : TE}
theorem goes1 {pins : List (Addr × Obj)} {σ : L2.St} {H : Hp} {s : Shared} {Q : VK} {us : List Value} {vs : List V} {u : Value} {v : V}
    (F : FnG X.prog X.w X.K X.mg X.base CX k f fd ps sp) (hr : Room k X.A) (hG : Gd X.A) (hb : Kw1 fd ps n y) (hx : Passes CX X E)
    (I : Inv X pins σ H s) (r : Vals vs us) (rv : RelV v u) (hl : vs.length = n) (h : sp (vs ++ [v]) H Q E) :
    wpAny (model X.prog X.w) X.A (call (.ref f) us [(y, u)]) (EP X pins σ Q) X.xe s :=
  wpAny_call (codeAny_mono (F.run X.A X.stack s H ⟨us, [(y, u)]⟩ (us ++ [u]) (vs ++ [v]) Q E hr hG I.env0
    (hb.to s us u (r.length.symm.trans hl)) (r.append (.cons rv .nil)) h) fun r s' hq => came hx I hq)
theorem kw_one {pins : List (Addr × Obj)} {σ : L2.St} {H : Hp} {s : Shared} {Q : VK} (ha : PE X e te) (I : Inv X pins σ H s) (h : te σ H Q) :
    wpAny (model X.prog X.w) X.A (evalAll ((backToKw pos (keywordEach [⟨some y, e, kpos⟩] X.env)).map (·.2)))
      (fun us s' => ∃ v u H', us = [u] ∧ Inv X pins σ H' s' ∧ RelV v u ∧ Q v H') X.xe s := by
  show wpAny _ _ (evalAll ((do let v ← eval e X.env; standAt pos; pure v) :: [])) _ _ s
  refine wpAny_evalAll_cons (wpAny_bind (thn (ha.run pins s σ H _ I h) fun u s1 hh => wpAny_bind (wpAny_standAt (wpAny_pure ?_))))
  obtain ⟨v, H1, I1, r1, q1⟩ := hh
  exact wpAny_evalAll_nil ⟨v, u, H1, rfl, I1, r1, q1⟩
theorem pe_cmK {pl : Sem Bool} (D : CmK X.prog X.w X.K X.mg X.base CX k C m ps y sp) (hr : Room k X.A) (hG : Gd X.A)
    (he : PE X o ta) (ha : PE X e te) (hx : Passes CX X E)
    (ht : eval (.Call (.Attribute o m apos) [] [⟨some y, e, kpos⟩] pos) X.env = (do
      let ov ← eval o X.env
      standAt apos.atName
      let (g, first) ← holding [ov] (getMethod ov m pl)
      callWith pos g first (backTo pos (starEach [] X.env)) (backToKw pos (keywordEach [⟨some y, e, kpos⟩] X.env))) := by rfl) :
    PE X (.Call (.Attribute o m apos) [] [⟨some y, e, kpos⟩] pos) (tMeth C m sp [] E ta (tCons te tNil)) := by
  obtain ⟨f, fd, c, hm, hb, F⟩ := D
  constructor
  intro pins s σ H Q I h
  refine PySem.W.methodCall_KW (pl := pl)
    (thn (he.run pins s σ H _ I h) fun u s1 ⟨z, H1, I1, rz, a, dx, fs, ez, ea, l, q⟩ => ?_) ht
  subst ez
  cases rz
  refine getmeth_ok I1 ea c hm l (PySem.W.callWith_KW0 (first := [.ref a]) (h₀ := X.base) I1.ok.mod.kin hm.kp rfl
    (thn (kw_one ha I1 q) fun us s2 hh => ?_) rfl)
  obtain ⟨v, u, H2, rfl, I2, r1, q2⟩ := hh
  exact ⟨I2.kIn, goes1 (us := [.ref a]) (vs := [.ref a]) F hr hG hb hx I2 (.cons rfl .nil) r1 rfl q2⟩
theorem grows1 {pins : List (Addr × Obj)} {σ : L2.St} {H : Hp} {s : Shared} {Q : VK} {v : V} {u : Value} (M : Mk X.K C f)
    (F : FnG X.prog X.w X.K X.mg X.base CX k f fd ps sp) (hr : Room (k + 1) X.A) (hG : Gd X.A) (hb : Kw1 fd ps 1 y) (hx : Passes CX X E)
    (I : Inv X pins σ H s) (rv : RelV v u)
    (h : ∀ z dx, H z = none → H dx = none → dx ≠ z → sp [.ref z, v] (upd (upd H dx (.own z)) z (.ins C dx [])) (fun v H2 => v = .non ∧ Q (.ref z) H2) E) :
    wpAny (model X.prog X.w) X.A (call (.ref C) [] [(y, u)]) (EP X pins σ Q) X.xe s := by
  have hq := h (s.heap.objs.size + 1) s.heap.objs.size (I.hok.fresh (Nat.le_succ _)) (I.hok.fresh (Nat.le_refl _)) (Nat.ne_of_lt (Nat.lt_succ_self _))
  have I2 := Inv.made (C := C) I
  refine wpAny_call (make_map (f := f) I.kIn M.makes M.init (beq_iff_eq.mp M.fn)
    (codeAny_mono (F.run _ X.stack _ _ ⟨[Value.ref (s.heap.objs.size + 1)], [(y, u)]⟩ [Value.ref (s.heap.objs.size + 1), u] _ _ E
      (hr.make C [] [(y, u)]) (hG.make C [] [(y, u)]) (I2.env0.make C [] [(y, u)])
      (hb.to _ [Value.ref (s.heap.objs.size + 1)] u rfl) (show Vals [V.ref (s.heap.objs.size + 1), v] _ from .cons rfl (.cons rv .nil)) hq) fun r s' hq' => ?_))
  match r, hq' with
  | .error er, hq' => exact hx pins σ _ _ er s' I2 hq'
  | .ok (.ret z), hq' =>
    obtain ⟨v, H', I3, rz, ev, q3⟩ := I2.after hq'
    subst ev
    exact ⟨rz, V.ref (s.heap.objs.size + 1), H', I3, rfl, q3⟩
  | .ok .next, hq' => exact False.elim hq'
  | .ok .brk, hq' => exact False.elim hq'
  | .ok .cont, hq' => exact False.elim hq'
theorem pe_cnK (D : CnK X.prog X.w X.K X.mg X.base CX k x C ps y sp) (hr : Room (k + 1) X.A) (hG : Gd X.A) (ha : PE X e te) (hx : Passes CX X E)
    (hg : Gl X x := by rfl) (hdb : (x == ("__debug__" : Str)) = false := by decide) :
    PE X (.Call (.Name x p) [] [⟨some y, e, kpos⟩] pos) (tMake C sp [] E (tCons te tNil)) := by
  obtain ⟨f, fd, hm, M, hb, F⟩ := D
  constructor
  intro pins s σ H Q I h
  refine wpAny_Call_Name_kw (ld_glob I hg hm ?_ hdb)
  refine PySem.W.callWith_KW0 (first := []) (h₀ := X.base) I.ok.mod.kin M.kp rfl (thn (kw_one ha I h) fun us s2 hh => ?_) rfl
  obtain ⟨v, u, H2, rfl, I2, r1, q2⟩ := hh
  exact ⟨I2.kIn, grows1 M F hr hG hb hx I2 r1 q2⟩

/-! ### | by an own __or__ -/
def rOwnOr (C : Addr) (sp : Sp) : R2 := fun x y H Q => ∃ a dx fs b dy gs, x = .ref a ∧ H a = some (.ins C dx fs) ∧ y = .ref b ∧ H b = some (.ins C dy gs) ∧
  sp [x, y] H (fun z H' => (∃ c, z = .ref c) ∧ Q z H') E0
theorem op_ownOr (D : Cm X.prog X.w X.K X.mg X.base CX0 k C "__or__" ps sp) (sf : PySem.W.selfFirst X.K C = true) (hr : Room k X.A) (hG : Gd X.A) :
    OpR X (binaryOp .BitOr) (rOwnOr C sp) := by
  intro pins s σ H x y v u Q I rx ry h
  obtain ⟨a, dx, fs, b, dy, gs, rfl, ha, rfl, hb', q⟩ := h
  cases rx
  cases ry
  obtain ⟨f, fd, c, hm, hb, F0⟩ := D
  obtain ⟨mA, O, _⟩ := ins_get I.hok ha
  obtain ⟨od, J, _⟩ := O.look
  obtain ⟨mB, O', _⟩ := ins_get I.hok hb'
  obtain ⟨od', J', _⟩ := O'.look
  obtain ⟨m, hF⟩ := I.fr
  have hl : ([Value.ref a] ++ [Value.ref b]).length = ps.length := F0.len _ _ _ _ q
  refine PySem.W.binop_K (op := .BitOr) hF I.ok.mod.kin J J'.type sf hm.at_ hm.fn ?_
  refine wpAny_call (codeAny_mono (F0.run X.A X.stack s H ⟨[.ref a, .ref b], []⟩ [.ref a, .ref b] [.ref a, .ref b] _ _ hr hG I.env0
      (by have := hb s [.ref a, .ref b] I.kIn (by simpa using hl); simpa using this) (.cons rfl (.cons rfl .nil)) q) fun rr s' hq => ?_)
  match rr, hq with
  | .error er, hq => exact False.elim hq
  | .ok (.ret z), hq =>
    obtain ⟨y, H', I2, ry, ⟨⟨c, ey⟩, qq⟩⟩ := I.after hq
    subst ey
    cases ry
    exact ⟨.ref c, H', I2, rfl, qq⟩
  | .ok .next, hq => exact False.elim hq
  | .ok .brk, hq => exact False.elim hq
  | .ok .cont, hq => exact False.elim hq
end
end Rm

set_option maxRecDepth 100000
set_option maxHeartbeats 4000000
namespace Rm
open PySem PySem.Spec L2
open PyProof.Rows hiding St

/-! ### static methods -/
structure StM (K : PySem.W.Frag) (C : Addr) (m : Str) (f : Addr) : Prop where
  ga : PySem.W.specialIn K (.ref C) "__getattribute__" = some (some (.builtin "type.__getattribute__"))
  cls : Cls K C
  ty : PySem.W.typeIn K (.ref C) = some (.type "type")
  rd : PySem.W.readsIn K C (.type "type") = true
  at_ : ∃ p rest, PySem.W.findCls K (.ref C) (.type "type") m = some (.get (.builtin "staticmethod.__get__") (.ref p) .none (.ref C)) ∧
    PySem.W.recIn K p "staticmethod" = some (.ref f :: rest) ∧ PySem.W.findIn K (.ref C) m = some (some (.ref p)) ∧ PySem.W.typeIn K (.ref p) = some (.type "staticmethod") ∧
    PySem.W.specialIn K (.ref p) "__get__" = some (some (.builtin "staticmethod.__get__")) ∧ PySem.W.takesIn K (.ref p) = some false
  cp : PySem.W.copiedNames.contains m = false
  kp : PySem.W.keepIn K (.ref f) = true
def Cs (P : Program) (w : World) (K : PySem.W.Frag) (mg : Str → Option Value) (base : Heap) (CX : CXT)
    (k : Nat) (C : Addr) (m : Str) (ps : List Str) (y : Str) (sp : Sp) : Prop :=
  ∃ f fd, StM K C m f ∧ Binds K fd ps [] ∧ Kw1 fd ps 0 y ∧ FnG P w K mg base CX k f fd ps sp
def tStat (C : Addr) (sp : Sp) (E : XK) (ta : TE) (t : TA) : TE := fun σ H Q => ta σ H fun x H1 => x = .ref C ∧ t σ H1 fun vs H2 => sp vs H2 Q E
def tStatI (C : Addr) (m : Str) (sp : Sp) (E : XK) (ta : TE) (t : TA) : TE := fun σ H Q => ta σ H fun x H1 =>
  ∃ a dx fs, x = .ref a ∧ H1 a = some (.ins C dx fs) ∧ fs.lookup m = none ∧ t σ H1 fun vs H2 => sp vs H2 Q E
section
variable {X : Cx} {CX : CXT} {k : Nat} {f C : Addr} {ps : List Str} {sp : Sp} {E : XK} {m y : Str} {pos apos kpos : Pos} {e o : Expr} {es : List Expr} {te ta : TE} {t : TA}
theorem get_sm {pl : Sem Bool} {pins : List (Addr × Obj)} {σ : L2.St} {H : Hp} {s : Shared} {Q : Value × List Value → Shared → Prop} (S : StM X.K C m f) (I : Inv X pins σ H s)
    (h : ∀ s', Inv X pins σ H s' → Q (.ref f, []) s') : wpAny (model X.prog X.w) X.A (getMethod (.ref C) m pl) Q X.xe s := by
  obtain ⟨p, rest, h1, h2, _⟩ := S.at_
  obtain ⟨n, hF⟩ := I.fr
  exact PySem.W.method_of_cls hF I.ok.mod.kin S.ga (PySem.W.cls_sm hF I.ok.mod.kin S.ty S.rd h1 h2 rfl (h _ (I.tok _)))
theorem get_smI {pl : Sem Bool} {pins : List (Addr × Obj)} {σ : L2.St} {H : Hp} {s : Shared} {Q : Value × List Value → Shared → Prop} {a dx : Addr} {fs : List (Str × V)}
    (S : StM X.K C m f) (I : Inv X pins σ H s) (ea : H a = some (.ins C dx fs)) (l : fs.lookup m = none)
    (h : ∀ s', Inv X pins σ H s' → Q (.ref f, []) s') : wpAny (model X.prog X.w) X.A (getMethod (.ref a) m pl) Q X.xe s := by
  obtain ⟨p, rest, _, h2, h3, h4, h5, h6⟩ := S.at_
  obtain ⟨mA, O, r, _⟩ := ins_get I.hok ea
  have hn : mA m = none := RelO.none_of (by rw [← l]; exact r m)
  obtain ⟨od, J, lk⟩ := O.look
  have pg := PySem.W.plainGet_of (S.cls.get m)
  refine PySem.W.method_usual (r := some (.ref p)) I.kIn J pg.1 pg.2 h3 (by simp only [Option.all_some, h4, Option.any_some]; decide +kernel) ?_
  refine PySem.W.get_bind I.kIn J pg.1 (PySem.W.findObj_fn S.cls.hd h3 h5 h6 S.cp (by rw [lk, hn])) pg.2 ?_
  exact wpAny_call (PySem.W.sm_get (s := { s with toks := s.toks + 1 }) I.kIn h2 (PySem.W.handed_on rfl (h _ (I.tok _))))
theorem pe_cs {pl : Sem Bool} (D : Cs X.prog X.w X.K X.mg X.base CX k C m ps y sp) (hr : Room k X.A) (hG : Gd X.A)
    (he : PE X o ta) (ha : PA X (e :: es) t) (hx : Passes CX X E)
    (hst : starEach (e :: es) X.env = (false, eval e X.env) :: starEach es X.env := by rfl)
    (hpl : (backTo pos (starEach es X.env)).any (·.1) = false := by rfl)
    (ht : eval (.Call (.Attribute o m apos) (e :: es) [] pos) X.env = (do
      let ov ← eval o X.env
      standAt apos.atName
      let (g, first) ← holding [ov] (getMethod ov m pl)
      callWith pos g first (backTo pos (starEach (e :: es) X.env)) (backToKw pos (keywordEach [] X.env))) := by rfl) :
    PE X (.Call (.Attribute o m apos) (e :: es) [] pos) (tStat C sp E ta t) := by
  obtain ⟨f, fd, S, hb, _, F⟩ := D
  constructor
  intro pins s σ H Q I h
  refine PySem.W.methodCall_KW (pl := pl) (thn (he.run pins s σ H _ I h) fun u s1 ⟨z, H1, I1, rz, ez, q⟩ => ?_) ht
  subst ez
  cases rz
  refine get_sm S I1 fun s2 I2 => PySem.W.callWith_K (first := []) (h₀ := X.base) I.ok.mod.kin S.kp (thn (ha.run pos pins s2 σ H1 _ I2 q) fun us s3 ⟨vs, H2, I3, r, q2⟩ =>
      ⟨I3.kIn, goes (dvs := []) (ds := []) F hr hG hb .nil hx I3 r (by rw [List.append_nil]; exact q2)⟩) hst hpl
theorem pe_csI {pl : Sem Bool} (D : Cs X.prog X.w X.K X.mg X.base CX k C m ps y sp) (hr : Room k X.A) (hG : Gd X.A)
    (he : PE X o ta) (ha : PA X (e :: es) t) (hx : Passes CX X E)
    (hst : starEach (e :: es) X.env = (false, eval e X.env) :: starEach es X.env := by rfl)
    (hpl : (backTo pos (starEach es X.env)).any (·.1) = false := by rfl)
    (ht : eval (.Call (.Attribute o m apos) (e :: es) [] pos) X.env = (do
      let ov ← eval o X.env
      standAt apos.atName
      let (g, first) ← holding [ov] (getMethod ov m pl)
      callWith pos g first (backTo pos (starEach (e :: es) X.env)) (backToKw pos (keywordEach [] X.env))) := by rfl) :
    PE X (.Call (.Attribute o m apos) (e :: es) [] pos) (tStatI C m sp E ta t) := by
  obtain ⟨f, fd, S, hb, _, F⟩ := D
  constructor
  intro pins s σ H Q I h
  refine PySem.W.methodCall_KW (pl := pl) (thn (he.run pins s σ H _ I h) fun u s1 ⟨z, H1, I1, rz, a, dx, fs, ez, ea, l, q⟩ => ?_) ht
  subst ez
  cases rz
  refine get_smI S I1 ea l fun s2 I2 => PySem.W.callWith_K (first := []) (h₀ := X.base) I.ok.mod.kin S.kp (thn (ha.run pos pins s2 σ H1 _ I2 q) fun us s3 ⟨vs, H2, I3, r, q2⟩ =>
      ⟨I3.kIn, goes (dvs := []) (ds := []) F hr hG hb .nil hx I3 r (by rw [List.append_nil]; exact q2)⟩) hst hpl
theorem pe_csK {pl : Sem Bool} (D : Cs X.prog X.w X.K X.mg X.base CX k C m ps y sp) (hr : Room k X.A) (hG : Gd X.A)
    (he : PE X o ta) (ha : PE X e te) (hx : Passes CX X E)
    (ht : eval (.Call (.Attribute o m apos) [] [⟨some y, e, kpos⟩] pos) X.env = (do
      let ov ← eval o X.env
      standAt apos.atName
      let (g, first) ← holding [ov] (getMethod ov m pl)
      callWith pos g first (backTo pos (starEach [] X.env)) (backToKw pos (keywordEach [⟨some y, e, kpos⟩] X.env))) := by rfl) :
    PE X (.Call (.Attribute o m apos) [] [⟨some y, e, kpos⟩] pos) (tStat C sp E ta (tCons te tNil)) := by
  obtain ⟨f, fd, S, _, hb, F⟩ := D
  constructor
  intro pins s σ H Q I h
  refine PySem.W.methodCall_KW (pl := pl) (thn (he.run pins s σ H _ I h) fun u s1 ⟨z, H1, I1, rz, ez, q⟩ => ?_) ht
  subst ez
  cases rz
  refine get_sm S I1 fun s2 I2 => PySem.W.callWith_KW0 (first := []) (h₀ := X.base) I.ok.mod.kin S.kp rfl (thn (kw_one ha I2 q) fun us s3 hh => ?_) rfl
  obtain ⟨v, u, H2, rfl, I3, r1, q2⟩ := hh
  exact ⟨I3.kIn, goes1 (us := []) (vs := []) F hr hG hb hx I3 .nil r1 rfl q2⟩
end
end Rm

set_option maxRecDepth 100000
set_option maxHeartbeats 4000000
namespace Rm
open PySem PySem.Spec L2
open PyProof.Rows hiding St

/-! ### max(list of words, key=own def, default=None) -/
/-- an object that nothing of ours knows -/
structure Apart (X : Cx) (pins : List (Addr × Obj)) (H : Hp) (a : Addr) : Prop where
  na : H a = none
  nL : a ≠ X.env.locals
  nF : a ∉ X.fs
  n0 : X.s_0.heap.get? a = none
  nC : ∀ x c, X.env.cells.lookup x = some c → c ≠ a
  nP : ∀ p ∈ X.pn ++ pins, p.1 ≠ a
section
variable {X : Cx} {pins : List (Addr × Obj)} {σ : L2.St} {H : Hp} {s : Shared} {a : Addr}
theorem Apart.new (I : Inv X pins σ H s) (h : s.heap.objs.size ≤ a) : Apart X pins H a := by
  have no : s.heap.get? a = none := Heap.get?_none_of_le h
  refine ⟨I.hok.fresh h, fun e => ?_, I.nofs h, Heap.get?_none_of_le (Nat.le_trans I.sz h), fun x c e z => ?_, fun p hp z => ?_⟩
  · rw [e] at h
    exact absurd (Nat.lt_of_lt_of_le I.lt h) (Nat.lt_irrefl _)
  · obtain ⟨v, o, ho, _⟩ := I.cell x c e
    rw [z, no] at ho
    cases ho
  · have := (I.pin p hp).1
    rw [z, no] at this
    cases this
theorem Inv.other {h' : Heap} {t' : Nat} (I : Inv X pins σ H s) (A : Apart X pins H a)
    (k : ∀ b o, b ≠ a → s.heap.get? b = some o → h'.get? b = some o) : Inv X pins σ H { s with heap := h', toks := t' } := by
  obtain ⟨m, hn, hlk⟩ := id I.loc
  have ne0 : ∀ b o, X.s_0.heap.get? b = some o → b ≠ a := fun b o e z => by rw [z, A.n0] at e; cases e
  have ns : h'.Ns X.env.locals m := by
    obtain ⟨o, es, ep, e, d, r⟩ := hn
    exact ⟨o, es, ep, k _ _ (Ne.symm A.nL) e, d, r⟩
  refine ⟨I.ok, I.os, I.bare, ⟨fun b o e n hb hx => ?_, fun b o e n hb hx => ?_, I.base.free, fun b o e hx => ?_, I.base.tups, I.base.frzs, I.base.tbls⟩,
    ⟨m, ns, fun i x v e1 e2 e3 => ?_⟩, fun x c e => ?_, I.free, I.freeC, fun p hp => ?_, fun b ob e => ?_, I.len⟩
  · exact k _ _ (ne0 b o e) (I.base.keep b o e n hb hx)
  · obtain ⟨sl, e1⟩ := I.base.slot b o e n hb hx
    exact ⟨sl, k _ _ (ne0 b o e) e1⟩
  · obtain ⟨o', e1⟩ := I.base.there b o e hx
    exact ⟨o', k _ _ (ne0 b o e) e1⟩
  · obtain ⟨u, r, q⟩ := hlk i x v e1 e2 e3
    refine ⟨u, r, ?_⟩
    rcases q with q | ⟨kk, c, e, z⟩
    · exact .inl q
    · obtain ⟨o, ho, hd⟩ := z
      exact .inr ⟨kk, c, e, o, k _ _ (A.nC x c e) ho, hd⟩
  · obtain ⟨v, o, ho, hd⟩ := I.cell x c e
    exact ⟨v, o, k _ _ (A.nC x c e) ho, hd⟩
  · obtain ⟨e, r⟩ := I.pin p hp
    exact ⟨k _ _ (A.nP p hp) e, r⟩
  · refine (I.hok b ob e).stay (fun c w' hc q => k _ _ ?_ q) (fun _ q => q) fun _ _ q => q
    intro z
    subst z
    rcases hc with hc | hc
    · rw [← hc, A.na] at e; cases e
    · rw [A.na] at hc; cases hc
end
/-- the first of the greatest -/
def better (b : Option (Str × Int)) (p : Str × Int) : Option (Str × Int) := match b with
  | none => some p
  | some q => if p.2 > q.2 then some p else some q
def bestL (ws : List (Str × Int)) : Option (Str × Int) := ws.foldl better none
def bestV (ws : List (Str × Int)) : V := match bestL ws with
  | none => .non
  | some p => .str p.1
theorem best_next {ws : List (Str × Int)} {i : Nat} {p : Str × Int} (e : ws[i]? = some p) : bestL (ws.take (i + 1)) = better (bestL (ws.take i)) p := by
  unfold bestL
  rw [List.take_succ, e, List.foldl_append]
  rfl
/-- what the loop keeps of the best one so far -/
def Held (b : Option (Str × Int)) (items : List Value) : Prop := match b with
  | none => items = []
  | some p => ∃ t t', items = [.str p.1 t, .int p.2 t']
theorem max_args (a v d : Value) : argsOk "max" ⟨[a], [(Str.ofString "key", v), (Str.ofString "default", d)]⟩ := by unfold argsOk; kernel_rfl
section
variable {X : Cx} {pins : List (Addr × Obj)} {σ : L2.St} {H : Hp} {l q it S : Addr} {ws : List (Str × Int)} {fd : FuncData} {R : Result → Shared → Prop}
theorem max_loop (F0 : FnG X.prog X.w X.K X.mg X.base CX0 1 q fd ["word"] spRank) (hb : Binds X.K fd ["word"] []) (hr : Room 2 X.A) (hG : Gd X.A)
    (hh : X.A.handled = none) (hw : ∀ p ∈ ws, rkS p.1 = some p.2) (hl : SqL X.K H l (ws.map fun p => V.str p.1))
    (aI : Apart X pins H it) (aS : Apart X pins H S) (ne : it ≠ S)
    (hR : ∀ u s', Inv X pins σ H s' → RelV (bestV ws) u → R (.ok (.ret u)) s') :
    ∀ (r i : Nat) (s : Shared) (items : List Value) (c : Nat), ws.length - i = r → i ≤ ws.length → Inv X pins σ H s → s.heap.IsListIter it l i →
      s.heap.get? S = some (seqObj "list" items.toArray c) → Held (bestL (ws.take i)) items →
      codeAny (model X.prog X.w) X.A (.builtin "max.loop" ⟨[.ref it, .ref q, .ref S], [(Str.ofString "default", .none)]⟩) R s := by
  have hname : (toString "max" ++ toString ".loop" : String) = "max.loop" := by decide
  intro r
  induction r with
  | zero =>
    intro i s items c hi hle I hit hS hacc
    have e : i = ws.length := by omega
    subst e
    rw [List.take_length] at hacc
    obtain ⟨its, rv, hls, _⟩ := I.list hl
    have hn : its.toArray[ws.length]? = none := by
      have e1 := rv.length
      rw [List.length_map] at e1
      rw [e1]
      simp
    refine codeAny_builtin PySem.F.entry_max_loop ?_
    rw [Around.under_plainId PySem.F.plain_max_loop _]
    show wpAny _ X.A.in1 (seqItems? (.ref S) >>= _) _ _ _
    refine wpAny_bind (wpAny_seqItems hS rfl ?_)
    show wpAny _ X.A.in1 (tryCatch (pyNext (.ref it)) _ >>= _) _ _ _
    refine wpAny_bind (wpAny_tryCatch (wpAny_pyNext_list_end hh hit hls.isList hn fun h' hk => ?_))
    have I1 : Inv X pins σ H { s with heap := h' } := Inv.other (t' := s.toks) I aI fun b o nb e => hk b o nb e
    have hS' := hk S _ (Ne.symm ne) hS
    unfold bestV at hR
    cases hB : bestL ws with
    | none =>
      rw [hB] at hacc hR
      have hacc : items = [] := hacc
      subst hacc
      refine wpAny_bind (wpAny_rule (wpAny_pure ?_))
      exact hR .none _ I1 rfl
    | some p =>
      rw [hB] at hacc hR
      obtain ⟨t, t', hacc⟩ := (show ∃ t t', items = [.str p.1 t, .int p.2 t'] from hacc)
      subst hacc
      show wpAny _ X.A.in1 (updateSeq S (fun _ => #[]) >>= _) _ _ _
      refine wpAny_bind ?_
      refine wpAny_updateSeq hS' rfl (wpAny_bind (wpAny_letGo (wpAny_pure ?_)))
      exact hR _ _ (Inv.other (t' := s.toks) I1 aS fun b o nb e => ((Heap.SameBut.update h' S _).2 b nb).trans e) ⟨t, rfl⟩
  | succ r ih =>
    intro i s items c hi hle I hit hS hacc
    have hlt : i < ws.length := by omega
    obtain ⟨its, rv, hls, _⟩ := I.list hl
    have ep : ws[i]? = some ws[i] := List.getElem?_eq_getElem hlt
    have em : (ws.map fun p => V.str p.1)[i]? = some (V.str ws[i].1) := by rw [List.getElem?_map, ep]; rfl
    obtain ⟨u, hu, ru⟩ := rv.get em
    obtain ⟨t, rfl⟩ := ru
    refine codeAny_builtin PySem.F.entry_max_loop ?_
    rw [Around.under_plainId PySem.F.plain_max_loop _]
    show wpAny _ X.A.in1 (seqItems? (.ref S) >>= _) _ _ _
    refine wpAny_bind (wpAny_seqItems hS rfl ?_)
    show wpAny _ X.A.in1 (tryCatch (pyNext (.ref it)) _ >>= _) _ _ _
    refine wpAny_bind (wpAny_tryCatch (wpAny_pyNext_list_item hit hls.isList (x := .str ws[i].1 t) (by simpa using hu) fun h' hit' hk => ?_))
    have I1 : Inv X pins σ H { s with heap := h' } := Inv.other (t' := s.toks) I aI fun b o nb e => (hk.2 b nb).trans e
    have hS' := (hk.2 S (Ne.symm ne)).trans hS
    obtain ⟨oI, hoI, hoc, hod⟩ := hit'
    -- the call
    have rk := hw _ (List.getElem_mem hlt)
    have P1 : Inv X ((it, oI) :: (S, seqObj "list" items.toArray c) :: pins) σ H { s with heap := h' } := I1.pins_of fun p hp => by
      rcases List.mem_cons.mp hp with e | hp
      · subst e
        exact ⟨hoI, aI.na, aI.nL, aI.nF, fun v z => by have z' : oI.data = .cell v := z; rw [hod] at z'; cases z'⟩
      · rcases List.mem_cons.mp hp with e | hp
        · subst e
          exact ⟨hS', aS.na, aS.nL, aS.nF, fun v z => nomatch z⟩
        · exact I1.pin p (List.mem_append_right _ hp)
    show wpAny _ X.A.in1 (tryCatch (holding [.str ws[i].1 t] (call (.ref q) [.str ws[i].1 t])) _ >>= _) _ _ _
    have q1 : spRank [V.str ws[i].1] H (fun v H' => v = .int ws[i].2 ∧ H' = H) E0 := ⟨_, _, rfl, rk, rfl, rfl⟩
    have run := F0.run X.A.in1 X.stack { s with heap := h' } H ⟨[.str ws[i].1 t], []⟩ [.str ws[i].1 t] [.str ws[i].1] _ _ hr.in1 hG.in1 P1.env0.in1
      (hb _ [.str ws[i].1 t] P1.kIn rfl) (.cons ⟨t, rfl⟩ .nil) q1
    refine wpAny_bind (wpAny_tryCatch (wpAny_holding (wpAny_call (codeAny_mono run fun rr s2 hq => ?_))))
    match rr, hq with
    | .error er, hq => exact False.elim hq
    | .ok .next, hq => exact False.elim hq
    | .ok .brk, hq => exact False.elim hq
    | .ok .cont, hq => exact False.elim hq
    | .ok (.ret z), hq =>
      obtain ⟨y, H2, I2, ry, ey, eH⟩ := P1.after hq
      subst ey
      subst eH
      obtain ⟨t2, rfl⟩ := ry
      have gI := (I2.pin (it, oI) (List.mem_append_right _ (.head _))).1
      have gS := (I2.pin (S, seqObj "list" items.toArray c) (List.mem_append_right _ (.tail _ (.head _)))).1
      have I3 : Inv X pins σ H2 s2 := I2.pins_of fun p hp => I2.pin p (List.mem_append_right _ (.tail _ (.tail _ hp)))
      have bn := best_next ep
      cases hB : bestL (ws.take i) with
      | none =>
        rw [hB] at hacc bn
        have hacc : items = [] := hacc
        subst hacc
        have s1 := Heap.SameBut.update s2.heap S (Obj.mapSeq fun _ => #[Value.str ws[i].1 t, .int ws[i].2 t2])
        obtain ⟨c2, hc2⟩ : ∃ c2, (s2.heap.update S (Obj.mapSeq fun _ => #[Value.str ws[i].1 t, .int ws[i].2 t2])).get? S = some (seqObj "list" #[Value.str ws[i].1 t, .int ws[i].2 t2] c2) :=
          ⟨_, get?_update_seq gS fun _ => #[Value.str ws[i].1 t, .int ws[i].2 t2]⟩
        show wpAny _ X.A.in1 (updateSeq S (fun _ => #[Value.str ws[i].1 t, .int ws[i].2 t2]) >>= _) _ _ _
        refine wpAny_bind ?_
        refine wpAny_updateSeq gS rfl ?_
        rw [hname]
        refine wpAny_pure ⟨plainId_quiet PySem.F.plain_max_loop _, ih (i + 1) _ [.str ws[i].1 t, .int ws[i].2 t2] c2 (by omega) hlt (Inv.other (t' := s2.toks) I3 aS fun b o nb e => (s1.2 b nb).trans e)
          ⟨oI, (s1.2 it ne).trans gI, hoc, hod⟩ hc2 ?_⟩
        rw [bn]
        exact ⟨t, t2, rfl⟩
      | some p =>
        rw [hB] at hacc bn
        obtain ⟨tb, tb', hacc⟩ := (show ∃ t t', items = [.str p.1 t, .int p.2 t'] from hacc)
        subst hacc
        show wpAny _ X.A.in1 (tryCatch (holding [.str ws[i].1 t, .int ws[i].2 t2] (richCompare .Gt (.int ws[i].2 t2) (.int p.2 tb') >>= _)) _ >>= _) _ _ _
        refine wpAny_bind (wpAny_tryCatch (wpAny_holding (wpAny_bind (CmpOf.ints_gt (prog := X.prog) (w := X.w) (A := X.A.in1) (P := fun n v => ∃ t, v = .int (if n = 0 then ws[i].2 else p.2) t)
          (fun n => if n = 0 then ws[i].2 else p.2) (fun i v h => h) 0 1 _ _ _ _ _ ⟨t2, rfl⟩ ⟨tb', rfl⟩ ?_))))
        refine wpAny_bind (wpAny_holding (wpAny_truthy_bool ?_))
        refine wpAny_bind (wpAny_letGo (wpAny_pure ?_))
        simp only [if_true, Nat.one_ne_zero, if_false]
        by_cases hgt : ws[i].2 > p.2
        · have s1 := Heap.SameBut.update s2.heap S (Obj.mapSeq fun _ => #[Value.str ws[i].1 t, .int ws[i].2 t2])
          obtain ⟨c2, hc2⟩ : ∃ c2, (s2.heap.update S (Obj.mapSeq fun _ => #[Value.str ws[i].1 t, .int ws[i].2 t2])).get? S = some (seqObj "list" #[Value.str ws[i].1 t, .int ws[i].2 t2] c2) :=
            ⟨_, get?_update_seq gS fun _ => #[Value.str ws[i].1 t, .int ws[i].2 t2]⟩
          simp only [hgt, decide_true, if_true]
          refine wpAny_bind ?_
          refine wpAny_updateSeq gS rfl (wpAny_bind (wpAny_letGo ?_))
          rw [hname]
          refine wpAny_pure ⟨plainId_quiet PySem.F.plain_max_loop _, ih (i + 1) _ [.str ws[i].1 t, .int ws[i].2 t2] c2 (by omega) hlt (Inv.other (t' := s2.toks) I3 aS fun b o nb e => (s1.2 b nb).trans e)
            ⟨oI, (s1.2 it ne).trans gI, hoc, hod⟩ hc2 ?_⟩
          rw [bn]
          show Held (if _ then _ else _) _
          rw [if_pos hgt]
          exact ⟨t, t2, rfl⟩
        · simp only [hgt, decide_false, Bool.false_eq_true, if_false]
          refine wpAny_bind (wpAny_letGo ?_)
          rw [hname]
          refine wpAny_pure ⟨plainId_quiet PySem.F.plain_max_loop _, ih (i + 1) _ [.str p.1 tb, .int p.2 tb'] c (by omega) hlt I3 ⟨oI, gI, hoc, hod⟩ gS ?_⟩
          rw [bn]
          show Held (if _ then _ else _) _
          rw [if_neg hgt]
          exact ⟨tb, tb', rfl⟩
end
end Rm

set_option maxRecDepth 100000
set_option maxHeartbeats 4000000
namespace Rm
open PySem PySem.Spec L2
open PyProof.Rows hiding St
/-- max(ws, key=rank, default=None): the first of the greatest, or None -/
def rMaxW (K : PySem.W.Frag) (q : Addr) : List V → List V → Hp → VK → Prop := fun vs zs H Q => ∃ l ws, vs = [.ref l] ∧ zs = [.ref q, .non] ∧
  SqL K H l (ws.map fun p : Str × Int => V.str p.1) ∧ (∀ p ∈ ws, rkS p.1 = some p.2) ∧ Q (bestV ws) H
theorem call_maxW {X : Cx} {q : Addr} {fd : FuncData} (F0 : FnG X.prog X.w X.K X.mg X.base CX0 1 q fd ["word"] spRank) (hb : Binds X.K fd ["word"] []) (hr : Room 2 X.A) (hG : Gd X.A)
    (hc : X.calm = true) : CallRK X (.builtin "max") ["key", "default"] (rMaxW X.K q) := by
  have hname : (toString "max" ++ toString ".loop" : String) = "max.loop" := by decide
  intro pins s σ H vs us zs ws Q I r rz h
  obtain ⟨l, ps, rfl, rfl, hl, hw, hQ⟩ := h
  rw [Vals.ref1 r]
  obtain ⟨w1, w2, rfl, r1, r2⟩ := vals2 rz
  cases r1
  cases r2
  obtain ⟨its, rv, hls, _⟩ := I.list hl
  show wpAny _ X.A (call (.builtin "max") [.ref l] [(Str.ofString "key", .ref q), (Str.ofString "default", .none)]) _ _ s
  refine kmk_tree PySem.F.kind_max PySem.F.plain_max PySem.F.entry_max (max_args _ _ _) ?_
  show wpAny _ X.A.in1 (Builtin.Builtins.bindParams "max" ["key", "default"] 0 ⟨[], [(Str.ofString "key", .ref q), (Str.ofString "default", .none)]⟩ >>= _) _ _ s
  refine wpAny_bind (wpAny_of_eq (show Builtin.Builtins.bindParams "max" ["key", "default"] 0 ⟨[], [(Str.ofString "key", .ref q), (Str.ofString "default", .none)]⟩ = pure [some (.ref q), some .none] from rfl) ?_)
  refine wpAny_bind (wpAny_pure ?_)
  refine wpAny_bind (wpAny_pyIter_list hls.isList ?_)
  refine wpAny_bind (wpAny_newList ?_ (Nat.zero_le _))
  rw [hname]
  refine wpAny_pure ⟨plainId_quiet PySem.F.plain_max_loop _, ?_⟩
  have hS : (s.heap.push { cls := .type "list_iterator", data := .fields #[.ref l, .int 0 0] }).objs.size = s.heap.objs.size + 1 := size_push' ..
  have I1 : Inv X pins σ H { s with heap := s.heap.push { cls := .type "list_iterator", data := .fields #[.ref l, .int 0 0] } } :=
    I.kept (t' := s.toks) fun b o e => Heap.get?_push_of_some _ e
  have I2 : Inv X pins σ H { s with heap := (s.heap.push { cls := .type "list_iterator", data := .fields #[.ref l, .int 0 0] }).push (seqObj "list" #[] 0) } :=
    I1.kept (t' := s.toks) fun b o e => Heap.get?_push_of_some _ e
  have gI : ((s.heap.push { cls := .type "list_iterator", data := .fields #[.ref l, .int 0 0] }).push (seqObj "list" #[] 0)).get? s.heap.objs.size =
      some { cls := .type "list_iterator", data := .fields #[.ref l, .int 0 0] } := Heap.get?_push_of_some _ (Heap.get?_push_size _ rfl)
  have gS : ((s.heap.push { cls := .type "list_iterator", data := .fields #[.ref l, .int 0 0] }).push (seqObj "list" #[] 0)).get?
      (s.heap.push { cls := .type "list_iterator", data := .fields #[.ref l, .int 0 0] }).objs.size = some (seqObj "list" #[] 0) := Heap.get?_push_size _ rfl
  refine max_loop F0 hb hr hG (I.ok.hd hc) hw hl (Apart.new I (Nat.le_refl _)) (Apart.new I (by rw [hS]; exact Nat.le_succ _)) (by rw [hS]; exact Nat.ne_of_lt (Nat.lt_succ_self _))
    (fun u s' J ru => ?_) _ 0 _ [] 0 rfl (Nat.zero_le _) I2 ⟨_, gI, rfl, rfl⟩ gS rfl
  exact ⟨bestV ps, H, J, ru, hQ⟩
end Rm

set_option maxRecDepth 100000
set_option maxHeartbeats 4000000
namespace Rm
open PySem PySem.Spec L2
open PyProof.Rows hiding St

/-! ### xs[::-1] -/
def tRevL (K : PySem.W.Frag) (te ts : TE) : TE := fun σ H Q => te σ H fun x H1 => ts σ H1 fun y H2 => y = .int (-1) ∧ ∃ a xs, x = .ref a ∧ SqL K H2 a xs ∧
  ∀ p, H2 p = none → Q (.ref p) (upd H2 p (.lst xs.reverse))
theorem pe_rev {X : Cx} {e st : Expr} {te ts : TE} {p2 pos : Pos} (he : PE X e te) (hst : PE X st ts) :
    PE X (.Subscript e (.Slice none none (some st) p2) pos) (tRevL X.K te ts) := by
  refine ⟨fun pins s σ H Q I h => ?_⟩
  refine Subscript_ (thn (he.run pins s σ H _ I h) fun v s1 hh => ?_)
  obtain ⟨x, H1, I1, r1, q1⟩ := hh
  refine wpAny_Slice ?_
  rw [evalPart_none]
  refine wpAny_pure (wpAny_pure ?_)
  rw [evalPart_some]
  refine thn (hst.run pins s1 σ H1 _ I1 q1) fun vs s3 hh => ?_
  obtain ⟨y, H3, I3, ry, ey, a, xs, ex, hl, q⟩ := hh
  subst ey
  subst ex
  cases r1
  obtain ⟨t, rfl⟩ := ry
  have I4 : Inv X pins σ H3 { s3 with heap := s3.heap.push { cls := .type "slice", data := .fields #[.none, .none, .int (-1) t] } } :=
    I3.kept (t' := s3.toks) fun b ob q => Heap.get?_push_of_some _ q
  obtain ⟨its, r, ht, hz⟩ := I4.list hl
  have hlen := r.length
  show wpAny (model X.prog X.w) X.A (subscriptTail e (.Slice none none (some st) p2) (.ref a) (.ref s3.heap.objs.size)) (EP X pins σ Q) X.xe { s3 with heap := s3.heap.push { cls := .type "slice", data := .fields #[.none, .none, .int (-1) t] } }
  refine tail_any (ops := [.ref a, .ref s3.heap.objs.size]) ht.isList.typeIs slot_list_getitem.lookup ?_ rfl
  refine wpAny_getItem_list_slice ht.isList (Heap.IsSliceOf.new ..) .none .none (.int (-1) t) (by decide) ?_ (by rw [List.size_toArray] <;> omega)
  rw [PySem.W.krv_pick]
  refine ⟨.ref _, _, I4.laid (t' := s3.toks) (o := .lst xs.reverse) (fun b ob q => Heap.get?_push_of_some _ q) (Nat.le_refl _) ?_, rfl, q _ (I4.hok.fresh (Nat.le_refl _))⟩
  exact ⟨by rw [List.length_reverse]; omega, _, 0, r.reverse, Heap.get?_push_size _ rfl⟩

/-! ### walks -/
theorem for_enum {K : PySem.W.Frag} {a : Addr} {xs : List V} {g : TG} {tb : TS} {D : Ends} {σ : L2.St} {H : Hp} (Pv : Nat → L2.St → Hp → Prop)
    (h0 : Pv 0 σ H) (hl : ∀ i σ H, i ≤ xs.length → Pv i σ H → SqL K H a xs)
    (hs : ∀ i x T σ H, xs[i]? = some x → Pv i σ H → H T = none → g (.ref T) σ (upd H T (.tup [.int (i : Nat), x])) fun σ2 H2 => tb { D with nx := Pv (i + 1), ct := Pv (i + 1), bk := D.nx } σ2 H2)
    (hd : ∀ σ H, Pv xs.length σ H → D.nx σ H) :
    ∃ W : Nat → Nat → L2.St → Hp → Prop, (∃ m, W 0 m σ H) ∧ ∀ i m σ H, W i m σ H →
      ((Ite K a).stop i H ∧ D.nx σ H) ∨ ((Ite K a).go i H ∧ ∃ N : L2.St → Hp → Prop, (∀ σ' H', N σ' H' → ∃ m', m' < m ∧ W (i + 1) m' σ' H') ∧
        ∀ x H', (Ite K a).yld i H x H' → g x σ H' fun σ2 H2 => tb { D with nx := N, ct := N, bk := D.nx } σ2 H2) := by
  refine ⟨fun i m σ H => m = xs.length - i ∧ i ≤ xs.length ∧ Pv i σ H, ⟨xs.length, by simp, Nat.zero_le _, h0⟩, ?_⟩
  rintro i m σ H ⟨rfl, hi, p⟩
  have q := hl i σ H hi p
  by_cases hlt : i < xs.length
  · refine .inr ⟨⟨xs, xs[i], q, List.getElem?_eq_getElem hlt⟩, Pv (i + 1), fun σ' H' p' => ⟨xs.length - (i + 1), by omega, rfl, hlt, p'⟩, fun v H' y => ?_⟩
    obtain ⟨T, x, rfl, nT, rfl, e⟩ := y
    exact hs i x T σ _ (e xs q) p nT
  · have e : i = xs.length := by omega
    subst e
    exact .inl ⟨⟨xs, q, Nat.le_refl _⟩, hd σ H p⟩
theorem lc_range {lo : Int} {n : Nat} {g : TG} {tt : TT} {te : TE} {vs : List Nat} {σ : L2.St} {H1 : Hp} {D : Addr} {Qd : Hp → Prop} (Pv : Nat → Hp → Prop)
    (h0 : Pv 0 (upd H1 D (.lst [])))
    (hs : ∀ i H, i < n → Pv i H → g (.int (lo + (i : Nat))) (wipe σ vs) H fun σ2 H2 => wipe σ2 vs = wipe σ vs ∧ tt σ2 H2 fun b H3 =>
      if b = true then te σ2 H3 fun y H4 => ∃ acc, H4 D = some (.lst acc) ∧ acc.length < sizeLine ∧ Pv (i + 1) (upd H4 D (.lst (acc ++ [y]))) else Pv (i + 1) H3)
    (hd : ∀ H, Pv n H → Qd H) :
    ∃ W : Nat → Nat → Hp → Prop, (∃ m, W 0 m (upd H1 D (.lst []))) ∧ ∀ i m H, W i m H →
      ((Itr lo n).stop i H ∧ Qd H) ∨ ((Itr lo n).go i H ∧ ∃ Nx : Hp → Prop, (∀ H', Nx H' → ∃ m', m' < m ∧ W (i + 1) m' H') ∧ ∀ x H', (Itr lo n).yld i H x H' →
        g x (wipe σ vs) H' fun σ2 H2 => wipe σ2 vs = wipe σ vs ∧ tt σ2 H2 fun b H3 =>
          if b = true then te σ2 H3 fun y H4 => ∃ acc, H4 D = some (.lst acc) ∧ acc.length < sizeLine ∧ Nx (upd H4 D (.lst (acc ++ [y]))) else Nx H3) := by
  refine ⟨fun i m H => m = n - i ∧ i ≤ n ∧ Pv i H, ⟨n, by simp, Nat.zero_le _, h0⟩, ?_⟩
  rintro i m H ⟨rfl, hi, p⟩
  by_cases hlt : i < n
  · refine .inr ⟨hlt, Pv (i + 1), fun H' p' => ⟨n - (i + 1), by omega, rfl, hlt, p'⟩, fun x H' y => ?_⟩
    obtain ⟨e, y⟩ := y
    subst e y
    exact hs i _ hlt p
  · have e : i = n := by omega
    subst e
    exact .inl ⟨Nat.le_refl _, hd H p⟩

/-! ### what the modes' comparing defs keep -/
/-- two modes, their ranks -/
def spTwo (C : Addr) (r : Addr → Int → Addr → Int → V) : Sp := fun vs H Q _ => ∃ a dx z i b dy z' j, vs = [.ref a, .ref b] ∧ H a = some (mdO C dx z) ∧ H b = some (mdO C dy z') ∧
  rkS z = some i ∧ rkS z' = some j ∧ Q (r a i b j) H
def spWk (C : Addr) : Sp := spTwo C fun _ i _ j => .bl (decide (i < j))
def spCl (C : Addr) : Sp := spTwo C fun _ i _ j => .bl (decide (i + j ≥ 5))
def spOr (C : Addr) : Sp := spTwo C fun a i b j => if i < j then .ref b else .ref a
def spStr (K : PySem.W.Frag) : Sp := fun vs H Q _ => ∃ l ws, vs = [.ref l] ∧ SqL K H l (ws.map fun p : Str × Int => V.str p.1) ∧ (∀ p ∈ ws, rkS p.1 = some p.2) ∧ Q (bestV ws) H
/-- the grades are right -/
def spGr (K : PySem.W.Frag) : Sp := fun vs H Q _ => ∃ g, vs = [.ref g] ∧ SqL K H g rkV ∧ ∀ H', Same H H' → Q (.bl true) H'
theorem rk_at {i : Nat} {x : V} (h : rkV[i]? = some x) : ∃ z, x = .str z ∧ rkS z = some ((i : Int) + 1) ∧ i < 4 := by
  match i, h with
  | 0, h => cases h; exact ⟨_, rfl, rfl, by decide⟩
  | 1, h => cases h; exact ⟨_, rfl, rfl, by decide⟩
  | 2, h => cases h; exact ⟨_, rfl, rfl, by decide⟩
  | 3, h => cases h; exact ⟨_, rfl, rfl, by decide⟩
  | n + 4, h => cases h
theorem sm3 (a b c : Bool) : Sm (.list [.bool a, .bool b, .bool c]) := by
  cases a <;> cases b <;> cases c <;> exact Sm.of (by decide +kernel)
theorem eqv2 (a b : Bool) : SeqAt.shaped (.list [.bool a, .bool b]) = true ∧ PyData.eqv (.list [.bool a, .bool b]) (.list [.bool a, .bool b]) = true := by
  cases a <;> cases b <;> exact ⟨by decide +kernel, by decide +kernel⟩
theorem kit_self {K : PySem.W.Frag} {C : Addr} : PySem.W.kitOne K (.ref C) (.ref C) = some true := by
  unfold PySem.W.kitOne
  rw [if_pos (by simp)]
theorem rk_ge {i : Nat} {z : Str} {H : Hp} {n : Int} (h : rkV[i]? = some (.str z)) (e : n = i) : atI rkV n = some (V.str z) := by
  subst e
  exact atI_nat h
theorem cut2 (a b c : V) : cutV [a, b, c] none (some 2) = [a, b] := by
  unfold cutV
  rfl
/-! ### modes made and joined -/
/-- the reading gives a mode of the word z, rank n -/
def MdR (C : Addr) (t : TE) (σ : L2.St) (z : Str) (n : Int) : Prop :=
  rkS z = some n ∧ ∀ (H : Hp) (Q : VK), (∀ a dx H', Same H H' → H' a = some (mdO C dx z) → Q (.ref a) H') → t σ H Q
theorem md_make {K : PySem.W.Frag} {C : Addr} {σ : L2.St} {z : Str} {n : Int} {i : Nat} (hi : σ[i]? = some (some (.str z))) (hz : rkS z = some n) :
    MdR C (tMake C (spModeQ K C) [] E0 (tCons (tVar i) tNil)) σ z n := by
  refine ⟨hz, fun H Q h => ⟨_, hi, fun x dx nx nd ne => ⟨x, dx, z, n, rfl, upd_same, hz, rfl, ?_⟩⟩⟩
  rw [upd_upd]
  exact h x dx _ (same_two nd nx ne) upd_same
theorem md_or {C : Addr} {tA tB : TE} {σ : L2.St} {z z' : Str} {n n' : Int} (A : MdR C tA σ z n) (B : MdR C tB σ z' n') :
    MdR C (tOp (rOwnOr C (spOr C)) tA tB) σ (if n < n' then z' else z) (if n < n' then n' else n) := by
  obtain ⟨hz, hA⟩ := A
  obtain ⟨hz', hB⟩ := B
  refine ⟨by split <;> assumption, fun H Q h => hA H _ fun a dx H1 s1 ha => hB H1 _ fun b dy H2 s2 hb => ?_⟩
  refine ⟨a, dx, _, b, dy, _, rfl, s2 _ _ ha, rfl, hb, a, dx, z, n, b, dy, z', n', rfl, s2 _ _ ha, hb, hz, hz', ?_⟩
  dsimp only
  by_cases e : n < n'
  · simp only [e, if_true] at h ⊢
    exact ⟨⟨b, rfl⟩, h b dy H2 (s1.trans s2) hb⟩
  · simp only [e, if_false] at h ⊢
    exact ⟨⟨a, rfl⟩, h a dx H2 (s1.trans s2) (s2 _ _ ha)⟩
theorem asg_md {C : Addr} {te : TE} {B : TS} {D : Ends} {σ : L2.St} {H : Hp} {i : Nat} {z : Str} {n : Int} (M : MdR C te σ z n)
    (h : ∀ a dx H', Same H H' → H' a = some (mdO C dx z) → B D (σ.set i (some (.ref a))) H') : tSeq (tAsg te (gName i)) B D σ H :=
  M.2 H _ fun a dx H' s e => h a dx H' s e
theorem rk_inj {z z' : Str} {n : Int} (h : rkS z = some n) (h' : rkS z' = some n) : z = z' := by
  rcases rk_word (d := .str z) h with q | q | q | q <;> rcases rk_word (d := .str z') h' with q' | q' | q' | q' <;> (cases q; cases q') <;> rfl
theorem rk_ix {z : Str} {m : Int} (h : rkS z = some (m + 1)) : atI rkV m = some (V.str z) := by
  rcases rk_word (d := .str z) h with q | q | q | q
  all_goals (obtain ⟨q1, q2⟩ := Prod.mk.inj q; cases q1)
  · have e : m = (0 : Nat) := by omega
    subst e; exact atI_nat (xs := rkV) (j := 0) rfl
  · have e : m = (1 : Nat) := by omega
    subst e; exact atI_nat (xs := rkV) (j := 1) rfl
  · have e : m = (2 : Nat) := by omega
    subst e; exact atI_nat (xs := rkV) (j := 2) rfl
  · have e : m = (3 : Nat) := by omega
    subst e; exact atI_nat (xs := rkV) (j := 3) rfl
end Rm

set_option maxRecDepth 100000
set_option maxHeartbeats 4000000
namespace Rm
open PySem PySem.Spec L2
open PyProof.Rows hiding St

/-! ### the strongest of drawn words -/
theorem fold_none : ∀ (ws : List (Str × Int)) (b : Option (Str × Int)), ws.foldl better b = none → b = none ∧ ws = []
  | [], b, h => ⟨h, rfl⟩
  | x :: r, b, h => by
    have h2 := (fold_none r (better b x) h).1
    cases b with
    | none => cases h2
    | some q =>
      simp only [better] at h2
      split at h2 <;> cases h2
theorem fold_some : ∀ (ws : List (Str × Int)) (b : Option (Str × Int)) (p : Str × Int), ws.foldl better b = some p →
    (p ∈ ws ∨ b = some p) ∧ (∀ q ∈ ws, q.2 ≤ p.2) ∧ ∀ q, b = some q → q.2 ≤ p.2
  | [], b, p, h => by
    have h : b = some p := h
    refine ⟨.inr h, fun _ z => (by cases z), fun q e => ?_⟩
    rw [e] at h
    cases h
    exact Int.le_refl _
  | x :: r, b, p, h => by
    obtain ⟨h1, h2, h3⟩ := fold_some r (better b x) p h
    cases b with
    | none =>
      have hx := h3 x rfl
      refine ⟨.inl ?_, fun q hq => ?_, fun q e => (by cases e)⟩
      · rcases h1 with h1 | h1
        · exact List.mem_cons_of_mem _ h1
        · cases h1; exact List.mem_cons_self ..
      · rcases List.mem_cons.mp hq with e | hq
        · rw [e]; exact hx
        · exact h2 q hq
    | some y =>
      simp only [better] at h1 h3
      by_cases c : x.2 > y.2
      · rw [if_pos c] at h1 h3
        have hx := h3 x rfl
        refine ⟨.inl ?_, fun q hq => ?_, fun q e => ?_⟩
        · rcases h1 with h1 | h1
          · exact List.mem_cons_of_mem _ h1
          · cases h1; exact List.mem_cons_self ..
        · rcases List.mem_cons.mp hq with e | hq
          · rw [e]; exact hx
          · exact h2 q hq
        · cases e; omega
      · rw [if_neg c] at h1 h3
        have hy := h3 y rfl
        refine ⟨?_, fun q hq => ?_, fun q e => ?_⟩
        · rcases h1 with h1 | h1
          · exact .inl (List.mem_cons_of_mem _ h1)
          · exact .inr h1
        · rcases List.mem_cons.mp hq with e | hq
          · rw [e]; omega
          · exact h2 q hq
        · cases e; exact hy
theorem best_cases (ws : List (Str × Int)) : (ws = [] ∧ bestV ws = .non) ∨ ∃ p ∈ ws, bestL ws = some p ∧ bestV ws = .str p.1 ∧ ∀ q ∈ ws, q.2 ≤ p.2 := by
  cases h : bestL ws with
  | none => exact .inl ⟨(fold_none ws none h).2, by unfold bestV; rw [h]⟩
  | some p =>
    obtain ⟨h1, h2, _⟩ := fold_some ws none p h
    rcases h1 with h1 | h1
    · exact .inr ⟨p, h1, rfl, by unfold bestV; rw [h], h2⟩
    · cases h1
theorem best_rev {ws : List (Str × Int)} (hw : ∀ p ∈ ws, rkS p.1 = some p.2) : bestV ws.reverse = bestV ws := by
  rcases best_cases ws with ⟨e, h⟩ | ⟨p, hp, _, h, hm⟩
  · subst e; rfl
  · rcases best_cases ws.reverse with ⟨e, h'⟩ | ⟨p', hp', _, h', hm'⟩
    · have := List.reverse_eq_nil_iff.mp e
      subst this
      cases hp
    · rw [h, h']
      have a := hm p' (List.mem_reverse.mp hp')
      have b := hm' p (List.mem_reverse.mpr hp)
      have r1 := hw p hp
      have r2 := hw p' (List.mem_reverse.mp hp')
      have e : p.2 = p'.2 := by omega
      rw [e] at r1
      rw [rk_inj r1 r2]
def strV (ws : List (Str × Int)) : List V := ws.map fun p => V.str p.1
theorem in_yes {ws : List (Str × Int)} {p : Str × Int} (h : p ∈ ws) : inV (.str p.1) (strV ws) = true := by
  unfold inV strV
  rw [List.any_eq_true]
  exact ⟨.str p.1, List.mem_map.mpr ⟨p, h, rfl⟩, by simp [eqV]⟩
theorem in_no {ws : List (Str × Int)} {z : Str} (h : ∀ q ∈ ws, q.1 ≠ z) : inV (.str z) (strV ws) = false := by
  unfold inV strV
  rw [List.any_eq_false]
  intro v hv
  obtain ⟨q, hq, rfl⟩ := List.mem_map.mp hv
  simp [eqV]
  exact h q hq
def dueStep (xs : List V) (d g : V) : V := if inV g xs = true then g else d
def dueOf (gs xs : List V) : V := gs.foldl (dueStep xs) .non
theorem due_next {xs : List V} {i : Nat} {x : V} (e : rkV[i]? = some x) : dueOf (rkV.take (i + 1)) xs = dueStep xs (dueOf (rkV.take i) xs) x := by
  unfold dueOf
  rw [List.take_succ, e, List.foldl_append]
  rfl
theorem due_best {ws : List (Str × Int)} (hw : ∀ p ∈ ws, rkS p.1 = some p.2) : dueOf rkV (strV ws) = bestV ws := by
  show dueStep (strV ws) (dueStep (strV ws) (dueStep (strV ws) (dueStep (strV ws) .non (.str "hold")) (.str "keep")) (.str "change")) (.str "replace") = _
  rcases best_cases ws with ⟨e, h⟩ | ⟨p, hp, _, h, hm⟩
  · subst e; rw [h]; rfl
  · rw [h]
    have hi := in_yes hp
    have no : ∀ {z : Str} {n : Int}, rkS z = some n → p.2 < n → inV (.str z) (strV ws) = false := fun {z n} hz hn => in_no fun q hq e => by
      have r := hw q hq
      rw [e, hz] at r
      have := hm q hq
      cases r
      omega
    obtain ⟨w, n⟩ := p
    rcases rk_word (d := .str w) (hw _ hp) with e | e | e | e <;> cases e
    · unfold dueStep
      rw [no (z := "replace") (n := 4) rfl (by show (1 : Int) < 4; decide), no (z := "change") (n := 3) rfl (by show (1 : Int) < 3; decide), no (z := "keep") (n := 2) rfl (by show (1 : Int) < 2; decide)]
      rw [show inV (.str "hold") (strV ws) = true from hi]
      rfl
    · unfold dueStep
      rw [no (z := "replace") (n := 4) rfl (by show (2 : Int) < 4; decide), no (z := "change") (n := 3) rfl (by show (2 : Int) < 3; decide)]
      rw [show inV (.str "keep") (strV ws) = true from hi]
      rfl
    · unfold dueStep
      rw [no (z := "replace") (n := 4) rfl (by show (3 : Int) < 4; decide)]
      rw [show inV (.str "change") (strV ws) = true from hi]
      rfl
    · unfold dueStep
      rw [show inV (.str "replace") (strV ws) = true from hi]
      rfl
def bestD (ws : List (Str × Int)) : PyData := match bestL ws with
  | none => .none
  | some p => .str p.1
theorem best_dx {K : PySem.W.Frag} {H : Hp} (ws : List (Str × Int)) : Dx K H (bestV ws) (bestD ws) := by
  unfold bestV bestD
  cases bestL ws with
  | none => exact .non
  | some p => exact .str _
theorem best_sm {ws : List (Str × Int)} (hw : ∀ p ∈ ws, rkS p.1 = some p.2) : Sm (bestD ws) := by
  rcases best_cases ws with ⟨e, h⟩ | ⟨p, hp, h, _, _⟩
  · subst e; exact Sm.of (by decide +kernel)
  · unfold bestD
    rw [h]
    rcases rk_word (d := .str p.1) (hw _ hp) with e | e | e | e <;> (obtain ⟨e1, _⟩ := Prod.mk.inj e; show Sm (.str p.1); rw [e1]; exact Sm.of (by decide +kernel))
def strD (ws : List (Str × Int)) : PyData := .list (ws.map fun p => .str p.1)
theorem str_all {K : PySem.W.Frag} {H : Hp} : ∀ ws : List (Str × Int), DpAll K H (strV ws) (ws.map fun p => .str p.1)
  | [] => .nil
  | p :: r => .cons (.str _) (str_all r)
theorem str_lay : ∀ {ws : List (Str × Int)}, (∀ p ∈ ws, rkS p.1 = some p.2) → PyData.canLayAll0 (ws.map fun p => PyData.str p.1) = true ∧ PyData.depthAll (ws.map fun p => PyData.str p.1) = 0
  | [], _ => ⟨by simp [PyData.canLayAll0], by simp [PyData.depthAll]⟩
  | p :: r, h => by
    obtain ⟨h1, h2⟩ := str_lay (ws := r) fun q hq => h q (List.mem_cons_of_mem _ hq)
    have hp : PyData.canLay0 (.str p.1) = true := by
      rcases rk_word (d := .str p.1) (h p (List.mem_cons_self ..)) with e | e | e | e <;> (obtain ⟨e1, _⟩ := Prod.mk.inj e; rw [e1]; decide +kernel)
    refine ⟨?_, ?_⟩
    · simp only [List.map_cons, PyData.canLayAll0, hp, h1, Bool.true_and]
    · simp only [List.map_cons, PyData.depthAll, PyData.depth, h2, Nat.max_self]
theorem str_shaped {ws : List (Str × Int)} (h : ∀ p ∈ ws, rkS p.1 = some p.2) : SeqAt.shaped (strD ws) = true := by
  obtain ⟨h1, h2⟩ := str_lay h
  unfold SeqAt.shaped strD
  simp only [PyData.canLay0, PyData.depth, h1, h2]
  decide
theorem pool_at {k : Int} (h0 : 0 ≤ k) (h1 : k < 4) : 1 ≤ (cutV rkV none (some (1 + k))).length ∧ (cutV rkV none (some (1 + k))).length ≤ 4 ∧
    ∀ (i : Nat) (v : V), (cutV rkV none (some (1 + k)))[i]? = some v → ∃ z n, v = V.str z ∧ rkS z = some n := by
  refine ⟨?_, Nat.le_trans (cutV_length _ _ _) (by decide), fun i v h => ?_⟩
  · have : k = 0 ∨ k = 1 ∨ k = 2 ∨ k = 3 := by omega
    rcases this with e | e | e | e <;> (subst e; decide +kernel)
  · have m := List.mem_of_getElem? h
    unfold cutV at m
    have m2 := List.mem_of_mem_drop (List.mem_of_mem_take m)
    obtain ⟨j, hj, e⟩ := List.getElem_of_mem m2
    exact rk_str (i := j) (by rw [← e]; exact List.getElem?_eq_getElem hj)
end Rm

set_option maxRecDepth 100000
set_option maxHeartbeats 4000000
namespace Rm
open PySem PySem.Spec L2
open PyProof.Rows hiding St

/-! ### an own error made by one keyword -/
section
variable {P : Program} {w : World} {A : Around} {EX : Value → Shared → Prop} {hp : Heap} {gs : Array GenState} {dr : Drawn} {tk : Nat} {os : OsState}
variable {nm qn : Str} {C NS f : Addr} {bs bm : List Value} {sn : List Str} {sub : List Value} {ab : Bool} {col : Option Bool} {dd : Option Addr}
variable {j0 j1 j2 j3 j5 : Option Value} {y : Str} {u : Value}
/-- the class's own object -/
def ErO (C : Addr) (hp : Heap) (bm : List Value) : Prop :=
  ∃ nm qn NS bs sn sub ab col dd j0 j1 j2 j3 j5,
    hp.get? C = some (excClassObj nm qn C NS bs bm true sn sub ab col dd j0 j1 j2 j3 j5 "ValueError.__new__") ∧ PySem.HandSPX.refsVE bm = true
theorem kw_check {Q : Unit → Shared → Prop} (hC : hp.get? C = some (excClassObj nm qn C NS bs bm true sn sub ab col dd j0 j1 j2 j3 j5 "ValueError.__new__"))
    (hbm : PySem.HandSPX.refsVE bm = true) (z : Q () ⟨hp, gs, dr, tk, os⟩) :
    wpAny (model P w) A (checkBuiltinCall "ValueError.__new__" ⟨[.ref C], [(y, u)]⟩) Q EX ⟨hp, gs, dr, tk, os⟩ := by
  have c1 : (Value.ref C :: bm).contains (.type "ValueError") = true := by
    rw [List.contains_cons, PySem.HandSPX.refsVE_contains "ValueError" bm hbm, F.excBase_ValueError.hasB, Bool.or_true]
  have st := F.excBase_ValueError.noStar
  simp only [checkBuiltinCall, F.excBase_ValueError.newKind, F.excBase_ValueError.newSplit, F.excBase_ValueError.newRow]
  repeat (first
    | refine wpAny_loadPart_at hC ?_
    | (refine wpAny_isSubtype_exc hC ?_; rw [c1])
    | refine wpAny_staticBase_exc hC ?_
    | refine wpAny_madeBy_exc hC ?_
    | simp only [bne_self_eq_false, Bool.false_eq_true, if_false]
    | wp_step)
  exact z
theorem kw_new {R : Result → Shared → Prop} (hC : hp.get? C = some (excClassObj nm qn C NS bs bm true sn sub ab col dd j0 j1 j2 j3 j5 "ValueError.__new__"))
    (hbm : PySem.HandSPX.refsVE bm = true)
    (z : R (.ok (.ret (.ref (hp.objs.size + 1)))) ⟨(hp.push (PySem.W.kdv_tup [])).push (PySem.HandSPX.excO C hp.objs.size), gs, dr, tk, os⟩) :
    codeAny (model P w) A (.builtin "ValueError.__new__" ⟨[.ref C], [(y, u)]⟩) R ⟨hp, gs, dr, tk, os⟩ := by
  have has : ∀ (X : String) (b : Bool), PySem.HandSPX.veTail.contains (.type X) = b → (Value.ref C :: bm).contains (.type X) = b := fun X b e => by
    rw [List.contains_cons, PySem.HandSPX.refsVE_contains X bm hbm, e]
    rfl
  have c1 := has "ValueError" true F.excBase_ValueError.hasB
  have c2 := has "AttributeError" false F.excBase_ValueError.noAttr
  have c3 := has "NameError" false F.excBase_ValueError.noName
  have en := F.excBase_ValueError.ends
  refine codeAny_builtinAt F.excBase_ValueError.entry ?_
  unfold Builtin.«BaseException.__new__»
  refine PySem.wpAt_bind ?_
  show PySem.wpAt _ _ _ (stack >>= _) _ _ _
  refine PySem.wpAt_bind (PySem.wpAt_stack fun p below => PySem.wpAt_of_wpAny ?_)
  wp_walk
  refine PySem.wpAt_of_wpAny ?_
  rw [F.excBase_ValueError.owner]
  repeat (first
    | with_reducible refine wpAny_madeHere_exc F.excBase_ValueError.canon hC ?_
    | with_reducible refine wpAny_loadPart_at hC ?_
    | (with_reducible refine wpAny_isSubtype_exc hC ?_; first | rw [c1] | rw [c2] | rw [c3])
    | wp_step)
  show R _ _
  rw [Heap.size_push]
  exact z
theorem kw_type {Q : Fin → Shared → Prop} (hC : hp.get? C = some (excClassObj nm qn C NS bs bm true sn sub ab col dd j0 j1 j2 j3 j5 "ValueError.__new__"))
    (hbm : PySem.HandSPX.refsVE bm = true)
    (hi : PySem.W.Looks (model P w) hp (typeLookup (.ref C) "__init__") (some (.ref f))) (hb : ∀ self, PySem.W.Looks (model P w) hp (bindSpecial (.ref f) self) (.ref f, [self]))
    (z : codeAny (model P w) A (.call (.ref f) ⟨[.ref (hp.objs.size + 1)], [(y, u)]⟩)
      (fun r s' => match r with
        | .ok (.ret v) => v = .none ∧ Q (.done (.ret (.ref (hp.objs.size + 1)))) s'
        | .ok _ => False
        | .error e => EX e s')
      ⟨(hp.push (PySem.W.kdv_tup [])).push (PySem.HandSPX.excO C hp.objs.size), gs, dr, tk, os⟩) :
    wpAny (model P w) A (Builtin.«type.__call__» ⟨[.ref C], [(y, u)]⟩) Q EX ⟨hp, gs, dr, tk, os⟩ := by
  repeat (first
    | with_reducible refine wpAny_loadPart_at hC ?_
    | with_reducible refine wpAny_madeBy_exc hC ?_
    | wp_step)
  refine codeAny_call_builtin_code (Code.quiet_builtin _ F.excBase_ValueError.quiet) (kw_check hC hbm ?_)
  refine kw_new hC hbm ?_
  show wpAny _ _ _ _ _ _
  have up : ∀ b o, hp.get? b = some o → ((hp.push (PySem.W.kdv_tup [])).push (PySem.HandSPX.excO C hp.objs.size)).get? b = some o :=
    fun b o e => Heap.get?_push_of_some _ (Heap.get?_push_of_some _ e)
  have hC1 := up _ _ hC
  have hE : ((hp.push (PySem.W.kdv_tup [])).push (PySem.HandSPX.excO C hp.objs.size)).get? (hp.objs.size + 1) = some (PySem.HandSPX.excO C hp.objs.size) := by
    heap_get
  have cC : (Value.ref C :: bm).contains (.ref C) = true := by simp
  unfold isInstance
  repeat (first
    | with_reducible refine wpAny_loadPart_at hE ?_
    | (with_reducible refine wpAny_isSubtype_exc hC1 ?_; rw [cC])
    | wp_step)
  show wpAny _ _ (typeLookup (.ref C) _) _ _ _
  refine (hi.keeps up).at ?_
  refine wpAny_holding (wpAny_bind (((hb (.ref (hp.objs.size + 1))).keeps up).at ?_))
  refine wpAny_bind (wpAny_call (codeAny_mono z fun r s' q => ?_))
  match r, q with
  | .error e, q => exact q
  | .ok .next, q => exact q.elim
  | .ok .brk, q => exact q.elim
  | .ok .cont, q => exact q.elim
  | .ok (.ret v), ⟨e, q⟩ =>
    subst e
    first
      | exact wpAny_pure (wpAny_pure q)
      | (wp_walk; exact q)
theorem kw_call {R : Result → Shared → Prop} (hC : hp.get? C = some (excClassObj nm qn C NS bs bm true sn sub ab col dd j0 j1 j2 j3 j5 "ValueError.__new__"))
    (hbm : PySem.HandSPX.refsVE bm = true)
    (hi : PySem.W.Looks (model P w) hp (typeLookup (.ref C) "__init__") (some (.ref f))) (hb : ∀ self, PySem.W.Looks (model P w) hp (bindSpecial (.ref f) self) (.ref f, [self]))
    (z : codeAny (model P w) (A.under (.builtin "type.__call__" ⟨[.ref C], [(y, u)]⟩)) (.call (.ref f) ⟨[.ref (hp.objs.size + 1)], [(y, u)]⟩) (PySem.W.InitBack (hp.objs.size + 1) R)
      ⟨(hp.push (PySem.W.kdv_tup [])).push (PySem.HandSPX.excO C hp.objs.size), gs, dr, tk, os⟩) :
    codeAny (model P w) A (.call (.ref C) ⟨[], [(y, u)]⟩) R ⟨hp, gs, dr, tk, os⟩ := by
  have l1 := tc_lookup
  have l2 := tc_bind (.ref C)
  have ty : (⟨hp, gs, dr, tk, os⟩ : Shared).TypeIs (.ref C) "type" := ⟨_, hC, rfl⟩
  refine codeAny_of_tree ?_
  show wpAny _ _ (callAny (.ref C) _) _ _ _
  repeat (any_goals (first
    | assumption
    | with_reducible refine wpAny_loadPart_at hC ?_
    | wp_step))
  refine ⟨rfl, ?_⟩
  refine codeAny_call_builtin_at (Code.quiet_builtin _ (by decide +kernel)) entry_typeCall (wpAny_check_type_call_sub hC (kw_type hC hbm hi hb ?_))
  refine codeAny_mono z fun r s' q => ?_
  rcases r with e | (v | _ | _ | _) <;> exact q
end
/-- the module's name x is an error class whose __init__ may be called by one keyword -/
def ErK (P : Program) (w : World) (K : PySem.W.Frag) (mg : Str → Option Value) (base : Heap) (x : Str) (C : Addr) (y : Str) : Prop :=
  ∃ f fd, mg x = some (.ref C) ∧ OexC K C ∧ PySem.W.findIn K (.ref C) "__init__" = some (some (.ref f)) ∧
    PySem.W.typeIn K (.ref f) = some (.type "function") ∧ PySem.W.keepIn K (.ref C) = true ∧
    Kw1 fd [("self" : Str), y] 1 y ∧ FnG P w K mg base CX0 2 f fd [("self" : Str), y] (spErr K C y)
section
variable {X : Cx} {C : Addr} {y : Str}
theorem bornK {x : Str} {pins : List (Addr × Obj)} {σ : L2.St} {H : Hp} {s : Shared} {v : V} {u : Value} {E : Value → Shared → Prop}
    (D : ErK X.prog X.w X.K X.mg X.base x C y) (hr : Room 3 X.A) (hG : Gd X.A) (I : Inv X pins σ H s) (r : RelV v u) :
    wpAny (model X.prog X.w) X.A (call (.ref C) [] [(y, u)]) (Born X pins σ H s C y v) E s := by
  obtain ⟨f, fd, hm, T, iC, tI, kC, hb, F0⟩ := D
  obtain ⟨nm, q, N, bs, bm, sn, sub, ab, col, dd, k0, k1, k2, k3, k5, lC, hbm⟩ := T.cls
  obtain ⟨hp, g, dr, tk, os⟩ := s
  have one : hp.objs.size ≤ hp.objs.size + 1 := Nat.le_succ _
  have hn : H (hp.objs.size + 1) = none := I.hok.fresh one
  let hp2 := (hp.push (PySem.W.kdv_tup [])).push (PySem.HandSPX.excO C hp.objs.size)
  have kk : ∀ b o, hp.get? b = some o → hp2.get? b = some o := fun b o e =>
    Heap.get?_push_of_some _ (Heap.get?_push_of_some _ e)
  have hget : hp2.get? (hp.objs.size + 1) = some (PySem.HandSPX.excO C hp.objs.size) := by
    show ((hp.push _).push _).get? _ = _
    heap_get
  have I2 := I.laid (t' := tk) (a := hp.objs.size + 1) (o := exo (hp.objs.size + 1) C none) (h' := hp2) kk one (exo_ok hget)
  have both : Vals [V.ref (hp.objs.size + 1), v] [Value.ref (hp.objs.size + 1), u] := .cons rfl (.cons r .nil)
  have hsp : spErr X.K C y [V.ref (hp.objs.size + 1), v] (upd H (hp.objs.size + 1) (exo (hp.objs.size + 1) C none))
      (fun z H2 => z = .non ∧ ∃ d, H d = none ∧ d ≠ hp.objs.size + 1 ∧
        H2 = upd (upd (upd H (hp.objs.size + 1) (exo (hp.objs.size + 1) C none)) d (exd d [(y, v)])) (hp.objs.size + 1) (exo (hp.objs.size + 1) C (some d)))
      (fun _ _ _ => False) :=
    ⟨_, v, rfl, upd_same, fun d n ne => ⟨rfl, d, by rw [upd_ne ne] at n; exact n, ne, rfl⟩⟩
  refine wpAny_call (kw_call (I.kIn _ _ lC) hbm (PySem.W.looks_findIn I.kIn iC) (fun self => PySem.W.bind_fn I.kIn self tI)
    (codeAny_mono (F0.run _ X.stack _ _ ⟨[Value.ref (hp.objs.size + 1)], [(y, u)]⟩ _ _ _ (fun _ _ _ => False)
      (hr.make C [] [(y, u)]) (hG.make C [] [(y, u)]) (I2.env0.make C [] [(y, u)]) (hb.to _ [Value.ref (hp.objs.size + 1)] u rfl) both hsp)
      fun rr s' hq => ?_))
  match rr, hq with
  | .ok (.ret z), ⟨zz, H2, os2, bare2, un2, hok2, rz, ez, d, hd, ne, eH⟩ =>
    subst ez
    subst eH
    exact ⟨rz, ⟨_, d, hp2, rfl, one, hn, hd, ne, kk, un2, hok2, os2, bare2⟩⟩
  | .error er, hq => exact False.elim hq
  | .ok .next, hq => exact False.elim hq
  | .ok .brk, hq => exact False.elim hq
  | .ok .cont, hq => exact False.elim hq
variable {x : Str} {e : Expr} {te : TE} {p pos kpos : Pos}
theorem pe_erK (D : ErK X.prog X.w X.K X.mg X.base x C y) (hr : Room 3 X.A) (hG : Gd X.A) (he : PE X e te) (hg : Gl X x := by rfl)
    (hdb : (x == ("__debug__" : Str)) = false := by decide) : PE X (.Call (.Name x p) [] [⟨some y, e, kpos⟩] pos) (tBorn C y te) := by
  have D' := D
  obtain ⟨f, fd, hm, T, iC, tI, kC, hb, F0⟩ := D'
  constructor
  intro pins s σ H Q I h
  refine wpAny_Call_Name_kw (ld_glob I hg hm ?_ hdb)
  refine PySem.W.callWith_KW0 (first := []) (h₀ := X.base) I.ok.mod.kin kC rfl (thn (kw_one he I (show te σ H _ from h)) fun us s1 hh => ?_) rfl
  obtain ⟨v, u, H1, rfl, I1, ru, v', ev, q⟩ := hh
  cases ev
  refine ⟨I1.kIn, ?_⟩
  refine thn (bornK D hr hG I1 ru) fun u2 s2 B => ?_
  obtain ⟨a, d, hp2, rfl, sz, na, nd, ne, kk, un, hok, ho, hb2⟩ := B.ex
  rw [born_eq ne] at un hok
  refine ⟨.ref a, _, ?_, rfl, q a d na nd ne⟩
  have nha : ∀ {b : Addr} {o : Obj}, s1.heap.get? b = some o → b ≠ a := fun z => Nat.ne_of_lt (Nat.lt_of_lt_of_le (Heap.lt_size z) sz)
  have upn : ∀ {b : Addr}, b ≠ a → H1 b = none → upd H1 a (exo a C none) b = none := fun hb n => by rw [upd_ne hb]; exact n
  have un0 : Un (frs X.stack) [] H1 (upd (upd H1 d (exd d [(y, v)])) a (exo a C (some d))) s1.heap s2.heap := {
    keep := fun b o z n hf hx => un.keep b o (kk b o z) (upn (nha z) n) hf hx
    slot := fun b o z n hf hx => un.slot b o (kk b o z) (upn (nha z) n) hf hx
    free := fun b o z n hx => un.free b o (kk b o z) (upn (nha z) n) hx
    there := fun b o z hx => un.there b o (kk b o z) hx
    tups := fun b xs z => un.tups b xs (by rw [upd_ne (ne_of_none z na)]; exact z)
    frzs := fun b o w z => un.frzs b o w (by rw [upd_ne (ne_of_none z na)]; exact z)
    tbls := fun b ps z => un.tbls b ps (by rw [upd_ne (ne_of_none z na)]; exact z) }
  exact I1.call' (ch := []) ho un0 hok hb2 fun b z => absurd z (by simp)
end
end Rm

set_option maxRecDepth 100000
set_option maxHeartbeats 4000000
namespace Rm
open PySem PySem.Spec L2
open PyProof.Rows hiding St

/-! ### isinstance of a tracked error, its field -/
section
variable {P : Program} {w : World} {A : Around} {E : Value → Shared → Prop} {s : Shared} {K : PySem.W.Frag} {x D : Addr} {ox od : Obj}
theorem ask_class {Q : Option Value → Shared → Prop} (T : ExcC K D) (X : K.In s.heap) (I : PySem.W.InstAt s.heap x ox D (some od))
    (q : Q (some (.ref D)) { s with toks := s.toks + 1 }) : wpAny (model P w) A (getAttr? (.ref x) "__class__") Q E s := by
  have is_cls : (PySem.W.clsIn K D).isSome = true := by
    obtain ⟨cd, z, _⟩ := PySem.W.any_some T.hd
    rw [z]
    rfl
  have found : PySem.W.findObj K D (some od) "__class__" = some (.bind (.builtin "getset_descriptor.__get__") (.builtin "object.__class__")) :=
    PySem.W.findObj_data is_cls T.ha T.hn T.ht
  obtain ⟨hp, gs, dr, tk, os⟩ := s
  have a0 := I.type (M := model P w)
  have a1 := PySem.W.looks_findIn (M := model P w) X T.hg
  have a2 := PySem.W.looks_findIn (M := model P w) X T.hk
  have a3 := PySem.W.looks_find (M := model P w) X I found
  have isB : PySem.W.Looks (model P w) hp (isInstance (.ref x) (.type "BaseException")) true := a0.andThen (PySem.W.looks_subIn X T.hs)
  have n2 : (Value.builtin "BaseException.__getattribute__" == Value.builtin "object.__getattribute__") = false := by
    decide +kernel
  have n1 : (onTheHeap (Value.ref D) && Value.builtin "BaseException.__getattribute__" == Value.builtin "object.__getattribute__") = false := by
    rw [n2]
    rfl
  have n0 : (false && onTheHeap (Value.builtin "BaseException.__getattribute__")) = false := rfl
  unfold getAttr? getAttrBy? getAttrBy
  refine wpAny_bind (wpAny_mkText (wpAny_bind (wpAny_attempt (wpAny_holding (wpAny_bind (a0.at (wpAny_bind (a1.at ?_))))))))
  show wpAny _ _ (if (onTheHeap (Value.ref D) && Value.builtin "BaseException.__getattribute__" == Value.builtin "object.__getattribute__") = true
    then _ else _) _ _ _
  rw [n1, if_neg Bool.false_ne_true]
  unfold getAttrByItsOwn hookBefore
  refine wpAny_bind ?_
  rw [if_pos (show onTheHeap (Value.ref D) = true from rfl)]
  refine a2.at ?_
  refine wpAny_bind (wpAny_attempt (wpAny_holding ?_))
  unfold callGetattribute
  rw [n0, if_neg Bool.false_ne_true]
  unfold boundAndCalled
  rw [PySem.F.excAttr_ValueError.ga.bind (.ref x)]
  refine wpAny_bind (wpAny_pure ?_)
  show wpAny _ _ (call (.builtin "BaseException.__getattribute__")
    [.ref x, .str "__class__" tk]) _ _ _
  refine wpAny_call (codeAny_call_builtin PySem.F.excAttr_ValueError.ga.plain PySem.F.entry_bexc_ga ?_)
  refine @PySem.W.check_slot (model P w) _ _ ⟨hp, gs, dr, tk + 1, os⟩
    "BaseException.__getattribute__" "BaseException" "__getattribute__" (.ref x) [.str "__class__" tk] [] _
    (by decide +kernel) (by decide +kernel) isB (PySem.F.args_bexc_ga (.ref x) (.str "__class__" tk)) ?_
  unfold Builtin.«object.__getattribute__»
  refine wpAny_bind (wpAny_of_eq (a := ((Value.ref x : Value), [Value.str "__class__" tk])) (by first | rfl | (simp only [slotArgs]; rfl)) ?_)
  refine wpAny_bind (wpAny_pure (wpAny_bind (a0.at (wpAny_bind (a3.at ?_)))))
  show wpAny _ _ (holding [Value.builtin "object.__class__"]
    (call (.builtin "getset_descriptor.__get__") [.builtin "object.__class__", .ref x, .ref D]) >>= ret) _ _ _
  refine wpAny_bind (wpAny_holding (wpAny_call (PySem.W.class_get (s := ⟨hp, gs, dr, tk + 1, os⟩) (ox := ox) (od := some od) X I T.hm ?_)))
  refine wpAny_pure ?_
  show wpAny _ _ (handedOut (.ref D)) _ _ _
  rw [PySem.W.handedOut_of (v := .ref D) rfl]
  first
    | exact wpAny_pure (wpAny_pure q)
    | exact wpAny_pure q
    | exact wpAny_pure (wpAny_bind (wpAny_pure (wpAny_pure q)))
theorem kit_err (T : ExcC K D) : PySem.W.KitX K (.ref x) (.ref D) (fun h => ∃ ox od, PySem.W.InstAt h x ox D (some od)) where
  ty := fun _ _ _ ⟨_, _, I⟩ => I.type
  it := fun _ _ X _ => by
    obtain ⟨cd, hc, _⟩ := PySem.W.any_some T.hd
    unfold PySem.W.clsIn at hc
    split at hc
    · rename_i ho
      intro A' Q' E' s' k q
      unfold isType loadHead
      exact wpAny_bind (wpAny_loadPart (k _ _ (X _ _ ho)) (wpAny_pure q))
    · cases hc
  ne := fun h tp dd its n sl X htp => by
    obtain ⟨cd, hc, _⟩ := PySem.W.any_some T.hd
    refine Bool.eq_false_iff.mpr fun q => ?_
    have e : D = tp := Value.ref.inj (beq_iff_eq.mp q)
    subst e
    unfold PySem.W.clsIn at hc
    split at hc
    · rename_i ho
      have z := (X _ _ ho).symm.trans htp
      cases z
    · cases hc
  ca := fun X ⟨_, _, I⟩ k => ask_class T X I k
end
/-- isinstance(e, c), e a tracked error with its dict -/
def rIsX (K : PySem.W.Frag) : List V → Hp → VK → Prop := fun xs H Q => ∃ (a C d : Addr) (fs : List (Str × V)) (c : V) (u : Value) (b : Bool), xs = [.ref a, c] ∧
  H a = some (exo a C (some d)) ∧ H d = some (exd d fs) ∧ ExcC K C ∧ ClsV c u ∧ PySem.W.kitOne K (.ref C) u = some b ∧ Q (.bl b) H
theorem err_at {X : Cx} {pins : List (Addr × Obj)} {σ : L2.St} {H : Hp} {s : Shared} {a C d : Addr} {fs : List (Str × V)} (I : Inv X pins σ H s)
    (ha : H a = some (exo a C (some d))) (hd : H d = some (exd d fs)) :
    ∃ ox od, PySem.W.InstAt s.heap a ox C (some od) ∧ ∀ f, RelO (fs.lookup f) ((PySem.W.lookIn f od).getD none) ∧ (PySem.W.lookIn f od).isSome = true := by
  obtain ⟨t1, hx⟩ := exo_at I.hok ha
  obtain ⟨mA, hn, hr⟩ := exd_at I.hok hd
  obtain ⟨od, ho, hl⟩ := lookIn_ns hn
  exact ⟨_, od, ⟨hx, rfl, rfl, ho⟩, fun f => by rw [hl]; exact ⟨hr f, rfl⟩⟩
theorem call_isX {X : Cx} : CallR X (.builtin "isinstance") (rIsX X.K) := by
  intro pins s σ H xs us Q I r h
  obtain ⟨a, C, d, fs, c, u, b, rfl, ha, hd, T, k, e, q⟩ := h
  obtain ⟨u1, u2, rfl, r1, r2⟩ := vals2 r
  cases r1
  have e2 := k.eq r2
  subst e2
  obtain ⟨ox, od, J, _⟩ := err_at I ha hd
  exact PySem.W.kia_one (kit_err T) I.kIn ⟨ox, od, J⟩ e (fun z => nomatch z) fun tk => ⟨.bl b, H, I.tok tk, rfl, q⟩
/-- e.n, e a tracked error -/
def tErf (C : Addr) (n : Str) (te : TE) : TE := fun σ H Q => te σ H fun x H1 => ∃ a d fs v, x = .ref a ∧ H1 a = some (exo a C (some d)) ∧ H1 d = some (exd d fs) ∧
  fs.lookup n = some v ∧ Q v H1
theorem pe_ef {X : Cx} {C : Addr} {e : Expr} {te : TE} {pos : Pos} {n : Str} (T : XfC X.K C) (hno : PySem.W.findIn X.K (.ref C) n = some none) (he : PE X e te)
    (hb : attributeBase e n X.env (eval e X.env) = eval e X.env := by rfl) : PE X (.Attribute e n pos) (tErf C n te) := by
  constructor
  intro pins s σ H Q I h
  refine attr_of hb (thn (he.run pins s σ H _ I h) fun u s1 hh => ?_)
  obtain ⟨x, H1, I1, rx, a, d, fs, v, ex, ha, hd, l, q⟩ := hh
  subst ex
  cases rx
  obtain ⟨ox, od, J, hl⟩ := err_at I1 ha hd
  obtain ⟨h1, h2⟩ := hl n
  cases eo : PySem.W.lookIn n od with
  | none => rw [eo] at h2; cases h2
  | some r =>
    rw [eo] at h1
    obtain ⟨u, hu, ru⟩ := RelO.some_of (v := v) (o := r) (by rw [← l]; exact h1)
    exact PySem.HandSPX.exc_get I1.kIn J T.ga T.gg T.exC (PySem.W.findObj_own T.hdC hno rfl (by rw [eo, hu])) (handed_of ru) ⟨v, H1, I1.tok _, ru, q⟩
/-- e.n, e a tracked error of any own class -/
def tErfG (K : PySem.W.Frag) (n : Str) (te : TE) : TE := fun σ H Q => te σ H fun x H1 => ∃ a C d fs v, x = .ref a ∧ XfC K C ∧ PySem.W.findIn K (.ref C) n = some none ∧
  H1 a = some (exo a C (some d)) ∧ H1 d = some (exd d fs) ∧ fs.lookup n = some v ∧ Q v H1
theorem pe_efG {X : Cx} {e : Expr} {te : TE} {pos : Pos} {n : Str} (he : PE X e te)
    (hb : attributeBase e n X.env (eval e X.env) = eval e X.env := by rfl) : PE X (.Attribute e n pos) (tErfG X.K n te) := by
  constructor
  intro pins s σ H Q I h
  refine attr_of hb (thn (he.run pins s σ H _ I h) fun u s1 hh => ?_)
  obtain ⟨x, H1, I1, rx, a, C, d, fs, v, ex, T, hno, ha, hd, l, q⟩ := hh
  subst ex
  cases rx
  obtain ⟨ox, od, J, hl⟩ := err_at I1 ha hd
  obtain ⟨h1, h2⟩ := hl n
  cases eo : PySem.W.lookIn n od with
  | none => rw [eo] at h2; cases h2
  | some r =>
    rw [eo] at h1
    obtain ⟨u, hu, ru⟩ := RelO.some_of (v := v) (o := r) (by rw [← l]; exact h1)
    exact PySem.HandSPX.exc_get I1.kIn J T.ga T.gg T.exC (PySem.W.findObj_own T.hdC hno rfl (by rw [eo, hu])) (handed_of ru) ⟨v, H1, I1.tok _, ru, q⟩
end Rm

set_option maxRecDepth 100000
set_option maxHeartbeats 4000000
namespace Rm
open PySem PySem.Spec L2
open PyProof.Rows hiding St

/-! ### xs.count(y), flat items -/
theorem count_flat {x : V} : ∀ {xs : List V} {us : List Value}, Vals xs us → xs.all flatV = true → us.countP (eqU x) = xs.countP fun y => eqV y x
  | _, _, .nil, _ => rfl
  | y :: xs, u :: us, .cons r t, f => by
    rw [List.all_cons, Bool.and_eq_true] at f
    rw [List.countP_cons, List.countP_cons, eqU_of r f.1, count_flat t f.2]
def rCntV (K : PySem.W.Frag) : V → List V → Hp → VK → Prop := fun x xs H Q => ∃ (p : Addr) (zs : List V) (y : V), x = .ref p ∧ xs = [y] ∧ SqL K H p zs ∧
  flatV y = true ∧ zs.all flatV = true ∧ Q (.int ((zs.countP fun z => eqV z y : Nat) : Int)) H
theorem mt_countV {X : Cx} : MtR X "list.count" (rCntV X.K) := by
  intro pins s σ H x xs v us Q I rx rxs h
  obtain ⟨p, zs, y, rfl, rfl, hs, fy, fz, q⟩ := h
  cases rx
  obtain ⟨u, rfl, ru⟩ := rxs.one
  obtain ⟨its, rv, ⟨⟨cls, dd, data, sl⟩, n, ho, hc, hdn, hd⟩, hlen⟩ := I.list hs
  simp only at hc hd
  subst hc hd
  refine call_meets PySem.F.slot_list_count ⟨_, ho, rfl⟩ PySem.F.entry_list_count (PySem.F.args_list_count_2 _ _)
    (SeqAt.list_countAt p its.toArray n dd sl u (eqU y)) ⟨ho, fun z hz => (mem_eqAt ru fy rv fz z (by simpa using hz)), ?_⟩
  refine ⟨.int ((zs.countP fun z => eqV z y : Nat) : Int), H, I.tok _, ⟨s.toks, ?_⟩, q⟩
  show Value.int ((its.toArray.toList.countP (eqU y) : Nat) : Int) s.toks = _
  rw [show its.toArray.toList = its by simp, count_flat rv fz]
/-! ### d.update(e), tracked dicts -/
def rUpd : V → List V → Hp → VK → Prop := fun x xs H Q => ∃ (p q : Addr) (kvs more : List (Key × V)), x = .ref p ∧ xs = [.ref q] ∧ H p = some (.dK kvs) ∧ H q = some (.dK more) ∧
  p ≠ q ∧ kvs.length + more.length ≤ sizeLine ∧ Q .non (upd H p (.dK (mergeK kvs more)))
theorem mt_upd {X : Cx} : MtR X "dict.update" rUpd := by
  intro pins s σ H x xs v us Q I rx rxs h
  obtain ⟨p, q, kvs, more, rfl, rfl, hp, hq, ne, hz, k⟩ := h
  cases rx
  obtain ⟨u, rfl, ru⟩ := rxs.one
  cases ru
  obtain ⟨z1, lo1, vs1, r1, d1⟩ := dk_of I.hok hp
  obtain ⟨z2, lo2, vs2, r2, d2⟩ := dk_of I.hok hq
  have mu : Mut (H p) := by rw [hp]; exact True.intro
  refine call_meetsIn PySem.F.slot_dict_update d1.typeIs PySem.F.entry_dict_update (PySem.F.args_dict_update_2 _ _)
    (meets_dict_update (mixKind X.prog X.w) p q ne lo2) ⟨vs1, vs2, d1, d2, (by rw [← r1.length, ← r2.length]; exact hz), fun h' hmm _ hs => ?_⟩
  have hl : (mergeK kvs more).length ≤ sizeLine := by
    have := length_mergeK more kvs
    omega
  obtain ⟨o', ho', _⟩ := Heap.dictOf_iff.mp hmm
  exact ⟨.non, _, I.write (x := p) (e := p) (t' := s.toks) mu (.inl rfl) (fun b o nb e => (hs.2 b nb).trans e) ⟨o', ho'⟩ (dk_new hl lo1 (r2.merge r1) hmm), rfl, k⟩
/-! ### pairs of errors -/
def ErrAt (H : Hp) (a C : Addr) (y : Str) (x : V) : Prop := ∃ d, H a = some (exo a C (some d)) ∧ H d = some (exd d [(y, x)])
def PairOk (H : Hp) (C : Addr) (y : Str) (x : V) (t : Addr) : Prop := ∃ a b, H t = some (.tup [.ref a, .ref b]) ∧ ErrAt H a C y x ∧ ErrAt H b C y x
theorem ErrAt.up {H H' : Hp} {a C : Addr} {y : Str} {x : V} (s : Same H H') (h : ErrAt H a C y x) : ErrAt H' a C y x :=
  let ⟨d, h1, h2⟩ := h
  ⟨d, s _ _ h1, s _ _ h2⟩
theorem PairOk.up {H H' : Hp} {t C : Addr} {y : Str} {x : V} (s : Same H H') (h : PairOk H C y x t) : PairOk H' C y x t :=
  let ⟨a, b, h1, h2, h3⟩ := h
  ⟨a, b, s _ _ h1, h2.up s, h3.up s⟩
theorem err_new {H : Hp} {a d C : Addr} {y : Str} {x : V} (na : H a = none) (nd : H d = none) (ne : d ≠ a) :
    Same H (upd (upd H d (exd d [(y, x)])) a (exo a C (some d))) ∧ ErrAt (upd (upd H d (exd d [(y, x)])) a (exo a C (some d))) a C y x :=
  ⟨same_two nd na ne, d, upd_same, by rw [upd_ne ne]; exact upd_same⟩
theorem tup_pair {C : Addr} {y : Str} {σ : L2.St} {i : Nat} {x : V} {H : Hp} {Q : VK} (hi : σ[i]? = some (some x))
    (h : ∀ t H1, Same H H1 → PairOk H1 C y x t → Q (.ref t) H1) :
    tTup (tCons (tBorn C y (tVar i)) (tCons (tBorn C y (tVar i)) tNil)) σ H Q := by
  refine ⟨x, hi, x, rfl, fun a d na nd ne => ⟨x, hi, x, rfl, fun b e nb nd2 ne2 => ⟨(show 2 ≤ sizeLine by decide), fun t nt => ?_⟩⟩⟩
  obtain ⟨s1, e1⟩ := err_new (C := C) (y := y) (x := x) na nd ne
  obtain ⟨s2, e2⟩ := err_new (C := C) (y := y) (x := x) nb nd2 ne2
  have s3 := same_new (o := .tup [.ref a, .ref b]) nt
  exact h t _ ((s1.trans s2).trans s3) ⟨a, b, upd_same, (e1.up s2).up s3, e2.up s3⟩
theorem cons_pair {C : Addr} {y : Str} {σ : L2.St} {i : Nat} {x : V} {H : Hp} {tr : TA} {Q : List V → Hp → Prop} (hi : σ[i]? = some (some x))
    (h : ∀ t H1, Same H H1 → PairOk H1 C y x t → tr σ H1 fun xs H2 => Q (.ref t :: xs) H2) :
    tCons (tTup (tCons (tBorn C y (tVar i)) (tCons (tBorn C y (tVar i)) tNil))) tr σ H Q := tup_pair hi h
/-- rows of pairs, one for each class -/
def Prs (H : Hp) (x : V) : List (Addr × Str) → List V → Prop
  | [], [] => True
  | c :: cs, v :: vs => (∃ t, v = .ref t ∧ PairOk H c.1 c.2 x t) ∧ Prs H x cs vs
  | _, _ => False
theorem Prs.up {H H' : Hp} {x : V} (s : Same H H') : ∀ {cs : List (Addr × Str)} {vs : List V}, Prs H x cs vs → Prs H' x cs vs
  | [], [], _ => True.intro
  | _ :: _, _ :: _, ⟨⟨t, e, p⟩, r⟩ => ⟨⟨t, e, p.up s⟩, r.up s⟩
  | [], _ :: _, h => h.elim
  | _ :: _, [], h => h.elim
theorem Prs.app {H : Hp} {x : V} : ∀ {cs ds : List (Addr × Str)} {vs us : List V}, Prs H x cs vs → Prs H x ds us → Prs H x (cs ++ ds) (vs ++ us)
  | [], _, [], _, _, h => h
  | _ :: _, _, _ :: _, _, ⟨p, r⟩, h => ⟨p, r.app h⟩
  | [], _, _ :: _, _, h, _ => h.elim
  | _ :: _, _, [], _, h, _ => h.elim
theorem Prs.len {H : Hp} {x : V} : ∀ {cs : List (Addr × Str)} {vs : List V}, Prs H x cs vs → vs.length = cs.length
  | [], [], _ => rfl
  | _ :: _, _ :: _, ⟨_, r⟩ => congrArg Nat.succ r.len
  | [], _ :: _, h => h.elim
  | _ :: _, [], h => h.elim
theorem Prs.get {H : Hp} {x : V} : ∀ {cs : List (Addr × Str)} {vs : List V} {i : Nat} {v : V}, Prs H x cs vs → vs[i]? = some v →
    ∃ c t, cs[i]? = some c ∧ v = .ref t ∧ PairOk H c.1 c.2 x t
  | _ :: _, _ :: _, 0, _, ⟨⟨t, e, p⟩, _⟩, h => by
    simp at h; subst h; exact ⟨_, t, rfl, e, p⟩
  | _ :: _, _ :: _, i + 1, _, ⟨_, r⟩, h => by
    simp at h
    simpa using r.get h
  | [], [], _, _, _, h => by simp at h
  | [], _ :: _, _, _, h, _ => h.elim
  | _ :: _, [], _, _, h, _ => h.elim
/-- a row of the law: two errors and what they keep -/
def RowOk (H : Hp) (C : Addr) (y : Str) (x : V) (t : Addr) : Prop := ∃ a b, H t = some (.tup [.ref a, .ref b, x, x]) ∧ ErrAt H a C y x ∧ ErrAt H b C y x
def Rws (H : Hp) (x : V) (cs : List (Addr × Str)) (vs : List V) : Prop := vs.length = cs.length ∧
  ∀ (i : Nat) (c : Addr × Str), cs[i]? = some c → ∃ t, vs[i]? = some (.ref t) ∧ RowOk H c.1 c.2 x t
theorem RowOk.up {H H' : Hp} {t C : Addr} {y : Str} {x : V} (s : Same H H') (h : RowOk H C y x t) : RowOk H' C y x t :=
  let ⟨a, b, h1, h2, h3⟩ := h
  ⟨a, b, s _ _ h1, h2.up s, h3.up s⟩
def spRows (cs : List (Addr × Str)) : Sp := fun vs H Q _ => ∃ x, vs = [x] ∧ ∀ p H' rows, Same H H' → H' p = some (.lst rows) → Rws H' x cs rows → Q (.ref p) H'
theorem ErrAt.upd {H : Hp} {p a C : Addr} {y : Str} {x : V} {xs : List V} {o : HO} (hp : H p = some (.lst xs)) (h : ErrAt H a C y x) : ErrAt (upd H p o) a C y x := by
  obtain ⟨d, h1, h2⟩ := h
  have n1 : a ≠ p := fun e => by
    rw [e, hp] at h1
    have h1' : HO.lst xs = HO.ext _ := Option.some.inj h1
    cases h1'
  have n2 : d ≠ p := fun e => by
    rw [e, hp] at h2
    have h2' : HO.lst xs = HO.ext _ := Option.some.inj h2
    cases h2'
  exact ⟨d, by rw [upd_ne n1]; exact h1, by rw [upd_ne n2]; exact h2⟩
theorem PairOk.upd {H : Hp} {p t C : Addr} {y : Str} {x : V} {xs : List V} {o : HO} (hp : H p = some (.lst xs)) (h : PairOk H C y x t) : PairOk (upd H p o) C y x t := by
  obtain ⟨a, b, h1, h2, h3⟩ := h
  have n1 : t ≠ p := fun e => by
    rw [e, hp] at h1
    cases h1
  exact ⟨a, b, by rw [upd_ne n1]; exact h1, h2.upd hp, h3.upd hp⟩
theorem Prs.upd {H : Hp} {p : Addr} {x : V} {xs : List V} {o : HO} (hp : H p = some (.lst xs)) : ∀ {cs : List (Addr × Str)} {vs : List V}, Prs H x cs vs → Prs (upd H p o) x cs vs
  | [], [], _ => True.intro
  | _ :: _, _ :: _, ⟨⟨t, e, q⟩, r⟩ => ⟨⟨t, e, q.upd hp⟩, r.upd hp⟩
  | [], _ :: _, h => h.elim
  | _ :: _, [], h => h.elim
end Rm

set_option maxRecDepth 100000
set_option maxHeartbeats 4000000
namespace Rm
open PySem PySem.Spec L2
open PyProof.Rows hiding St

/-! ### rows of errors, one after the other -/
/-- rows, one for each class -/
def Rwl (H : Hp) (x : V) : List (Addr × Str) → List V → Prop
  | [], [] => True
  | c :: cs, v :: vs => (∃ t, v = .ref t ∧ RowOk H c.1 c.2 x t) ∧ Rwl H x cs vs
  | _, _ => False
theorem Rwl.up {H H' : Hp} {x : V} (s : Same H H') : ∀ {cs : List (Addr × Str)} {vs : List V}, Rwl H x cs vs → Rwl H' x cs vs
  | [], [], _ => True.intro
  | _ :: _, _ :: _, ⟨⟨t, e, p⟩, r⟩ => ⟨⟨t, e, p.up s⟩, r.up s⟩
  | [], _ :: _, h => h.elim
  | _ :: _, [], h => h.elim
theorem Rwl.app {H : Hp} {x : V} : ∀ {cs ds : List (Addr × Str)} {vs us : List V}, Rwl H x cs vs → Rwl H x ds us → Rwl H x (cs ++ ds) (vs ++ us)
  | [], _, [], _, _, h => h
  | _ :: _, _, _ :: _, _, ⟨p, r⟩, h => ⟨p, r.app h⟩
  | [], _, _ :: _, _, h, _ => h.elim
  | _ :: _, _, [], _, h, _ => h.elim
theorem Rwl.len {H : Hp} {x : V} : ∀ {cs : List (Addr × Str)} {vs : List V}, Rwl H x cs vs → vs.length = cs.length
  | [], [], _ => rfl
  | _ :: _, _ :: _, ⟨_, r⟩ => congrArg Nat.succ r.len
  | [], _ :: _, h => h.elim
  | _ :: _, [], h => h.elim
theorem Rwl.get {H : Hp} {x : V} : ∀ {cs : List (Addr × Str)} {vs : List V} {i : Nat} {v : V}, Rwl H x cs vs → vs[i]? = some v →
    ∃ c t, cs[i]? = some c ∧ v = .ref t ∧ RowOk H c.1 c.2 x t
  | _ :: _, _ :: _, 0, _, ⟨⟨t, e, p⟩, _⟩, h => by
    simp at h; subst h; exact ⟨_, t, rfl, e, p⟩
  | _ :: _, _ :: _, i + 1, _, ⟨_, r⟩, h => by
    simp at h
    simpa using r.get h
  | [], [], _, _, _, h => by simp at h
  | [], _ :: _, _, _, h, _ => h.elim
  | _ :: _, [], _, _, h, _ => h.elim
theorem Rwl.of {H : Hp} {x : V} : ∀ {cs : List (Addr × Str)} {vs : List V}, Rws H x cs vs → Rwl H x cs vs
  | [], [], _ => True.intro
  | [], _ :: _, h => by cases h.1
  | _ :: _, [], h => by cases h.1
  | c :: cs, v :: vs, h => by
    obtain ⟨t, e, p⟩ := h.2 0 c rfl
    simp at e
    refine ⟨⟨t, e, p⟩, Rwl.of ⟨by simpa using h.1, fun i c' hc => ?_⟩⟩
    obtain ⟨t', e', p'⟩ := h.2 (i + 1) c' (by simpa using hc)
    exact ⟨t', by simpa using e', p'⟩
theorem Rwl.ws {H : Hp} {x : V} : ∀ {cs : List (Addr × Str)} {vs : List V}, Rwl H x cs vs → Rws H x cs vs
  | [], [], _ => ⟨rfl, fun i c h => by simp at h⟩
  | [], _ :: _, h => h.elim
  | _ :: _, [], h => h.elim
  | c :: cs, v :: vs, ⟨⟨t, e, p⟩, r⟩ => by
    have q := r.ws
    refine ⟨by simpa using q.1, fun i c' hc => ?_⟩
    cases i with
    | zero => simp at hc; subst hc; exact ⟨t, by simpa using e, p⟩
    | succ i =>
      obtain ⟨t', e', p'⟩ := q.2 i c' (by simpa using hc)
      exact ⟨t', by simpa using e', p'⟩
/-- neither a tuple nor an error -/
def SoftO (u : HO) : Prop := (∀ xs, u ≠ HO.tup xs) ∧ (∀ f, u ≠ HO.ext f)
theorem soft_lst {xs : List V} : SoftO (HO.lst xs) := ⟨fun _ e => (by cases e), fun _ e => (by cases e)⟩
theorem soft_dK {xs : List (Key × V)} : SoftO (HO.dK xs) := ⟨fun _ e => (by cases e), fun _ e => (by cases e)⟩
theorem ErrAt.updS {H : Hp} {p a C : Addr} {y : Str} {x : V} {u o : HO} (hp : H p = some u) (su : SoftO u) (h : ErrAt H a C y x) : ErrAt (L2.upd H p o) a C y x := by
  obtain ⟨d, h1, h2⟩ := h
  have n1 : a ≠ p := fun e => by
    rw [e, hp] at h1
    exact su.2 _ (Option.some.inj h1)
  have n2 : d ≠ p := fun e => by
    rw [e, hp] at h2
    exact su.2 _ (Option.some.inj h2)
  exact ⟨d, by rw [upd_ne n1]; exact h1, by rw [upd_ne n2]; exact h2⟩
theorem RowOk.updS {H : Hp} {p t C : Addr} {y : Str} {x : V} {u o : HO} (hp : H p = some u) (su : SoftO u) (h : RowOk H C y x t) : RowOk (L2.upd H p o) C y x t := by
  obtain ⟨a, b, h1, h2, h3⟩ := h
  have n1 : t ≠ p := fun e => by
    rw [e, hp] at h1
    exact su.1 _ (Option.some.inj h1)
  exact ⟨a, b, by rw [upd_ne n1]; exact h1, h2.updS hp su, h3.updS hp su⟩
theorem Rwl.updS {H : Hp} {p : Addr} {x : V} {u o : HO} (hp : H p = some u) (su : SoftO u) : ∀ {cs : List (Addr × Str)} {vs : List V}, Rwl H x cs vs → Rwl (L2.upd H p o) x cs vs
  | [], [], _ => True.intro
  | _ :: _, _ :: _, ⟨⟨t, e, q⟩, r⟩ => ⟨⟨t, e, q.updS hp su⟩, r.updS hp su⟩
  | [], _ :: _, h => h.elim
  | _ :: _, [], h => h.elim

section
variable {K : PySem.W.Frag} {C : Addr} {y : Str} {σ : L2.St} {i j : Nat} {x : V} {H : Hp}
/-- two errors, each a name's -/
theorem par_pair {k : Nat} {D : Ends} (hk : σ[k]? = some (some x))
    (h : ∀ a b H1, Same H H1 → ErrAt H1 a C y x → ErrAt H1 b C y x → D.nx ((σ.set i (some (.ref a))).set j (some (.ref b))) H1) :
    tPar i j (tCons (tBorn C y (tVar k)) (tCons (tBorn C y (tVar k)) tNil)) D σ H := by
  refine ⟨x, hk, x, rfl, fun a d na nd ne => ⟨x, hk, x, rfl, fun b e nb nd2 ne2 => ⟨_, _, rfl, ?_⟩⟩⟩
  obtain ⟨s1, e1⟩ := err_new (C := C) (y := y) (x := x) na nd ne
  obtain ⟨s2, e2⟩ := err_new (C := C) (y := y) (x := x) nb nd2 ne2
  exact h a b _ (s1.trans s2) (e1.up s2) e2
/-- the row of two errors -/
theorem row4 {a b : Addr} {Q : VK} (hX : XfC K C) (hno : PySem.W.findIn K (.ref C) y = some none) (hi : σ[i]? = some (some (.ref a))) (hj : σ[j]? = some (some (.ref b)))
    (ea : ErrAt H a C y x) (eb : ErrAt H b C y x) (h : ∀ t H1, Same H H1 → RowOk H1 C y x t → Q (.ref t) H1) :
    tTup (tCons (tVar i) (tCons (tVar j) (tCons (tErfG K y (tVar i)) (tCons (tErfG K y (tVar j)) tNil)))) σ H Q := by
  have ea' := ea
  have eb' := eb
  obtain ⟨da, ha, hda⟩ := ea'
  obtain ⟨db, hb, hdb⟩ := eb'
  refine ⟨_, hi, _, hj, _, hi, a, C, da, _, x, rfl, hX, hno, ha, hda, by simp, _, hj, b, C, db, _, x, rfl, hX, hno, hb, hdb, by simp, (show 4 ≤ sizeLine by decide), fun r nr => ?_⟩
  have z := same_new (o := .tup [.ref a, .ref b, x, x]) nr
  exact h r _ z ⟨a, b, upd_same, ea.up z, eb.up z⟩
theorem cons_row4 {a b : Addr} {tr : TA} {Q : List V → Hp → Prop} (hX : XfC K C) (hno : PySem.W.findIn K (.ref C) y = some none) (hi : σ[i]? = some (some (.ref a))) (hj : σ[j]? = some (some (.ref b)))
    (ea : ErrAt H a C y x) (eb : ErrAt H b C y x) (h : ∀ t H1, Same H H1 → RowOk H1 C y x t → tr σ H1 fun xs H2 => Q (.ref t :: xs) H2) :
    tCons (tTup (tCons (tVar i) (tCons (tVar j) (tCons (tErfG K y (tVar i)) (tCons (tErfG K y (tVar j)) tNil))))) tr σ H Q := row4 hX hno hi hj ea eb h
end
end Rm

set_option maxRecDepth 100000
set_option maxHeartbeats 4000000
namespace Rm
open PySem PySem.Spec L2
open PyProof.Rows hiding St
open SeqAt MeetsSeq

/-! ### a text beside anything -/
theorem str_off_dict (b : Str) (u : Tok) (l : Addr) (c : Value) (es : Array DictEntry) (n : Nat) (dd : Option Addr) (sl : Array (Option Value)) :
    Meets (Builtin.«str.__eq__» ⟨[.str b u, .ref l], []⟩) (fun _ R s => s.heap.get? l = some { cls := c, dict := dd, data := .dict es n, slots := sl } ∧ R (.ok (.ret .notImplemented)) s) :=
  .of_wp fun prog w A R s h => by obtain ⟨hp, g, d, tk, os⟩ := s; obtain ⟨hl, h⟩ := h; wp_walk using AutoSeq1.wpAny_loadPart' hl, wpAny_load hl; exact ⟨_, rfl, h⟩
theorem dict_off_str (l : Addr) (es : Array DictEntry) (n : Nat) (dd : Option Addr) (sl : Array (Option Value)) (b : Str) (u : Tok) :
    Meets (Builtin.«dict.__eq__» ⟨[.ref l, .str b u], []⟩) (fun _ R s => s.heap.get? l = some { cls := .type "dict", dict := dd, data := .dict es n, slots := sl } ∧ R (.ok (.ret .notImplemented)) s) :=
  .of_wp fun prog w A R s h => by obtain ⟨hp, g, d, tk, os⟩ := s; obtain ⟨hl, h⟩ := h; have f1 := F.sub_str_dict; wp_walk using AutoSeq1.wpAny_loadPart' hl; exact ⟨_, rfl, h⟩
section
variable {A : Around} {s : Shared}
theorem rc_str_dict {l : Addr} {o : Obj} {es : Array DictEntry} {n : Nat} (b : Str) (u : Tok) (ho : s.heap.get? l = some o) (hc : o.cls = .type "dict") (hd : o.data = .dict es n) (hu : A.units < cLine) :
    RcAt A s (.str b u) (.ref l) false := fun prog w E Q h => by
  obtain ⟨cls, dd, data, sl⟩ := o
  simp only at hc hd
  subst hc hd
  exact rc_eq_decline_or (k := false) (typeIs_str s b u) ⟨_, ho, rfl⟩ (by decide) F.sub_dict_str F.slot_str_eq F.slot_dict_eq_refl
    (fun _ hq => call_meets F.slot_str_eq (typeIs_str s b u) F.entry_str_eq (F.args_str_eq_2 _ _) (str_off_dict b u l (.type "dict") es n dd sl) ⟨ho, hq⟩)
    (fun _ hq => call_meets F.slot_dict_eq_refl ⟨_, ho, rfl⟩ F.entry_dict_eq (F.args_dict_eq_2 _ _) (dict_off_str l es n dd sl b u) ⟨ho, hq⟩)
    (fun _ hq => wpAny_of_eq (rfl : isSame (.str b u) (.ref l) = pure false) hq) (.inr hu) h
theorem rc_dict_str {l : Addr} {o : Obj} {es : Array DictEntry} {n : Nat} (b : Str) (u : Tok) (ho : s.heap.get? l = some o) (hc : o.cls = .type "dict") (hd : o.data = .dict es n) (hu : A.units < cLine) :
    RcAt A s (.ref l) (.str b u) false := fun prog w E Q h => by
  obtain ⟨cls, dd, data, sl⟩ := o
  simp only at hc hd
  subst hc hd
  exact rc_eq_decline_or (k := false) ⟨_, ho, rfl⟩ (typeIs_str s b u) (by decide) F.sub_str_dict F.slot_dict_eq F.slot_str_eq_refl
    (fun _ hq => call_meets F.slot_dict_eq ⟨_, ho, rfl⟩ F.entry_dict_eq (F.args_dict_eq_2 _ _) (dict_off_str l es n dd sl b u) ⟨ho, hq⟩)
    (fun _ hq => call_meets F.slot_str_eq_refl (typeIs_str s b u) F.entry_str_eq (F.args_str_eq_2 _ _) (str_off_dict b u l (.type "dict") es n dd sl) ⟨ho, hq⟩)
    (fun _ hq => wpAny_of_eq (rfl : isSame (.ref l) (.str b u) = pure false) hq) (.inr hu) h
theorem eqAt_str_dict {l : Addr} {o : Obj} {es : Array DictEntry} {n : Nat} (b : Str) (u : Tok) (ho : s.heap.get? l = some o) (hc : o.cls = .type "dict") (hd : o.data = .dict es n) (hu : A.units < cLine) :
    EqAt A s (.str b u) (.ref l) false := fun prog w E Q h => by
  unfold eqBool
  refine wpAny_holding ?_
  refine wpAny_ite_split (fun hab => absurd (eq_of_beq hab) nofun) (fun _ => ?_)
  exact wpAny_bind (rc_str_dict b u ho hc hd hu prog w E _ (wpAny_truthy_bool h))
/-- a text and what is read: equal just if it is this text -/
def isT (z : Str) : PyData → Bool
  | .str y => decide (y = z)
  | _ => false
theorem eqAt_strD {d : PyData} {as : List Addr} {v : Value} (z : Str) (t : Tok) (r : Reads s.heap v d as) (hu : A.units < cLine) : EqAt A s (.str z t) v (isT z d) := by
  cases r with
  | none => exact EqAt.str_none z t
  | bool y => exact EqAt.str_bool z t y
  | int y u => exact EqAt.str_int z t y u
  | str y u =>
    have e := EqAt.str_str (A := A) (s := s) z t y u
    have q : isT z (.str y) = (z == y) := by
      unfold isT
      rw [Bool.eq_iff_iff]
      simp
      exact eq_comm
    rw [q]
    exact e
  | list k1 k2 k3 k4 => exact EqAt.str_list z t ⟨_, k1, k2, _, k3⟩ hu
  | tuple k1 k2 k3 k4 => exact EqAt.str_tuple z t ⟨_, k1, k2, _, k3⟩ hu
  | dict k1 k2 k3 k4 k5 => exact eqAt_str_dict z t k1 k2 k3 hu
end
end Rm

set_option maxRecDepth 100000
set_option maxHeartbeats 4000000
namespace Rm
open PySem PySem.Spec L2
open PyProof.Rows hiding St

/-! ### all that is asked of an own error class: x names the class at C below the one at M, whose __init__ stores y -/
structure EF (P : Program) (w : World) (K : PySem.W.Frag) (mg : Str → Option Value) (C M : Addr) (x y : Str) : Prop where
  g : mg x = some (.ref C)
  er : ∀ base, Er P w K mg base x C y
  erk : ∀ base, ErK P w K mg base x C y
  xf : XfC K C
  no : PySem.W.findIn K (.ref C) y = some none
  ex : ExcC K C
  cl : ∃ nm q N bs tl sn sub ab col dd k0 k1 k2 k3 k5, K.lookup C = some (excClassObj nm q C N bs (.ref M :: tl) true sn sub ab col dd k0 k1 k2 k3 k5 "ValueError.__new__") ∧ allTy tl = true
  ty : PySem.W.typeIn K (.ref C) = some (.type "type")
  em : PySem.W.exmOne K (.ref C) (.ref C) = some true
  ve : PySem.W.subIn K (.ref C) (.type "ValueError") = some true
theorem EF.mro {P : Program} {w : World} {K : PySem.W.Frag} {mg : Str → Option Value} {C M D : Addr} {x y : Str} (e : EF P w K mg C M x y) :
    PySem.W.subIn K (.ref C) (.ref D) = some (decide (D = C) || decide (D = M)) := by
  obtain ⟨nm, q, N, bs, tl, sn, sub, ab, col, dd, k0, k1, k2, k3, k5, l, a⟩ := e.cl
  show PySem.W.mroIn K C (.ref D) = _
  have h : PySem.W.clsIn K C = some { name := nm, bases := bs, mro := .ref C :: .ref M :: tl, ns := N, qualname := q, hasDict := true, slotNames := sn, subclasses := sub, abstract := ab, collection := col, hasDel := false } := by
    unfold PySem.W.clsIn
    rw [l]
  unfold PySem.W.mroIn
  rw [h]
  simp only [Option.bind_some, List.isEmpty_cons, Bool.false_eq_true, if_false, List.contains_cons, allTy_no a, Bool.or_false]
  congr 1
  have b : ∀ a b : Addr, ((Value.ref a) == Value.ref b) = decide (a = b) := fun a b => by
    by_cases e : a = b
    · subst e; simp
    · rw [decide_eq_false e]
      exact Bool.eq_false_iff.mpr fun q => e (Value.ref.inj (beq_iff_eq.mp q))
  rw [b, b]
theorem EF.kit {P : Program} {w : World} {K : PySem.W.Frag} {mg : Str → Option Value} {C M D M' : Addr} {x y x' y' : Str} (e : EF P w K mg C M x y) (e' : EF P w K mg D M' x' y') (hM : D ≠ M) :
    PySem.W.kitOne K (.ref C) (.ref D) = some (decide (D = C)) := by
  have q : ∀ a b : Addr, ((Value.ref a) == Value.ref b) = decide (a = b) := fun a b => by
    by_cases e : a = b
    · subst e; simp
    · rw [decide_eq_false e]
      exact Bool.eq_false_iff.mpr fun q => e (Value.ref.inj (beq_iff_eq.mp q))
  unfold PySem.W.kitOne
  rw [q]
  by_cases h : C = D
  · subst h
    simp
  · rw [decide_eq_false h, if_neg (by simp)]
    obtain ⟨nm, q', N, bs, tl, sn, sub, ab, col, dd, k0, k1, k2, k3, k5, l, a⟩ := e'.cl
    unfold PySem.W.kitCls
    dsimp only
    have h1 : (PySem.W.clsIn K D).isSome = true := by
      unfold PySem.W.clsIn
      rw [l]
      rfl
    have h2 : PySem.W.typeIn K (.ref D) = some (.type "type") := e'.ty
    rw [if_pos (by rw [h1, h2]; simp), e.mro, decide_eq_false hM, Bool.or_false]
theorem ef_mk {P : Program} {w : World} {K : PySem.W.Frag} {h : Heap} {mg : Str → Option Value} {C M : Addr} {x y qual : Str} {st : Stmt} (X : K.In h) (G : h.Ns mainGlobals mg)
    {nm q : Str} {N : Addr} {bs tl : List Value} {sn : List Str} {sub : List Value} {ab : Bool} {col : Option Bool} {dd : Option Addr} {m0 m1 m2 m3 m5 : Option Value}
    (e_g : PySem.W.nsIn K mainGlobals x = some (some (.ref C)))
    (e_l : K.lookup C = some (excClassObj nm q C N bs (.ref M :: tl) true sn sub ab col dd m0 m1 m2 m3 m5 "ValueError.__new__")) (e_v : PySem.HandSPX.refsVE (.ref M :: tl) = true) (e_t : allTy tl = true)
    (e_sa : PySem.W.findIn K (.ref C) "__setattr__" = some (some (.builtin "object.__setattr__")))
    (e_ga : PySem.W.findIn K (.ref C) "__getattribute__" = some (some (.builtin "BaseException.__getattribute__"))) (e_gg : PySem.W.findIn K (.ref C) "__getattr__" = some none)
    (e_ex : PySem.W.subIn K (.ref C) (.type "BaseException") = some true) (e_ty : PySem.W.typeIn K (.ref C) = some (.type "type")) (e_k : PySem.W.keepIn K (.ref C) = true)
    (e_hd : PySem.W.hasDictIn K C = true) (e_no : PySem.W.findIn K (.ref C) y = some none) (e_sub : PySem.W.subIn K (.ref C) (.type "ValueError") = some true)
    (e_self : PySem.W.mroIn K C (.ref C) = some true)
    (e_sup : PySem.W.ks_superIn K C C "__init__" = some (some (.builtin "ValueError.__init__"))) (e_any : PySem.W.nsIn K cStatics "thirdparty.any" = some none)
    (e_ha : PySem.W.findIn K (.ref C) "__class__" = some (some (.builtin "object.__class__")))
    (e_hn : PySem.W.specialIn K (.builtin "object.__class__") "__get__" = some (some (.builtin "getset_descriptor.__get__"))) (e_ht : PySem.W.takesIn K (.builtin "object.__class__") = some true)
    (e_hm : PySem.W.mroIn K C (.type "object") = some true)
    {ef cda cc : Addr} {oc dV kV doc pm ct ccl cl : Value} {od an cdd cld : Option Addr} {osl ccs csl : Array (Option Value)} {vs : Array Value} {file : Str} {tf : Tok}
    (e_i : PySem.W.findIn K (.ref C) "__init__" = some (some (.ref ef))) (e_it : PySem.W.typeIn K (.ref ef) = some (.type "function"))
    (e_f : K.lookup ef = some ⟨oc, od, .func (PySem.W.ksFn "__init__" qual (defArgs st) (defBody st) (defScope st) dV kV doc pm an (.ref cda) ct cc), osl⟩)
    (e_c : PySem.W.codeIn K (.ref cda) qual = true) (e_cd : K.lookup cda = some ⟨ccl, cdd, .fields vs, ccs⟩) (e_fi : vs[2]? = some (.str file tf)) (e_pf : ((P.main.file : Str) == file) = true)
    (e_cc : K.lookup cc = some ⟨cl, cld, .cell (some (.ref C)), csl⟩) (e_df : dV = .none)
    (htop : (P.main.scope.names.lookup ("super" : Str)).isSome = false) (n_super : PySem.W.nsIn K mainGlobals "super" = some none)
    (hb1 : ∀ us : List Value, us.length = 2 → Binds K (PySem.W.ksFn "__init__" qual (defArgs st) (defBody st) (defScope st) .none kV doc pm an (.ref cda) ct cc) ["self", y] [])
    (hb2 : Kw1 (PySem.W.ksFn "__init__" qual (defArgs st) (defBody st) (defScope st) .none kV doc pm an (.ref cda) ct cc) ["self", y] 1 y)
    (hfn : ∀ base, mg "super" = none → ErrC P K C ef qual y (defArgs st) (defBody st) (defScope st) (PySem.W.ksFn "__init__" qual (defArgs st) (defBody st) (defScope st) .none kV doc pm an (.ref cda) ct cc) →
      FnG P w K mg base CX0 2 ef (PySem.W.ksFn "__init__" qual (defArgs st) (defBody st) (defScope st) .none kV doc pm an (.ref cda) ct cc) ["self", y] (spErr K C y)) :
    EF P w K mg C M x y := by
  subst e_df
  have ox : OexC K C := ⟨⟨nm, q, N, bs, _, sn, sub, ab, col, dd, m0, m1, m2, m3, m5, e_l, e_v⟩, e_sa, e_ex, e_ty, e_k⟩
  have T : ErrC P K C ef qual y (defArgs st) (defBody st) (defScope st) _ :=
    ⟨ox, ⟨oc, od, _, kV, doc, pm, an, cda, cc, ct, osl, ccl, cl, cdd, cld, vs, ccs, csl, file, tf, rfl, e_f, e_c, e_cd, e_fi, e_pf, e_cc⟩, e_any, e_sup, e_sub, e_self, e_no, e_i, e_it⟩
  have gC : mg x = some (.ref C) := PySem.W.mg_of X G e_g
  have ns : mg "super" = none := PySem.W.mg_none_of X G n_super
  exact ⟨gC, fun base => ⟨ef, _, gC, ox, e_i, e_it, e_k, hb1 [.none, .none] rfl, hfn base ns T⟩, fun base => ⟨ef, _, gC, ox, e_i, e_it, e_k, hb2, hfn base ns T⟩,
    ⟨e_ga, e_gg, e_ex, e_hd⟩, e_no, ⟨e_ga, e_gg, e_ex, e_hd, e_ha, e_hn, e_ht, e_hm⟩, ⟨nm, q, N, bs, tl, sn, sub, ab, col, dd, m0, m1, m2, m3, m5, e_l, e_t⟩, e_ty, em_self e_ex e_hd e_ty e_self, e_sub⟩
end Rm

set_option maxRecDepth 100000
set_option maxHeartbeats 4000000
namespace Rm
open PySem PySem.Spec L2
open PyProof.Rows hiding St
open SeqAt MeetsSeq

/-! ### data of any kind beside a text; in a tuple of texts; is True -/
section
variable {A : Around} {s : Shared}
theorem rcAt_Dstr {d : PyData} {as : List Addr} {v : Value} (z : Str) (t : Tok) (r : Reads s.heap v d as) (hu : A.units < cLine) : RcAt A s v (.str z t) (isT z d) := by
  cases r with
  | none => exact RcAt.none_str z t
  | bool y => exact RcAt.bool_str y z t
  | int y u => exact RcAt.int_str y u z t
  | str y u =>
    have e := RcAt.str_str (A := A) (s := s) y u z t
    have q : isT z (.str y) = (y == z) := by
      unfold isT
      rw [Bool.eq_iff_iff]
      simp
    rw [q]
    exact e
  | list k1 k2 k3 k4 => exact RcAt.list_str z t ⟨_, k1, k2, _, k3⟩ hu
  | tuple k1 k2 k3 k4 => exact RcAt.tuple_str z t ⟨_, k1, k2, _, k3⟩ hu
  | dict k1 k2 k3 k4 k5 => exact rc_dict_str z t k1 k2 k3 hu
end
section
variable {X : Cx}
/-- x == a text, x any small data -/
def rEqS (K : PySem.W.Frag) : R2 := fun x y H Q => ∃ d z, Dx K H x d ∧ y = .str z ∧ Sm d ∧ Q (.bl (isT z d)) H
theorem op_eqS (hu : X.A.units + 64 < cLine) : OpR X (compareOp .Eq) (rEqS X.K) := by
  intro pins s σ H x y v u Q I rx ry h
  obtain ⟨d, z, hd, rfl, sm, q⟩ := h
  obtain ⟨t, rfl⟩ := ry
  obtain ⟨⟨as, r⟩, _⟩ := Dx.shw I d x v hd rx sm.sh sm.len
  exact rcAt_Dstr z t r (by omega) X.prog X.w _ _ ⟨.bl _, H, I, rfl, q⟩
/-- x in a tuple of texts, x any small data -/
def rInS (K : PySem.W.Frag) : R2 := fun x y H Q => ∃ (d : PyData) (p : Addr) (zs : List Str), Dx K H x d ∧ y = .ref p ∧ SqT K H p (zs.map V.str) ∧ Sm d ∧ Q (.bl (zs.any fun z => isT z d)) H
theorem vals_strs {us : List Value} : ∀ {zs : List Str}, Vals (zs.map V.str) us → ∀ v ∈ us, ∃ z ∈ zs, ∃ t, v = .str z t := by
  intro zs
  induction zs generalizing us with
  | nil => intro r; cases r; intro v h; cases h
  | cons z zs ih =>
    intro r
    rw [List.map_cons] at r
    cases r with
    | cons r1 r2 =>
      intro v h
      rcases List.mem_cons.mp h with h | h
      · obtain ⟨t, e⟩ := r1
        subst h
        exact ⟨z, .head _, t, e⟩
      · obtain ⟨z', m, q⟩ := ih r2 v h
        exact ⟨z', .tail _ m, q⟩
theorem op_inS (hu : X.A.units + 65 < cLine) : OpR X (compareOp .In) (rInS X.K) := by
  intro pins s σ H x y v u Q I rx ry h
  obtain ⟨d, p, zs, hd, rfl, hp, sm, q⟩ := h
  cases ry
  obtain ⟨⟨as, r⟩, _⟩ := Dx.shw I d x v hd rx sm.sh sm.len
  obtain ⟨its, rv, ⟨o, ho, hc, n, hdt⟩, hlen⟩ := I.tuple hp
  let e : Value → Bool := fun y => match y with
    | .str z _ => isT z d
    | _ => false
  refine in_tupleAt e ⟨_, ho, hc, _, hdt⟩ (fun y hy => ?_) ?_
  · obtain ⟨z, _, t, rfl⟩ := vals_strs rv y (by simpa using hy)
    exact eqAt_strD z t r (show X.A.in1.units < cLine by show X.A.units + 1 < cLine; omega)
  · have hq : its.toArray.any e = zs.any fun z => isT z d := by
      rw [← Array.any_toList]
      simp only [List.toList_toArray]
      clear hdt ho hc hp q hlen
      induction zs generalizing its with
      | nil => cases rv; rfl
      | cons z zs ih =>
        rw [List.map_cons] at rv
        cases rv with
        | cons r1 r2 =>
          obtain ⟨t, rfl⟩ := r1
          rw [List.any_cons, List.any_cons, ih _ r2]
    rw [hq]
    exact ⟨.bl _, H, I, rfl, q⟩
theorem op_isB : OpR X (compareOp .Is) (fun x y H Q => ∃ a b, x = .bl a ∧ y = .bl b ∧ Q (.bl (decide (a = b))) H) := by
  intro pins s σ H x y v u Q I rx ry h
  obtain ⟨a, b, rfl, rfl, q⟩ := h
  cases rx
  cases ry
  show wpAny _ _ ((isSame (Value.bool a) (.bool b)) >>= fun z => pure (Value.bool z)) _ _ s
  refine wpAny_bind (wpAny_of_eq (a := decide (a = b)) (by cases a <;> cases b <;> rfl) (wpAny_pure (fin_bl I q rfl)))
end
/-! ### a def called by one keyword -/
def CeK (P : Program) (w : World) (K : PySem.W.Frag) (mg : Str → Option Value) (base : Heap) (CX : CXT)
    (k : Nat) (x : Str) (ps : List Str) (y : Str) (sp : Sp) : Prop :=
  ∃ f fd, mg x = some (.ref f) ∧ PySem.W.keepIn K (.ref f) = true ∧ Kw1 fd ps 0 y ∧ FnG P w K mg base CX k f fd ps sp
theorem pe_ceK {X : Cx} {CX : CXT} {k : Nat} {x y : Str} {ps : List Str} {sp : Sp} {E : XK} {e : Expr} {te : TE} {p pos kpos : Pos}
    (D : CeK X.prog X.w X.K X.mg X.base CX k x ps y sp) (hr : Room k X.A) (hG : Gd X.A) (he : PE X e te) (hx : Passes CX X E) (hg : Gl X x := by rfl)
    (hdb : (x == ("__debug__" : Str)) = false := by decide) : PE X (.Call (.Name x p) [] [⟨some y, e, kpos⟩] pos) (tCall sp [] E (tCons te tNil)) := by
  obtain ⟨f, fd, hm, hk, hb, F⟩ := D
  constructor
  intro pins s σ H Q I h
  refine wpAny_Call_Name_kw (ld_glob I hg hm ?_ hdb)
  refine PySem.W.callWith_KW0 (first := []) (h₀ := X.base) I.ok.mod.kin hk rfl (thn (kw_one he I (show te σ H _ from h)) fun us s1 hh => ?_) rfl
  obtain ⟨v, u, H1, rfl, I1, ru, q⟩ := hh
  exact ⟨I1.kIn, goes1 (us := []) (vs := []) F hr hG hb hx I1 .nil ru rfl q⟩
/-! ### isinstance of data: which built-in kinds -/
def isKd (T : String) (d : PyData) : Bool := (tyD d == T) || (T == "int" && tyD d == "bool")
theorem kit_kd {K : PySem.W.Frag} {T : String} (h : T = "str" ∨ T = "tuple" ∨ T = "list" ∨ T = "dict" ∨ T = "bool" ∨ T = "int") : ∀ d : PyData, PySem.W.kitOne K (.type (tyD d)) (.type T) = some (isKd T d) := by
  rcases h with rfl | rfl | rfl | rfl | rfl | rfl <;> (intro d; cases d <;> (dsimp only [tyD, isKd]; exact kit_ty (by decide +kernel)))
theorem isi_kd {K : PySem.W.Frag} {H : Hp} {v : V} {d : PyData} {Q : VK} {T : String} (hT : T = "str" ∨ T = "tuple" ∨ T = "list" ∨ T = "dict" ∨ T = "bool" ∨ T = "int") (h : Dx K H v d) (q : Q (.bl (isKd T d)) H) :
    rIsi K [v, .ty T] H Q := ⟨v, .ty T, _, _, _, rfl, .ty _, h.tyx, kit_kd hT d, q⟩
/-! ### members -/
/-- an integer from lo to hi -/
def isW (lo hi : Int) : PyData → Bool
  | .int i => decide (lo ≤ i) && decide (i ≤ hi)
  | _ => false
def isCh (d : PyData) : Bool := isT "change" d || isT "replace" d
def memD : PyData → Bool
  | .tuple [p, w, m] => isW 1 1000000 p && ((isT "locks" w && (rkD m).isSome) || (isT "changes" w && isCh m))
  | _ => false
end Rm
namespace Rm
open PySem PySem.Spec L2
open PyProof.Rows hiding St
/-! ### what is new -/
def nw (H H' : Hp) : Hp := fun b => match H b with
  | none => H' b
  | some _ => none
theorem none_of {H H' : Hp} {p : Addr} (s : Same H H') (n : H' p = none) : H p = none := by
  cases e : H p with
  | none => rfl
  | some u => rw [s _ _ e] at n; cases n
theorem nw_of {H H' : Hp} {p : Addr} {u : HO} (f : H p = none) (h : H' p = some u) : nw H H' p = some u := by
  unfold nw
  rw [f]
  exact h
theorem nw_at {H H' : Hp} {p t : Addr} {u o o' : HO} (ht : H t = some o) (f : H p = none) (h : H' p = some u) : nw H (upd H' t o') p = some u :=
  nw_of f (by rw [upd_ne (fun e => by rw [e, ht] at f; cases f)]; exact h)
theorem nw_same {H H' : Hp} : Same (nw H H') H' := fun b u h => by
  unfold nw at h
  split at h
  · exact h
  · cases h
theorem nw_off {H H' : Hp} {p : Addr} {u o : HO} (hp : H p = some u) : Same (nw H H') (upd H' p o) := fun b v h => by
  rw [upd_ne (fun e => by unfold nw at h; rw [e, hp] at h; cases h)]
  exact nw_same _ _ h
/-- a drawn value, all of it new -/
def spAnyN (K : PySem.W.Frag) : Sp := fun vs H Q _ => ∃ t o, vs = [.ref t] ∧ H t = some o ∧ IsTape o ∧
  ∀ v d H', Dx K (nw H H') v d → Sv d → Nxt t H H' → Q v H'
/-- lists and tuples of small data are small -/
theorem sv_dep : ∀ {ds : List PyData}, (∀ d ∈ ds, Sv d) → PyData.showableAll ds = true ∧ PyData.leavesShortAll 100 ds = true ∧ PyData.weightAll ds ≤ 1010 * ds.length ∧ PyData.depthAll ds ≤ 10
  | [], _ => ⟨rfl, rfl, by simp [PyData.weightAll], by simp [PyData.depthAll]⟩
  | d :: ds, h => by
    have hd := h d (.head _)
    obtain ⟨a, b, c, e⟩ := sv_dep (ds := ds) fun x m => h x (.tail _ m)
    obtain ⟨h1, h2, h3, h4⟩ := hd
    refine ⟨by simp [PyData.showableAll, h1, a], by simp [PyData.leavesShortAll, h2, b], ?_, ?_⟩
    · simp only [PyData.weightAll, List.length_cons]; omega
    · simp only [PyData.depthAll]; omega
theorem sm_seq {ds : List PyData} (h : ∀ d ∈ ds, Sv d) (hl : ds.length ≤ 40) : Sm (.list ds) ∧ Sm (.tuple ds) := by
  obtain ⟨a, b, c, e⟩ := sv_dep h
  refine ⟨⟨by simpa [PyData.showable] using a, by simpa [PyData.leavesShort] using b, ?_, ?_⟩, ⟨by simpa [PyData.showable] using a, by simpa [PyData.leavesShort] using b, ?_, ?_⟩⟩
  · simp only [PyData.weight]; omega
  · simp only [PyData.depth]; omega
  · simp only [PyData.weight]; omega
  · simp only [PyData.depth]; omega
theorem int_len {n k : Nat} (hk : 1 ≤ k) (h : n < 10 ^ k) : (PyData.int (n : Int)).shown.length ≤ k := by
  have e : (PyData.int (n : Int)).shown = Str.ofString (Nat.repr n) := rfl
  rw [e, ofString_len]
  have e2 : (Nat.repr n).length = (Nat.toDigits 10 n).length := by simp [Nat.repr]
  rw [e2]
  exact digits10_le hk h
theorem Sv.int {i : Int} (h0 : 0 ≤ i) (h : i < 1000000000) : Sv (.int i) := by
  obtain ⟨n, rfl⟩ := Int.eq_ofNat_of_zero_le h0
  have hl : n.log2 < 64 := by
    by_cases e : n = 0
    · rw [e]; decide
    · exact (Nat.log2_lt e).2 (by omega)
  refine ⟨?_, ?_, ?_, ?_⟩
  · simp only [PyData.showable, Int.natAbs_natCast]
    exact decide_eq_true (by omega)
  · simp only [PyData.leavesShort]
    exact decide_eq_true (Nat.le_trans (int_len (k := 9) (by decide) (by omega)) (by decide))
  · simp only [PyData.weight, Int.natAbs_natCast]
    split <;> omega
  · simp [PyData.depth]
theorem dxa_len {K : PySem.W.Frag} {H : Hp} : ∀ {xs : List V} {ds : List PyData}, DxAll K H xs ds → xs.length = ds.length
  | _, _, .nil => rfl
  | _, _, .cons _ r => congrArg Nat.succ (dxa_len r)
theorem dxa_snoc {K : PySem.W.Frag} {H : Hp} : ∀ {vs : List V} {ds : List PyData} {v : V} {d : PyData}, DxAll K H vs ds → Dx K H v d → DxAll K H (vs ++ [v]) (ds ++ [d])
  | _, _, _, _, .nil, h => .cons h .nil
  | _, _, _, _, .cons a r, h => .cons a (dxa_snoc r h)
theorem dxa_set {K : PySem.W.Frag} {H : Hp} : ∀ {vs : List V} {ds : List PyData} {v : V} {d : PyData} {j : Nat}, DxAll K H vs ds → Dx K H v d → DxAll K H (vs.set j v) (ds.set j d)
  | _, _, _, _, _, .nil, _ => .nil
  | _, _, _, _, 0, .cons _ r, h => .cons h r
  | _, _, _, _, j + 1, .cons a r, h => .cons a (dxa_set r h)
theorem dxa_drop {K : PySem.W.Frag} {H : Hp} : ∀ {vs : List V} {ds : List PyData} {j : Nat}, DxAll K H vs ds → DxAll K H (vs.eraseIdx j) (ds.eraseIdx j)
  | _, _, _, .nil => .nil
  | _, _, 0, .cons _ r => r
  | _, _, j + 1, .cons a r => .cons a (dxa_drop r)
theorem dxa_app {K : PySem.W.Frag} {H : Hp} : ∀ {vs us : List V} {ds es : List PyData}, DxAll K H vs ds → DxAll K H us es → DxAll K H (vs ++ us) (ds ++ es)
  | _, _, _, _, .nil, h => h
  | _, _, _, _, .cons a r, h => .cons a (dxa_app r h)
theorem dxa_rev {K : PySem.W.Frag} {H : Hp} : ∀ {vs : List V} {ds : List PyData}, DxAll K H vs ds → DxAll K H vs.reverse ds.reverse
  | _, _, .nil => .nil
  | _, _, .cons a r => by
    rw [List.reverse_cons, List.reverse_cons]
    exact dxa_app (dxa_rev r) (.cons a .nil)
theorem Nxt.go {t : Addr} {H H1 H2 : Hp} (n : Nxt t H H1) (s : Same H1 H2) : Nxt t H H2 := by
  obtain ⟨k, o, h1, h2⟩ := n
  exact ⟨fun b u hb ne => s _ _ (k b u hb ne), o, s _ _ h1, h2⟩
theorem Nxt.put {t l : Addr} {o : HO} {H H1 : Hp} (n : Nxt t H H1) (f : H l = none) (ht : t ≠ l) : Nxt t H (L2.upd H1 l o) := by
  obtain ⟨k, o', h1, h2⟩ := n
  exact ⟨fun b u hb ne => by rw [upd_ne (fun e => by rw [e, f] at hb; cases hb)]; exact k b u hb ne, o', by rw [upd_ne ht]; exact h1, h2⟩
theorem Nxt.turn {t : Addr} {o : HO} {H H1 : Hp} (n : Nxt t H H1) (ho : IsTape o) : Nxt t H (L2.upd H1 t o) := by
  obtain ⟨k, o', h1, h2⟩ := n
  exact ⟨fun b u hb ne => by rw [upd_ne ne]; exact k b u hb ne, o, upd_same, ho⟩
theorem Nxt.trans {t : Addr} {H H1 H2 : Hp} (n : Nxt t H H1) (m : Nxt t H1 H2) : Nxt t H H2 := by
  obtain ⟨k, o', h1, h2⟩ := n
  obtain ⟨k2, o2, h3, h4⟩ := m
  exact ⟨fun b u hb ne => k2 b u (k b u hb ne) ne, o2, h3, h4⟩
end Rm

set_option maxRecDepth 100000
set_option maxHeartbeats 4000000
namespace Rm
open PySem PySem.Spec L2 LamX
open PyProof.Rows hiding St

/-! ### x(lambda: e), where e may use that no display is being written, and errors of e are wished for at the slots of x -/
/-- the def at g, called from X at s -/
abbrev inG (X : Cx) (CXg : CXT) (Ng : List Str) (qg : Str) (sg : Scope) (g : Addr) (cg : Value) (s : Shared) (H : Hp) (Eg : XK) : Cx :=
  cxOf CXg X.prog X.w X.K X.mg X.base Ng qg sg g cg X.A X.stack s H Eg
abbrev lamQ (X : Cx) : Str := X.env.qual ++ "<lambda>"
abbrev lamO (X : Cx) (ps : Arguments) (e : Expr) (sc : Scope) (pm : Value) (c' : Addr) (ctv : Value) : Obj :=
  PySem.W.kla_obj "<lambda>" (lamQ X) ps e sc (cloFrom X.env.cells sc.names []) pm c' ctv
section
variable {X : Cx} {pins : List (Addr × Obj)} {σ : L2.St} {H : Hp} {s : Shared}
theorem act_gd {CXg : CXT} {Eg : XK} {Ng : List Str} {qg a : Str} {sg sc : Scope} {g f c' : Addr} {cg pm ctv : Value} {ps : Arguments} {e : Expr}
    {k i : Nat} {pn : List (Addr × Obj)} {xe : Value → Shared → Prop} {W : WX} {tb : XK → TE} {p1 p2 : Pos}
    (I : Inv X pins σ H s) (L : LamS X.env.scope sc) (hf : s.heap.get? f = some (lamO X ps e sc pm c' ctv)) (nf : H f = none) (ff : f ∉ frs X.stack)
    (hb : bindArgs (PySem.W.kla_fn "<lambda>" (lamQ X) ps e sc (cloFrom X.env.cells sc.names []) pm (.ref c') ctv) ⟨[], []⟩ = pure [])
    (tk : Takes ((inG X CXg Ng qg sg g cg s H Eg).tr pn xe) W) (hr : Room (k + 1) (X.A.deeper (envOfC qg sg s.heap.objs.size g cg)))
    (hG : Gd (X.A.deeper (envOfC qg sg s.heap.objs.size g cg)))
    (he : ∀ (A : Around) (outer : List Env) (z : Shared) (J : Hp) (E : XK), Room k (A.deeper (lamEnv X sc z.heap.objs.size f c')) → Gd (A.deeper (lamEnv X sc z.heap.objs.size f c')) →
      PE (lamCx X A outer z J E sc f c') e (tb E))
    (hN : Ng[i]? = some a) (hv : Vis sg a) (hd : (a == ("__debug__" : Str)) = false := by decide) (hcd : (a == ("__classdict__" : Str)) = false := by decide) :
    PE ((inG X CXg Ng qg sg g cg s H Eg).tr pn xe) (.Call (.Name a p1) [] [] p2)
      (fun τ J Q => τ[i]? = some (some (.ref f)) ∧ J c' = some (CodeO c' (lamQ X)) ∧ tb (WE W τ) σ J Q) := by
  constructor
  rintro pinsZ z τ J Q IZ ⟨slot, code, rd⟩
  have asked := (pe_var (pos := p1) (i := i) hN hv hd hcd).run pinsZ z τ J (fun v J1 => v = .ref f ∧ J1 = J) IZ ⟨.ref f, slot, rfl, rfl⟩
  refine wpAny_Call_Name_kw (thn asked fun u z1 ⟨v, J1, I1, ru, ev, eJ⟩ => ?_)
  subst ev eJ
  have eu : u = Value.ref f := ru
  subst eu
  have keeps : Un (frs X.stack) [] H J1 s.heap z1.heap := I1.base
  have fz : z1.heap.get? f = some (lamO X ps e sc pm c' ctv) := keeps.keep f _ hf nf ff (fun q => by cases q)
  refine PySem.W.callWith_F0 ⟨_, _, _, _, fz⟩ ?_
  obtain ⟨⟨oc, vs, t, c1, c2, c3⟩, _, _⟩ := I1.hok c' _ code
  refine wpAny_call (codeAny_mono (R := CR (L2.CX X.prog X.w) ((envOfC qg sg s.heap.objs.size g cg) :: X.stack) X.prog X.w J1 z1 Q (WE W τ)) ?_ fun r z2 hq => ?_)
  · refine PySem.W.kla_callFunE hr.depth fz rfl L.co L.gen rfl ⟨c', oc, vs, t, rfl, c1, c2, c3⟩ ?_
    have hb' : bindArgs (PySem.W.kla_fn "<lambda>" (lamQ X) ps e sc (cloFrom X.env.cells sc.names []) pm (.ref c') ctv) ⟨[] ++ [], []⟩ = pure [] := hb
    rw [hb']
    refine wpAny_pure (wpAny_newFunctionEnv (fun y hy => (L.own y hy).2) (fun y hy => by cases hy) (fun hp names but => ⟨I1.nolimit.fresh _ but, ?_⟩) L.kind)
    have grown : ∀ b o, z1.heap.get? b = some o → hp.get? b = some o := fun b o q =>
      but.extBut b o (Nat.ne_of_lt (Heap.lt_size q)) (Heap.get?_push_of_some _ q)
    have start := lam_start2 (A := X.A.deeper (envOfC qg sg s.heap.objs.size g cg)) (outer := (envOfC qg sg s.heap.objs.size g cg) :: X.stack) (E := WE W τ) (f := f) (c' := c')
      (tk := z1.toks + ([] : List (Str × Value)).length) I L I1.env0 hr.hd keeps names grown
    refine PySem.W.kla_codeExpr (wpAny_mono ((he _ _ z1 J1 (WE W τ) (hr.deeper _) (hG.deeper _)).run [] _ _ J1 Q start rd) (fun v z3 hq => ?_) fun er z3 hq => hq)
    obtain ⟨y, J2, I2, ry, q⟩ := hq
    exact ⟨y, J2, I2.os, I2.bare, I2.base, I2.hok, ry, q⟩
  · match r, hq with
    | .error er, hq => exact passAt tk τ pinsZ J1 z1 er z2 I1 hq
    | .ok (.ret u), hq => exact I1.after hq
    | .ok .next, hq => exact False.elim hq
    | .ok .brk, hq => exact False.elim hq
    | .ok .cont, hq => exact False.elim hq
/-- what the def x at g, whose one name in front is a, makes of the thing that it may call -/
def Gives (X : Cx) (x a q : Str) (Ng : List Str) (sg : Scope) (g : Addr) (cg : Value) (bg : List Stmt) (TT : (XK → Hp → VK → Prop) → Hp → VK → Prop) : Prop :=
  ∀ (f c' : Addr) (s : Shared) (H : Hp) (Q : VK) (tl : XK → Hp → VK → Prop),
    (∀ (W : WX) (pn : List (Addr × Obj)) (xe : Value → Shared → Prop) (p1 p2 : Pos), Takes ((inG X CX0 Ng x sg g cg s H E0).tr pn xe) W →
      PE ((inG X CX0 Ng x sg g cg s H E0).tr pn xe) (.Call (.Name a p1) [] [] p2)
        (fun τ J Q => τ[0]? = some (some (.ref f)) ∧ J c' = some (CodeO c' q) ∧ tl (WE W τ) J Q)) →
    H c' = some (CodeO c' q) → TT tl H Q →
    ∃ t, PSs (inG X CX0 Ng x sg g cg s H E0).nox bg t ∧ t { nx := fun _ H' => Q .non H', rt := Q } (L2.start Ng [.ref f]) H
theorem pe_lamG {T : List (Addr × Str)} {TT : (XK → Hp → VK → Prop) → Hp → VK → Prop} {x a : Str} {g c P : Addr} {k : Nat} {pg ps : Arguments} {bg : List Stmt} {sg sc : Scope}
    {dV kV doc pm cg ct oc : Value} {an od : Option Addr} {osl : Array (Option Value)} {Ng : List Str} {e : Expr} {t : XK → TE} {p lp pos : Pos}
    (hm : X.mg x = some (.ref g)) (hk : PySem.W.keepIn X.K (.ref g) = true)
    (lk : X.K.lookup g = some ⟨oc, od, .func (PySem.W.fnOf x x pg bg sg dV kV doc pm an cg ct), osl⟩) (hcg : PySem.W.codeIn X.K cg x = true)
    (hbd : L2.Binds X.K (PySem.W.fnOf x x pg bg sg dV kV doc pm an cg ct) [a] []) (Sg : FnScope Ng [a] sg)
    (give : Gives X x a (lamQ X) Ng sg g cg bg TT) (TB : TabB X.base X.mg c P)
    (hT : (P, lamQ X) ∈ T) (hu : ∀ y ∈ T, y.1 = P → y.2 = lamQ X) (hr : Room (k + 2) X.A) (hG : Gd X.A)
    (he : ∀ (A : Around) (outer : List Env) (z : Shared) (J : Hp) (E : XK) (f c' : Addr), Room k (A.deeper (lamEnv X sc z.heap.objs.size f c')) → Gd (A.deeper (lamEnv X sc z.heap.objs.size f c')) →
      PE (lamCx X A outer z J E sc f c') e (t E))
    (L : LamS X.env.scope sc) (hg : Gl X x := by rfl) (h0 : Ng[0]? = some a := by rfl) (hva : Vis sg a := by first | exact Or.inl rfl | exact Or.inr (Or.inl rfl)) (hcode : X.env.code = .ref c := by rfl) (hdef : defaultsOf ps X.env = ([], []) := by rfl)
    (hba : ∀ (q : Str) (cl : List (Str × Addr)) (pm cv ctv : Value), bindArgs (PySem.W.kla_fn "<lambda>" q ps e sc cl pm cv ctv) ⟨[], []⟩ = pure [] := by intros; rfl)
    (hdb : (x == ("__debug__" : Str)) = false := by decide) (hd : (a == ("__debug__" : Str)) = false := by decide) (hcd : (a == ("__classdict__" : Str)) = false := by decide) :
    PE X (.Call (.Name x p) [.Lambda ps e sc lp] [] pos) (tLam T TT t) := by
  constructor
  rintro pins s σ H Q I ⟨tabs, rd⟩
  refine wpAny_Call_Name_kw (ld_glob I hg hm (PySem.W.callWith_K (h₀ := X.base) I.ok.mod.kin hk ?_ (by rfl) (by rfl)) hdb)
  show wpAny _ _ (spliced ((false, eval (.Lambda ps e sc lp) X.env) :: backTo pos (starEach [] X.env))) _ _ s
  refine Calls.spliced_cons (lam_make2 I TB hcode hT hu tabs hdef (L.has I.ok) fun f c' pm' ctv H1 z I1 eN T1 hf nf ff co => Calls.spliced_nil ⟨I1.kIn, ?_⟩)
  refine wpAny_call (codeAny_mono (R := CR CX0 X.stack X.prog X.w H1 z Q E0) ?_ fun r z2 hq => ?_)
  · refine run_ofS (us := [.ref f]) (vs := [.ref f]) lk hcg Sg hr I1.env0 (hbd z [.ref f] I1.kIn rfl) (.cons rfl .nil) rfl fun hr' => ?_
    obtain ⟨t', ht, q⟩ := give f c' z H1 Q (fun E J Q' => t E σ J Q') (fun W pn xe p1 p2 tk =>
      act_gd (i := 0) I1 L hf nf ff (hba _ _ _ _ _) tk hr' (hG.deeper _) (fun A outer y J E h1 h2 => he A outer y J E f c' h1 h2) h0 hva hd hcd) co (rd H1 eN T1)
    exact ⟨t', ht.nox, q⟩
  · match r, hq with
    | .error er, hq => exact False.elim hq
    | .ok (.ret u), hq => exact I1.after hq
    | .ok .next, hq => exact False.elim hq
    | .ok .brk, hq => exact False.elim hq
    | .ok .cont, hq => exact False.elim hq
end
end Rm

set_option maxRecDepth 100000
set_option maxHeartbeats 4000000
namespace Rm
open PySem PySem.Spec L2
open PyProof.Rows hiding St

/-! ### the end, where the law's defs make lambdas: cs, the code objects and their tables -/
abbrev tabO : Obj := { cls := .none, data := .fields #[] }
section
variable {P : Program} {w : World} {K : PySem.W.Frag} {mg mb : Str → Option Value} {k : Nat} {fa a : Addr} {fd : FuncData} {x : Str} {sp : Sp} {cs : List (Addr × Addr)}
variable {s : Shared} {vs : List Value} {ns : List Int}
/-- H tracks the tables, and the script at most -/
structure BareT (P : Program) (w : World) (K : PySem.W.Frag) (s : Shared) (a : Addr) (cs : List (Addr × Addr)) (H : Hp) : Prop where
  tb : ∀ p ∈ cs, H p.2 = some (.tbl #[])
  only : ∀ b, H b = none ∨ (∃ p ∈ cs, p.2 = b) ∨ ∃ o xs, H b = some (.frz o (.lst xs))
  hok : HOk P w H s.heap
  at_ : ∀ b u, H b = some u → b = a ∨ ∃ p ∈ cs, p.2 = b
  out : ∀ u, H a = some u → K.lookup a = none
  lst : ∃ vs : List Value, s.heap.get? a = some { cls := .type "list", data := .seq vs.toArray }
  isT : ∀ p ∈ cs, s.heap.get? p.2 = some tabO
  nT : ∀ p ∈ cs, K.lookup p.2 = none
theorem BareT.free {H : Hp} (B : BareT P w K s a cs H) {b : Addr} {o : Obj} (e : s.heap.get? b = some o) (h1 : ∀ vs n, o.data ≠ .seq vs n) (h2 : o.data ≠ .fields #[]) : H b = none := by
  cases q : H b with
  | none => rfl
  | some u =>
    rcases B.at_ b u q with z | ⟨p, hp, z⟩
    · obtain ⟨vs, l⟩ := B.lst
      rw [z, l] at e
      cases e
      exact (h1 _ _ rfl).elim
    · have t := B.isT p hp
      rw [z, e] at t
      cases t
      exact (h2 rfl).elim
theorem BareT.dict {H : Hp} (B : BareT P w K s a cs H) {b : Addr} {o : Obj} {es : Array DictEntry} {ep : Nat} (e : s.heap.get? b = some o) (d : o.data = .dict es ep) : H b = none :=
  B.free e (fun vs n z => by rw [d] at z; cases z) fun z => by rw [d] at z; cases z
theorem BareT.names {H : Hp} (B : BareT P w K s a cs H) {b : Addr} {m : Str → Option Value} (h : s.heap.Ns b m) : (hidT s.heap H).Ns b m := by
  obtain ⟨o, es, ep, e, d, r⟩ := h
  exact ⟨o, es, ep, hidT_get e (B.dict e d), d, r⟩
theorem BareT.kin {H : Hp} (B : BareT P w K s a cs H) (KX : K.In s.heap) : K.In (hidT s.heap H) := fun b o e => by
  refine hidT_get (KX b o e) ?_
  cases q : H b with
  | none => rfl
  | some u =>
    rcases B.at_ b u q with z | ⟨p, hp, z⟩
    · subst z
      rw [B.out u q] at e
      cases e
    · rw [← z, B.nT p hp] at e
      cases e
theorem told_ofT {H : Hp} (B : BareT P w K s a cs H) (KX : K.In s.heap) (hns : s.heap.Ns mainGlobals mg) (hb : s.heap.Ns builtinsNs mb)
    (hbb : ∀ y : Str, y ≠ "__name__" → mb y = bootBuiltins y) (hlim : s.heap.NoLimit) (hg : s.gens = #[]) (hr : Room k callerA)
    (C : ∀ p ∈ cs, PySem.W.CodeHd s.heap p.1 p.2)
    (hbm : ∃ (bm : Addr) (ob : Obj), mg "__builtins__" = some (.ref bm) ∧ bm ≠ builtinsNs ∧ s.heap.get? bm = some ob ∧ ob.cls = .type "module" ∧ ob.dict = some builtinsNs ∧ ob.data = .plain)
    (F : ∀ base : Heap, K.In base → base.Ns mainGlobals mg → (∀ p ∈ cs, LamX.TabB base mg p.1 p.2) → FnG P w K mg base CX0 k fa fd [x] sp)
    (hbind : ∀ (s : Shared) (u : Value), BindsTo s fd ⟨[u], []⟩ [(x, u)])
    (q : sp [.ref a] H (fun v _ => v = .bl true) E0) :
    codeAny (model P w) callerA (.call (.ref fa) ⟨[.ref a], []⟩) (Told s) s := by
  have kin := B.kin KX
  have lim : (hidT s.heap H).NoLimit := by
    obtain ⟨mc, h1, h2⟩ := hlim
    exact ⟨mc, B.names h1, h2⟩
  have md : Mod K mg (hidT s.heap H) := ⟨kin, B.names hns, ⟨mb, B.names hb, hbb⟩, lim⟩
  have none_in : ∀ b : Addr, b ∉ ([] : List Addr) := fun b z => by cases z
  have isDict : ∀ {b : Addr} {m : Str → Option Value}, s.heap.Ns b m → ∀ {o : Obj}, s.heap.get? b = some o → ∃ es ep, o.data = .dict es ep := fun h o e => by
    obtain ⟨o', es, ep, e', d, _⟩ := h
    rw [e] at e'
    cases e'
    exact ⟨es, ep, d⟩
  have tabB : ∀ p ∈ cs, LamX.TabB (hidT s.heap H) mg p.1 p.2 := fun p hp => by
    have tp := B.isT p hp
    refine ⟨?_, ?_, fun z => ?_⟩
    · obtain ⟨o, us, file, tf, flags, tg, inF, text, tt, e1, r1, r2, r3, rest⟩ := C p hp
      refine ⟨o, us, file, tf, flags, tg, inF, text, tt, hidT_get e1 (B.free e1 (fun vs n z => ?_) fun z => ?_), r1, r2, r3, rest⟩
      · rw [r2] at z
        cases z
      · rw [r2] at z
        cases z
        simp at r3
    · obtain ⟨bm, ob, b1, b2, b3, b4, b5, b6⟩ := hbm
      refine ⟨bm, ob, b1, b2, fun z => ?_, fun z => ?_, hidT_get b3 (B.free b3 (fun vs n z => ?_) fun z => ?_), b4, b5, b6⟩
      · obtain ⟨es, ep, d⟩ := isDict hns (z ▸ b3)
        rw [b6] at d
        cases d
      · rw [z, tp] at b3
        cases b3
        cases b6
      · rw [b6] at z
        cases z
      · rw [b6] at z
        cases z
    · obtain ⟨es, ep, d⟩ := isDict hns (z ▸ tp)
      cases d
  have env : Env0 P w K mg (hidT s.heap H) callerA [] s H :=
    ⟨rfl, md, fun b o e => of_hidT e, Nat.le_of_eq (hidT_size _ _), trivial, fun b z => absurd z (none_in b), B.hok, .of_eq hg⟩
  have run := (F _ kin (B.names hns) tabB).run callerA [] s H ⟨[.ref a], []⟩ [.ref a] [.ref a] _ _ hr rfl env (hbind s (.ref a)) (.cons rfl .nil) q
  refine codeAny_mono run fun r s' h => ?_
  match r, h with
  | .error e, h => exact False.elim h
  | .ok .next, h => exact False.elim h
  | .ok .brk, h => exact False.elim h
  | .ok .cont, h => exact False.elim h
  | .ok (.ret u), ⟨v, H', os, bare, un, hok', r', ev⟩ =>
    have ev : v = .bl true := ev
    subst ev
    have eu : u = Value.bool true := r'
    subst eu
    have kept : ∀ b o, (¬ ∃ p ∈ cs, p.2 = b) → s.heap.get? b = some o → s'.heap.get? b = some o := fun b o nb e => by
      rcases B.only b with z | z | ⟨ob, xs, z⟩
      · exact un.keep b o e z (none_in b) (none_in b)
      · exact absurd z nb
      · have e1 := (B.hok b _ z).1
        have e2 := (hok' b _ (un.frzs b ob _ z)).1
        exact e2.trans (e1.symm.trans e)
    have grown : ∀ p ∈ cs, ∃ more : Array Value, s'.heap.get? p.2 = some { cls := .none, data := .fields more } := fun p hp => by
      obtain ⟨more, z⟩ := un.tbls p.2 #[] (B.tb p hp)
      exact ⟨_, hok' p.2 _ z⟩
    refine ⟨rfl, ⟨fun b o e => ?_, fun b o e => ?_⟩, os, bare⟩
    · by_cases nb : ∃ p ∈ cs, p.2 = b
      · obtain ⟨p, hp, rfl⟩ := nb
        obtain ⟨more, hm⟩ := grown p hp
        have tp := B.isT p hp
        rw [tp] at e
        cases e
        exact .inr (.inl ⟨((C p hp).tab tp).isCodeTable, rfl, #[], more, rfl, by rw [Array.empty_append]; exact hm⟩)
      · exact .inl (kept b o nb e)
    · by_cases nb : ∃ p ∈ cs, p.2 = b
      · obtain ⟨p, hp, rfl⟩ := nb
        obtain ⟨more, hm⟩ := grown p hp
        exact ⟨_, hm⟩
      · exact ⟨o, kept b o nb e⟩
/-- the tables, and the script where it is none of the written part -/
def scT (K : PySem.W.Frag) (a : Addr) (vs : List Value) (ns : List Int) (cs : List (Addr × Addr)) : Hp := fun b =>
  if b ∈ cs.map (·.2) then some (.tbl #[]) else if b = a ∧ K.lookup a = none then some (.frz { cls := .type "list", data := .seq vs.toArray } (.lst (ns.map V.int))) else none
theorem bareT (ha : s.heap.get? a = some { cls := .type "list", data := .seq vs.toArray }) (hi : IntsAre vs ns) (hl : ns.length ≤ sizeLine)
    (isT : ∀ p ∈ cs, s.heap.get? p.2 = some tabO) (nT : ∀ p ∈ cs, K.lookup p.2 = none) : BareT P w K s a cs (scT K a vs ns cs) ∧ (K.lookup a = none → Rd (scT K a vs ns cs) a (.lst (ns.map V.int))) := by
  have mem : ∀ {b : Addr}, b ∈ cs.map (·.2) ↔ ∃ p ∈ cs, p.2 = b := List.mem_map
  have na : a ∉ cs.map (·.2) := fun z => by
    obtain ⟨p, hp, e⟩ := mem.mp z
    have t := isT p hp
    rw [e, ha] at t
    have z' : Data.seq vs.toArray _ = Data.fields #[] := congrArg Obj.data (Option.some.inj t)
    cases z'
  have cases_ : ∀ {b : Addr} {u : HO}, scT K a vs ns cs b = some u → (b ∈ cs.map (·.2) ∧ u = .tbl #[]) ∨ (b = a ∧ K.lookup a = none ∧ u = .frz { cls := .type "list", data := .seq vs.toArray } (.lst (ns.map V.int))) := fun {b u} z => by
    unfold scT at z
    split at z
    · rename_i h
      exact .inl ⟨h, (Option.some.inj z).symm⟩
    · split at z
      · rename_i h
        exact .inr ⟨h.1, h.2, (Option.some.inj z).symm⟩
      · cases z
  refine ⟨⟨fun p hp => if_pos (mem.mpr ⟨p, hp, rfl⟩), fun b => ?_, fun b u z => ?_, fun b u z => ?_, fun u z => ?_, ⟨vs, ha⟩, isT, nT⟩, fun h => .inr ⟨_, (if_neg na).trans (if_pos ⟨rfl, h⟩)⟩⟩
  · cases e : scT K a vs ns cs b with
    | none => exact .inl rfl
    | some u =>
      rcases cases_ e with ⟨h, rfl⟩ | ⟨_, _, rfl⟩
      · exact .inr (.inl (mem.mp h))
      · exact .inr (.inr ⟨_, _, rfl⟩)
  · rcases cases_ z with ⟨h, rfl⟩ | ⟨rfl, _, rfl⟩
    · obtain ⟨p, hp, rfl⟩ := mem.mp h
      exact isT p hp
    · exact ⟨ha, by rw [List.length_map]; exact hl, vs, _, vals_ints hi, ha⟩
  · rcases cases_ z with ⟨h, _⟩ | ⟨h, _⟩
    · exact .inr (mem.mp h)
    · exact .inl h
  · rcases cases_ z with ⟨h, _⟩ | ⟨_, h, _⟩
    · exact absurd h na
    · exact h
end
theorem walkT {l : PySem.W.OpenLaw} {k : Nat} {q : Program} {loose : List Str} {XP : (Str → Option Value) → Heap → Prop} {YP : World → Heap → Prop} {d : DefRec}
    {K : Params → PySem.W.Frag} (hn : l.most = some 63) (hdf : d.params.defaults = []) (hr : Room k callerA)
    (hY : ∀ (w : World) (h : Heap), YP w h → (K w.params).In h)
    (F : ∀ (w : World) (mg : Str → Option Value) (fa : Addr) (h : Heap), YP w h → (K w.params).In h → h.Ns mainGlobals mg → mg d.name = some (.ref fa) →
      ∃ (fd : FuncData) (cs : List (Addr × Addr)) (T : List (Addr × Str)), (∀ p ∈ cs, h.get? p.2 = some tabO) ∧ (∀ p ∈ cs, (K w.params).lookup p.2 = none) ∧ (∀ p ∈ cs, PySem.W.CodeHd h p.1 p.2) ∧
        (∀ y ∈ T, ∃ p ∈ cs, p.2 = y.1) ∧ (∀ (s : Shared) (u : Value), BindsTo s fd ⟨[u], []⟩ [("_law_script", u)]) ∧
        ∀ base : Heap, (K w.params).In base → base.Ns mainGlobals mg → (∀ p ∈ cs, LamX.TabB base mg p.1 p.2) → FnG l.prog w (K w.params) mg base CX0 k fa fd ["_law_script"]
          (fun vs H Q _ => ∃ (a : Addr) (ns : List Int), vs = [.ref a] ∧ SqL (K w.params) H a (ns.map V.int) ∧ ns.length ≤ 63 ∧ (∀ n ∈ ns, Builtin.Int.intBits n ≤ 1048576) ∧ LamX.Tabs T H ∧ ∀ H', Q (.bl true) H')) :
    PySem.W.WalkO q loose XP YP l.row.toRowW d [] (fun f vs => PySem.call f vs) := by
  refine Att.attach_callB hn hdf fun w s₀ s mg mb fa o pm cd doc a vs ns G Y ho hd hcd hmg ha hi hlen hbits hg => ?_
  have KX := hY w _ Y
  obtain ⟨fd, cs, T, isT, nT, C, hT, hb, hF⟩ := F w mg fa _ Y KX G.T.g hmg
  have hl : ns.length ≤ sizeLine := Nat.le_trans hlen (by decide)
  obtain ⟨B, here⟩ := bareT (P := l.prog) (w := w) (K := K w.params) (cs := cs) ha hi hl isT nT
  refine told_ofT B KX G.T.g G.T.b G.T.builtins G.T.nolimit hg hr C G.T.bmain hF hb ⟨a, ns, rfl, ?_, hlen, hbits, fun y hy => ?_, fun _ => rfl⟩
  · cases hk : (K w.params).lookup a with
    | none => exact .inl (here hk)
    | some ob =>
      have e := KX a ob hk
      rw [ha] at e
      cases e
      refine .inr ⟨_, vs.toArray, _, hk, rfl, rfl, rfl, ?_, ?_⟩
      · rw [List.size_toArray, hi.length]; exact hl
      · simpa using vals_ints hi
  · obtain ⟨p, hp, e⟩ := hT y hy
    exact LamX.TabS.nil (by rw [← e]; exact B.tb p hp)
end Rm

set_option maxRecDepth 100000
set_option maxHeartbeats 4000000
namespace Rm
open PySem PySem.Spec L2
open PyProof.Rows hiding St

/-! ### a list beside an empty one -/
def rEqE (K : PySem.W.Frag) : R2 := fun x y H Q => ∃ a xs b, x = .ref a ∧ SqL K H a xs ∧ y = .ref b ∧ SqL K H b [] ∧ Q (.bl xs.isEmpty) H
theorem op_eqE {X : Cx} (hu : X.A.units < cLine) : OpR X (compareOp .Eq) (rEqE X.K) := by
  intro pins s σ H x y v u Q I rx ry h
  obtain ⟨a, xs, b, rfl, ha, rfl, hb, q⟩ := h
  cases rx
  cases ry
  obtain ⟨its, rv, hl, _⟩ := I.list ha
  obtain ⟨its2, rv2, hl2, _⟩ := I.list hb
  have z2 : its2 = [] := by
    cases rv2
    rfl
  subst z2
  refine PySem.W.cmp_ofEq ?_
  cases rv with
  | nil =>
    refine PySem.SeqAt.RcAt.lists (e := fun _ => true) hl.isList hl2.isList rfl hu (fun j h1 _ => absurd h1 (by simp)) _ _ _ _ ?_
    exact ⟨.bl _, H, I, rfl, q⟩
  | cons r rs =>
    refine PySem.SeqAt.RcAt.lists_lengths hl.isList hl2.isList (by simp) hu _ _ _ _ ?_
    exact ⟨.bl _, H, I, rfl, q⟩
def rEqET (K : PySem.W.Frag) : R2 := fun x y H Q => ∃ a xs b, x = .ref a ∧ SqT K H a xs ∧ y = .ref b ∧ SqT K H b [] ∧ Q (.bl xs.isEmpty) H
theorem op_eqET {X : Cx} (hu : X.A.units < cLine) : OpR X (compareOp .Eq) (rEqET X.K) := by
  intro pins s σ H x y v u Q I rx ry h
  obtain ⟨a, xs, b, rfl, ha, rfl, hb, q⟩ := h
  cases rx
  cases ry
  obtain ⟨its, rv, hl, _⟩ := I.tuple ha
  obtain ⟨its2, rv2, hl2, _⟩ := I.tuple hb
  have z2 : its2 = [] := by
    cases rv2
    rfl
  subst z2
  refine PySem.W.cmp_ofEq ?_
  have r := PySem.SeqAt.RcAt.tuples (A := X.A) (s := s) (items := its.toArray) (items2 := ([] : List Value).toArray) (e := fun _ => true) hl hl2 hu (fun j _ h2 => absurd h2 (by simp))
  cases rv with
  | nil => exact r _ _ _ _ ⟨.bl _, H, I, rfl, q⟩
  | cons r1 rs =>
    simp at r
    exact r _ _ _ _ ⟨.bl _, H, I, rfl, q⟩
/-! ### what an operation is, as plain data -/
def lnZ (z : Str) : Bool := decide (1 ≤ z.length) && (decide (z.length ≤ 6) && z.cps.toList.all fun c => decide (97 ≤ c) && decide (c ≤ 122))
theorem cp128 : ∀ c : Fin 128, Unicode.isAlpha c.val = ((decide (65 ≤ c.val) && decide (c.val ≤ 90)) || (decide (97 ≤ c.val) && decide (c.val ≤ 122))) ∧ Unicode.isLower c.val = (decide (97 ≤ c.val) && decide (c.val ≤ 122)) ∧
    (Unicode.isUpper c.val || Unicode.isTitle c.val) = (decide (65 ≤ c.val) && decide (c.val ≤ 90)) := by decide +kernel
def nmZ (z : Str) : Bool := decide (z.length ≤ 6) && (Txt.isascii z && (Txt.isalpha z && Txt.islower z))
theorem all_iff {z : Str} {f : Nat → Bool} : z.cps.all f = true ↔ ∀ c ∈ z.cps.toList, f c = true := by
  rw [← Array.all_toList, List.all_eq_true]
theorem any_iff {z : Str} {f : Nat → Bool} : z.cps.any f = true ↔ ∃ c ∈ z.cps.toList, f c = true := by
  rw [← Array.any_toList, List.any_eq_true]
theorem nm_ln (z : Str) : nmZ z = lnZ z := by
  rw [Bool.eq_iff_iff]
  unfold nmZ lnZ Txt.isascii Txt.isalpha Txt.islower
  simp only [Bool.and_eq_true, decide_eq_true_eq, all_iff, any_iff, Bool.not_eq_true', List.all_eq_true]
  constructor
  · rintro ⟨h6, ha, ⟨hp, hal⟩, ⟨c0, hc0, hl0⟩, hno⟩
    refine ⟨hp, h6, fun c hc => ?_⟩
    have lt := ha c hc
    obtain ⟨e1, e2, e3⟩ := cp128 ⟨c, lt⟩
    have a1 := hal c hc
    have nu : (Unicode.isUpper c || Unicode.isTitle c) = false := by
      cases e : (Unicode.isUpper c || Unicode.isTitle c) with
      | false => rfl
      | true =>
        have : z.cps.any (fun c => Unicode.isUpper c || Unicode.isTitle c) = true := any_iff.mpr ⟨c, hc, e⟩
        rw [this] at hno
        cases hno
    dsimp only at e1 e3
    rw [nu] at e3
    rw [a1, ← e3] at e1
    simpa using e1
  · rintro ⟨hp, h6, h⟩
    have lt : ∀ c ∈ z.cps.toList, c < 128 := fun c hc => by
      have := (h c hc).2
      omega
    refine ⟨h6, lt, ⟨hp, fun c hc => ?_⟩, ?_, ?_⟩
    · obtain ⟨e1, _, _⟩ := cp128 ⟨c, lt c hc⟩
      dsimp only at e1
      rw [e1]
      obtain ⟨a, b⟩ := h c hc
      simp [a, b]
    · have : 0 < z.cps.toList.length := hp
      obtain ⟨c, hc⟩ := List.exists_mem_of_length_pos this
      refine ⟨c, hc, ?_⟩
      obtain ⟨_, e2, _⟩ := cp128 ⟨c, lt c hc⟩
      dsimp only at e2
      rw [e2]
      obtain ⟨a, b⟩ := h c hc
      simp [a, b]
    · cases e : z.cps.any (fun c => Unicode.isUpper c || Unicode.isTitle c) with
      | false => rfl
      | true =>
        obtain ⟨c, hc, hu⟩ := any_iff.mp e
        obtain ⟨_, _, e3⟩ := cp128 ⟨c, lt c hc⟩
        dsimp only at e3
        rw [hu] at e3
        obtain ⟨a, b⟩ := h c hc
        have e3 := e3.symm
        simp at e3
        omega
def nmD : PyData → Bool
  | .str z => lnZ z
  | _ => false
def ALN : List Str := ["begin", "crash", "clean"]
def WNR : List Str := ["save", "release", "back", "commit", "abort", "prepare"]
def vlo : Int := 1 - 10 ^ 30
def vhi : Int := 10 ^ 30 - 1
/-- what follows the word -/
def opK (l : List PyData) : Bool := match l with
  | [n, m] => nmD n && (rkD m).isSome
  | _ => false
def opC (l : List PyData) : Bool := match l with
  | [n, m, v] => nmD n && (isCh m && isW vlo vhi v)
  | _ => false
def opL (z : Str) (r : List PyData) : Bool :=
  if z ∈ WNR then r.isEmpty else if z = "lock" then opK r else if z = "change" then opC r else false
def opT (z : Str) (r : List PyData) : Bool := match r with
  | [] => false
  | x :: r' => isW 1 1000000 x && opL z r'
def opH (r : List PyData) : Bool := match r with
  | [x] => isW 0 60 x
  | _ => false
def opR (z : Str) (r : List PyData) : Bool :=
  if z ∈ ALN then r.isEmpty else if z = "horizon" then opH r else opT z r
def opD : PyData → Bool
  | .tuple (.str z :: r) => opR z r
  | _ => false
theorem sm_all {ds : List PyData} (h : Sm (.tuple ds)) : ∀ d ∈ ds, Sm d := by
  induction ds with
  | nil => intro d hd; cases hd
  | cons a ds ih =>
    obtain ⟨h1, h2, h3, h4⟩ := h
    simp only [PyData.showable, PyData.showableAll, Bool.and_eq_true] at h1
    simp only [PyData.leavesShort, PyData.leavesShortAll, Bool.and_eq_true] at h2
    simp only [PyData.weight, PyData.weightAll] at h3
    simp only [PyData.depth, PyData.depthAll] at h4
    intro d hd
    rcases List.mem_cons.mp hd with rfl | hd
    · exact ⟨h1.1, h2.1, by omega, by omega⟩
    · exact ih ⟨by simpa only [PyData.showable] using h1.2, by simpa only [PyData.leavesShort] using h2.2, by simp only [PyData.weight]; omega, by simp only [PyData.depth]; omega⟩ d hd
theorem sm_strlen {z : Str} (h : Sm (.str z)) : z.length ≤ 100000 := h.wt
theorem cut_tail {xs : List V} (h : 1 ≤ xs.length) : cutV xs (some (1 : Int)) none = xs.drop 1 := by
  unfold cutV
  rw [show ((1 : Int)) = ((1 : Nat) : Int) from rfl, HT.sIx_nat, HT.sIx_none, Nat.min_eq_left h, List.take_of_length_le (by rw [List.length_drop]; exact Nat.le_refl _)]
theorem sqt_up {K : PySem.W.Frag} {H H' : Hp} {a : Addr} {xs : List V} (s : Same H H') (h : SqT K H a xs) : SqT K H' a xs :=
  h.elim (fun h => .inl (h.elim (fun h => .inl (s _ _ h)) fun ⟨o, h⟩ => .inr ⟨o, s _ _ h⟩)) .inr
theorem any_isT {l : List Str} {z : Str} : l.any (fun y => isT y (.str z)) = decide (z ∈ l) := by
  rw [Bool.eq_iff_iff]
  simp [isT]
theorem any_notT {l : List Str} {d : PyData} (h : ∀ z, d ≠ .str z) : l.any (fun y => isT y d) = false := by
  rw [List.any_eq_false]
  intro y _
  cases d with
  | str z => exact absurd rfl (h z)
  | _ => simp [isT]
theorem isT_not {y : Str} {d : PyData} (h : ∀ z, d ≠ .str z) : isT y d = false := by
  cases d with
  | str z => exact absurd rfl (h z)
  | _ => rfl
end Rm

set_option maxRecDepth 100000
set_option maxHeartbeats 4000000
namespace Rm
open PySem PySem.Spec L2
open PyProof.Rows hiding St

def asA (z : Str) : Bool := z.cps.toList.all fun c => decide (c < 128)
theorem asA_app {x y : Str} (h : asA x = true) (h' : asA y = true) : asA (x ++ y) = true := by
  unfold asA at h h' ⊢
  have e : (x ++ y).cps.toList = x.cps.toList ++ y.cps.toList := by
    show (x.cps ++ y.cps).toList = _
    simp
  rw [e, List.all_append, h, h']
  rfl
theorem asA_cut {z : Str} {lo hi : Option Int} (h : asA z = true) : asA (cutS z lo hi) = true := by
  unfold asA at h ⊢
  rw [List.all_eq_true] at h ⊢
  intro c hc
  unfold cutS at hc
  simp only at hc
  exact h c (List.mem_of_mem_drop (List.mem_of_mem_take hc))
theorem asA_smC {z : Str} (h : asA z = true) : smC z = true := by
  unfold asA at h
  unfold smC
  rw [List.all_eq_true] at h ⊢
  intro c hc
  have := of_decide_eq_true (h c hc)
  exact decide_eq_true (Nat.lt_trans this (by decide))
theorem asA_one {z : Str} {c : Nat} (h : asA z = true) (hc : c ∈ z.cps.toList) : asA ⟨#[c]⟩ = true := by
  unfold asA at h ⊢
  rw [List.all_eq_true] at h
  simpa using h c hc
theorem join_as0 : ∀ {ys : List Str}, (∀ y ∈ ys, y.length = 1 ∧ asA y = true) → (Str.join "" ys).length = ys.length ∧ asA (Str.join "" ys) = true
  | [], _ => ⟨rfl, rfl⟩
  | [y], h => ⟨(h y (.head _)).1, (h y (.head _)).2⟩
  | y :: y2 :: ys, h => by
    obtain ⟨h1, h2⟩ := join_as0 (ys := y2 :: ys) fun x hx => h x (.tail _ hx)
    obtain ⟨a, b⟩ := h y (.head _)
    have e : Str.join "" (y :: y2 :: ys) = y ++ ("" : Str) ++ Str.join "" (y2 :: ys) := rfl
    rw [e]
    refine ⟨?_, asA_app (asA_app b (by decide +kernel)) h2⟩
    rw [len_app, len_app, h1, a]
    show 1 + 0 + (y2 :: ys).length = _
    simp only [List.length_cons]
    omega
theorem join_asA {ys : List Str} (h : ∀ y ∈ ys, y.length = 1 ∧ asA y = true) : (Txt.join "" ys).length = ys.length ∧ asA (Txt.join "" ys) = true := by
  have e : Txt.join "" ys = Str.join "" ys := StrLaws.glued_eq_join _ _
  rw [e]
  exact join_as0 h
theorem sum_ones : ∀ {ys : List Str}, (∀ y ∈ ys, y.length = 1 ∧ asA y = true) → (ys.map (·.length)).sum = ys.length
  | [], _ => rfl
  | y :: ys, h => by
    rw [List.map_cons, List.sum_cons, (h y (.head _)).1, sum_ones fun x hx => h x (.tail _ hx), List.length_cons]
    omega
theorem up128 : ∀ c : Fin 128, (Txt.upper ⟨#[c.val]⟩).length ≤ 3 ∧ smC (Txt.upper ⟨#[c.val]⟩) = true := by decide +kernel
def spOneS : Sp := fun vs H Q _ => ∃ t o z, vs = [.ref t, .str z] ∧ H t = some o ∧ IsTape o ∧ 1 ≤ z.length ∧ z.length ≤ 1000 ∧ asA z = true ∧ ∀ c o', asA ⟨#[c]⟩ = true → IsTape o' → Q (.str ⟨#[c]⟩) (upd H t o')
/-- a text times 0 or 1 -/
def rRepS : R2 := fun x y H Q => ∃ z n, x = .str z ∧ y = .int n ∧ ((n = 0 ∧ Q (.str Str.empty) H) ∨ (n = 1 ∧ Q (.str z) H))
theorem op_repS {X : Cx} : OpR X (binaryOp .Mult) rRepS := by
  intro pins s σ H x y v u Q I rx ry h
  obtain ⟨z, n, rfl, rfl, h⟩ := h
  obtain ⟨t, rfl⟩ := rx
  obtain ⟨t', rfl⟩ := ry
  rcases h with ⟨rfl, q⟩ | ⟨rfl, q⟩
  · exact PySem.P.mul_str_none (by decide) (by decide) ⟨.str Str.empty, H, I.tok _, ⟨_, rfl⟩, q⟩
  · refine PySem.P.mul_str (by decide) (fun _ h => by simp at h) (fun _ h => by simp at h) ?_
    rw [if_neg (by decide), if_pos (by simp)]
    exact ⟨.str z, H, I, ⟨_, rfl⟩, q⟩
end Rm

set_option maxRecDepth 100000
set_option maxHeartbeats 4000000
namespace Rm
open PySem PySem.Spec L2
open PyProof.Rows hiding St

/-! ### enumerate(list, c) -/
def IteC (K : PySem.W.Frag) (c : Int) (a : Addr) : It where
  go := fun i H => ∃ (xs : List V) (x : V), SqL K H a xs ∧ xs[i]? = some x
  yld := fun i H v H' => ∃ T x, v = .ref T ∧ H T = none ∧ H' = upd H T (.tup [.int (c + ((i : Nat) : Int)), x]) ∧ ∀ xs, SqL K H a xs → xs[i]? = some x
  stop := fun i H => ∃ xs : List V, SqL K H a xs ∧ xs.length ≤ i
theorem turn_enumC {P : Program} {w : World} {K : PySem.W.Frag} {elts : List Expr} {kk : Nat} {tpos : Pos} {c : Int} (a e it : Addr) :
    Turn P w K (.Tuple elts kk tpos) (IteC K c a) [e, it] e (fun i h => (∃ old, IsEnum h e it (c + ((i : Nat) : Int)) old) ∧ h.IsListIter it a i ∧ e ≠ it ∧ e ≠ a ∧ it ≠ a) where
  mem := .head _
  obj := fun i h st b hb => by
    obtain ⟨⟨old, he⟩, ⟨o, ho, hc, hd⟩, _⟩ := st
    rcases List.mem_cons.mp hb with z | hb
    · subst z
      exact ⟨_, he, fun v q => nomatch q⟩
    · rw [List.mem_singleton.mp hb]
      exact ⟨o, ho, fun v q => by rw [hd] at q; cases q⟩
  keep := fun i h h' st k => by
    obtain ⟨⟨old, he⟩, hi, r⟩ := st
    exact ⟨⟨old, k e (.head _) _ he⟩, hi.at fun o q => k it (.tail _ (.head _)) o q, r⟩
  item := by
    intro X hP hw hK hc i pins s σ H E I hf st hg
    subst hP hw hK
    obtain ⟨⟨old, he⟩, hit, hne, hea, hia⟩ := st
    obtain ⟨xs, x, hq, hx⟩ := hg
    obtain ⟨its, rv, p, hz⟩ := I.list hq
    obtain ⟨u, hu, ru⟩ := rv.get hx
    have hu' : its.toArray[i]? = some u := by simpa using hu
    have hel : e < s.heap.objs.size := Heap.lt_size he
    have hil : it < s.heap.objs.size := by
      obtain ⟨_, q, _⟩ := hit
      exact Heap.lt_size q
    have lt : i < its.toArray.size := by
      rcases Nat.lt_or_ge i its.toArray.size with h | h
      · exact h
      · rw [Array.getElem?_eq_none h] at hu'
        cases hu'
    refine wpAny_pyNext_enum_itemC (Draws.list (A := X.A.in1) (show X.A.handled = none from I.ok.hd hc) it a (Ne.symm hia) its.toArray) he ⟨hit, p.isList⟩ lt hne (fun m => ?_) fun y h' tk hy ho hst hT hsz hk => ?_
    · rcases List.mem_cons.mp m with z | m
      · exact hne z
      · exact hea (List.mem_singleton.mp m)
    rw [hu'] at hy
    obtain rfl := Option.some.inj hy
    refine ⟨_, rfl, wpAny_letOwnedTupleGo_enum (s := { s with heap := h', toks := tk + 1 }) ho fun h'' he' sb => ?_⟩
    have hT2 : h''.get? s.heap.objs.size = some { cls := .type "tuple", data := .seq #[.int (c + (i : Int)) tk, u] } := (sb.2 _ (Nat.ne_of_gt hel)).trans hT
    have new : ObjOk X.prog X.w (upd H s.heap.objs.size (.tup [.int (c + ((i : Nat) : Int)), x])) h'' s.heap.objs.size (.tup [.int (c + ((i : Nat) : Int)), x]) :=
      ⟨show 2 ≤ sizeLine by decide, [.int (c + (i : Int)) tk, u], .cons ⟨_, rfl⟩ (.cons ru .nil), ⟨_, hT2, rfl, _, rfl⟩⟩
    have I1 : Inv X pins σ (upd H s.heap.objs.size (.tup [.int (c + ((i : Nat) : Int)), x])) { s with heap := h'', toks := tk + 1 } :=
      I.turnedNew (ch := [e, it]) (fun b ob hb q => by
        have nb : b ≠ e ∧ b ≠ it := ⟨fun z => hb (z ▸ .head _), fun z => hb (z ▸ .tail _ (.head _))⟩
        exact (sb.2 b nb.1).trans (hk b ob nb.1 nb.2 q)) hf (Nat.le_refl _) new
    refine ⟨.ref s.heap.objs.size, _, I1, rfl, ⟨_, x, rfl, I.hok.fresh (Nat.le_refl _), rfl, fun ys hy => by rw [I.list_inj hy hq]; exact hx⟩, ⟨⟨u, ?_⟩, hst.1.at fun o q => (sb.2 it (Ne.symm hne)).trans q, hne, hea, hia⟩, fun b hb => ?_⟩
    · have e1 : c + ((i + 1 : Nat) : Int) = c + (i : Int) + 1 := by omega
      rw [e1]
      exact he'
    · have hb' : b < s.heap.objs.size := by
        rcases List.mem_cons.mp hb with z | m
        · rw [z]; exact hel
        · rw [List.mem_singleton.mp m]; exact hil
      rw [upd_ne (Nat.ne_of_lt hb')]
      exact (hf b hb).1
  done := by
    intro X hP hw hK hc i pins s σ H E I hf st hg
    subst hP hw hK
    obtain ⟨⟨old, he⟩, hit, hne, hea, hia⟩ := st
    obtain ⟨xs, hq, hx⟩ := hg
    obtain ⟨its, rv, p, hz⟩ := I.list hq
    obtain ⟨f0, f1, f2, f3, f4, f5⟩ := hf it (.tail _ (.head _))
    have hl := rv.length
    refine wpAny_pyNext_enum_endD (P := fun _ _ => True) (n := i) (fp := [it, a]) (St := fun j h => j = i ∧ h.IsListIter it a i ∧ h.IsList a its.toArray) ⟨?_, ?_, ?_, ?_⟩ he ⟨rfl, hit, p.isList⟩ fun h' eb => ⟨rfl, I.turned (t' := s.toks) (fun b o hb q => eb b o hb q) f0 f1 f3 f4 f5⟩
    · exact fun _ _ st => let ⟨o, ho, _⟩ := st.2.1; ⟨o, ho⟩
    · exact fun _ _ _ st hk => ⟨st.1, st.2.1.at fun o e => hk it (.head _) o e, st.2.2.at fun o e => hk a (.tail _ (.head _)) o e⟩
    · exact fun j s Q E hi st hQ => absurd st.1 (Nat.ne_of_lt hi)
    · exact fun s Q E st hE => wpAny_nextOf_list_end (I.ok.hd hc) st.2.1 st.2.2 (by simp; omega) hE
  self := fun A i s Q E st h => let ⟨⟨_, he⟩, _⟩ := st; wpAny_pyIter_enum he h
def iEnumC (K : PySem.W.Frag) (c : Int) (ta : TA) : TI := fun σ H R => ta σ H fun vs H1 => ∃ a xs, vs = [.ref a, .int c] ∧ SqL K H1 a xs ∧ R (IteC K c a) H1
theorem pi_enumC {X : Cx} {c : Int} {e d : Expr} {ta : TA} {p pos tpos : Pos} {elts : List Expr} {kk : Nat} (hg : Gl X "enumerate") (hm : X.mg "enumerate" = none) (ha : PA X [e, d] ta) (c0 : -(2 ^ 63) ≤ c) (c1 : c < 2 ^ 63)
    (hs : starEach [e, d] X.env = (false, eval e X.env) :: starEach [d] X.env := by rfl) (hn : (backTo pos (starEach [d] X.env)).any (·.1) = false := by rfl) :
    PI X (.Tuple elts kk tpos) (.Call (.Name "enumerate" p) [e, d] [] pos) (iEnumC X.K c ta) := by
  refine ⟨fun pins s σ H R I h => ?_⟩
  refine Call_ (ld_blt I hg hm boot_enumerate (PyProof.Rows.callWith_type1 (thn (ha.run pos pins s σ H _ I h) fun us s1 ⟨vs, H1, I1, r1, q1⟩ => ?_) hs hn))
  obtain ⟨a, xs, ex, hq, q⟩ := q1
  subst ex
  obtain ⟨u1, u2, rfl, ra, rc⟩ := vals2 r1
  cases ra
  obtain ⟨t, rfl⟩ := rc
  obtain ⟨its, rv, p', hz⟩ := I1.list hq
  refine enum_begins (begins_list a its.toArray) p'.isList c0 c1 fun h' he hit hsz hk => wpAny_pyIter_enum he ?_
  have I2 : Inv X pins σ H1 { s1 with heap := h' } := I1.kept (t' := s1.toks) hk
  have al : a < s1.heap.objs.size := by
    obtain ⟨o, ho, _⟩ := p'.isList
    exact Heap.lt_size ho
  refine ⟨s1.heap.objs.size + 1, [s1.heap.objs.size + 1, s1.heap.objs.size], _, _, H1, rfl, I2, turn_enumC a (s1.heap.objs.size + 1) s1.heap.objs.size, ⟨⟨.none, by simpa using he⟩, ⟨_, hit, rfl, rfl⟩, Nat.succ_ne_self _, (Nat.ne_of_lt (Nat.lt_succ_of_lt al)).symm, (Nat.ne_of_lt al).symm⟩, fun b hb => ?_, q⟩
  have hle : s1.heap.objs.size ≤ b := by
    rcases List.mem_cons.mp hb with z | m
    · rw [z]; exact Nat.le_add_right _ _
    · rw [List.mem_singleton.mp m]; exact Nat.le_refl _
  exact I1.fpOk hle (I1.hok.fresh hle)
theorem walk_enumC {K : PySem.W.Frag} {a : Addr} {xs : List V} {c : Int} : Walk (IteC K c a) xs.length (fun H => SqL K H a xs) (YPair (fun i => some (.int (c + ((i : Nat) : Int)))) (fun i => xs[i]?)) := by
  refine ⟨fun i _ hi q => ⟨xs, xs[i], q, List.getElem?_eq_getElem hi⟩, fun _ q => ⟨xs, q, Nat.le_refl _⟩, fun i H v H' _ q y => ?_⟩
  obtain ⟨T, x, h1, h2, h3, h4⟩ := y
  exact ⟨T, _, x, h1, h2, h3, rfl, h4 xs q⟩
/-! ### str(x) of a number or a text -/
def wV : V → Option Str
  | .int i => some (Str.ofString (toString i))
  | .str z => some z
  | _ => none
def rStr : List V → Hp → VK → Prop := fun xs H Q => ∃ x z, xs = [x] ∧ wV x = some z ∧ (∀ i, x = .int i → i.natAbs.log2 < 1920) ∧ Q (.str z) H
theorem call_strIS {X : Cx} : CallR X (.type "str") rStr := by
  intro pins s σ H xs us Q I r h
  obtain ⟨x, z, rfl, e, b, q⟩ := h
  cases x with
  | int i =>
    cases e
    exact call_str_int pins s σ H _ us Q I r ⟨i, rfl, b i rfl, q⟩
  | str y =>
    cases e
    exact SkE.call_str_str pins s σ H _ us Q I r ⟨_, rfl, q⟩
  | _ => cases e
end Rm

set_option maxRecDepth 100000
set_option maxHeartbeats 4000000
namespace Rm
open PySem PySem.Spec L2
open PyProof.Rows hiding St

/-! ### numbers as texts -/
def sI (i : Int) : Str := Str.ofString (toString i)
theorem tl_sI (n : Nat) : (sI (n : Int)).cps.toList = TL.numL n := TL.tl_num n
theorem tl_sIneg {i : Int} (h : i < 0) : (sI i).cps.toList = 45 :: TL.numL i.natAbs := by
  have e2 := tl_sI i.natAbs
  unfold sI at e2 ⊢
  rw [signs_ofString] at e2 ⊢
  rw [toString_neg h, show (0 - i) = (i.natAbs : Int) by omega, String.toList_append, List.map_append, e2]
  rfl
def isDg (z : Str) : Bool := Txt.isascii z && (Txt.isdigit z && decide (z.length ≤ 30))
theorem dg128 : ∀ c : Fin 128, Unicode.isDigit c.val = (decide (48 ≤ c.val) && decide (c.val ≤ 57)) := by decide +kernel
theorem dg_iff {z : Str} : isDg z = true ↔ NumText.AllDigits z.cps.toList ∧ z.cps.toList ≠ [] ∧ z.length ≤ 30 := by
  unfold isDg Txt.isascii Txt.isdigit
  simp only [Bool.and_eq_true, decide_eq_true_eq, all_iff]
  constructor
  · rintro ⟨ha, ⟨hp, hd⟩, hl⟩
    refine ⟨fun c hc => ?_, fun e => ?_, hl⟩
    · have lt := ha c hc
      have h := dg128 ⟨c, lt⟩
      dsimp only at h
      rw [hd c hc] at h
      have h := h.symm
      simpa using h
    · have e2 : z.length = z.cps.toList.length := rfl
      rw [e] at e2
      have e3 : z.length = 0 := e2
      omega
  · rintro ⟨hd, hn, hl⟩
    have lt : ∀ c ∈ z.cps.toList, c < 128 := fun c hc => by
      have := hd c hc
      omega
    refine ⟨lt, ⟨?_, fun c hc => ?_⟩, hl⟩
    · have e2 : z.length = z.cps.toList.length := rfl
      have := List.length_pos_iff.mpr hn
      omega
    · have h := dg128 ⟨c, lt c hc⟩
      dsimp only at h
      rw [h]
      have := hd c hc
      simp [this]
theorem cut_hd (z : Str) : cutS z none (some (1 : Int)) = ⟨(z.cps.toList.take 1).toArray⟩ := by
  unfold cutS
  rw [show ((1 : Int)) = ((1 : Nat) : Int) from rfl, HT.sIx_nat, HT.sIx_none]
  have e : z.length = z.cps.toList.length := rfl
  congr 2
  rw [List.drop_zero, Nat.sub_zero]
  rcases Nat.lt_or_ge z.length 1 with h | h
  · have : z.cps.toList = [] := List.eq_nil_of_length_eq_zero (by omega)
    rw [this]
    simp
  · rw [Nat.min_eq_left h]
theorem cut_tl (z : Str) : cutS z (some (1 : Int)) none = ⟨(z.cps.toList.drop 1).toArray⟩ := by
  unfold cutS
  rw [show ((1 : Int)) = ((1 : Nat) : Int) from rfl, HT.sIx_nat, HT.sIx_none]
  have e : z.length = z.cps.toList.length := rfl
  congr 2
  rcases Nat.lt_or_ge z.length 1 with h | h
  · have : z.cps.toList = [] := List.eq_nil_of_length_eq_zero (by omega)
    rw [this]
    simp
  · rw [Nat.min_eq_left h, List.take_of_length_le (by rw [List.length_drop]; omega)]
/-- the digits of a word -/
def dgZ (w : Str) : Str := if cutS w none (some (1 : Int)) = "-" then cutS w (some (1 : Int)) none else w
theorem dgZ_neg {w : Str} {cs : List Nat} (h : w.cps.toList = 45 :: cs) : dgZ w = ⟨cs.toArray⟩ := by
  unfold dgZ
  rw [cut_hd, cut_tl, h]
  exact if_pos rfl
theorem dgZ_pos {w : Str} (h : ∀ cs, w.cps.toList ≠ 45 :: cs) : dgZ w = w := by
  unfold dgZ
  rw [cut_hd]
  refine if_neg fun e => ?_
  have e2 : w.cps.toList.take 1 = [45] := by
    have := congrArg (fun z : Str => z.cps.toList) e
    exact (by simpa using this : w.cps.toList.take 1 = (("-" : Str)).cps.toList)
  match hw : w.cps.toList with
  | [] => rw [hw] at e2; cases e2
  | c :: cs =>
    rw [hw] at e2
    have : c = 45 := by simpa using e2
    rw [this] at hw
    exact h cs hw
theorem numL_30 {n : Nat} (h : n < 10 ^ 30) : (TL.numL n).length ≤ 30 := TL.numL_len (by decide) h
theorem fold_lt : ∀ (cs : List Nat) (a : Nat), NumText.AllDigits cs → cs.foldl (fun acc c => acc * 10 + (c - 48)) a < (a + 1) * 10 ^ cs.length
  | [], a, _ => by simp
  | c :: cs, a, h => by
    have h2 := h c (.head _)
    have ih := fold_lt cs (a * 10 + (c - 48)) fun d hd => h d (.tail _ hd)
    rw [List.foldl_cons, List.length_cons, Nat.pow_succ]
    refine Nat.lt_of_lt_of_le ih ?_
    have e : (a + 1) * (10 ^ cs.length * 10) = (a * 10 + 10) * 10 ^ cs.length := by
      rw [Nat.mul_comm (10 ^ cs.length) 10, ← Nat.mul_assoc, Nat.add_mul a 1 10]
    rw [e]
    exact Nat.mul_le_mul_right _ (by omega)
theorem dv_lt {cs : List Nat} (h : NumText.AllDigits cs) : NumText.digitsVal cs < 10 ^ cs.length := by
  have z := fold_lt cs 0 h
  rw [Nat.zero_add, Nat.one_mul] at z
  exact z
theorem log_lt {n : Nat} (h : n < 10 ^ 30) : n.log2 < 100 := by
  by_cases e : n = 0
  · rw [e]; decide
  · exact (Nat.log2_lt e).2 (Nat.lt_trans h (by decide))
/-- a word whose digits are digits is a number's -/
theorem dg_int {w : Str} (h : isDg (dgZ w) = true) : ∃ v : Int, intText? w = some v ∧ v.natAbs < 10 ^ 30 ∧ w.length ≤ 31 := by
  obtain ⟨h1, h2, h3⟩ := dg_iff.mp h
  have lw : w.length = w.cps.toList.length := rfl
  by_cases hn : ∃ cs, w.cps.toList = 45 :: cs
  · obtain ⟨cs, e⟩ := hn
    rw [dgZ_neg e] at h1 h2 h3
    have e1 : (⟨cs.toArray⟩ : Str).cps.toList = cs := by simp
    rw [e1] at h1 h2
    have l3 : cs.length ≤ 30 := by
      have : (⟨cs.toArray⟩ : Str).length = cs.length := by
        show cs.toArray.size = _
        simp
      omega
    have lw2 : w.length ≤ 31 := by
      rw [lw, e, List.length_cons]
      omega
    refine ⟨_, intText_neg e h1 h2 (by omega), ?_, lw2⟩
    rw [Int.natAbs_neg, Int.natAbs_natCast]
    exact Nat.lt_of_lt_of_le (dv_lt h1) (Nat.pow_le_pow_right (by decide) l3)
  · have e : dgZ w = w := dgZ_pos fun cs q => hn ⟨cs, q⟩
    rw [e] at h1 h2 h3
    refine ⟨_, intText_digits h1 h2 (by omega), ?_, by omega⟩
    rw [Int.natAbs_natCast]
    exact Nat.lt_of_lt_of_le (dv_lt h1) (Nat.pow_le_pow_right (by decide) (by rw [← lw]; exact h3))
/-- the number that a word is -/
def numZ (w : Str) : Option Int := if isDg (dgZ w) = true then (match intText? w with
  | some v => if sI v = w then some v else none
  | none => none) else none
theorem sI_read {i : Int} (h : i.natAbs < 10 ^ 30) : numZ (sI i) = some i := by
  have hl := numL_30 h
  rcases Int.lt_or_le i 0 with n | p
  · have e := tl_sIneg n
    have d : isDg (dgZ (sI i)) = true := by
      rw [dgZ_neg e]
      refine dg_iff.mpr ⟨?_, ?_, ?_⟩
      · simpa using TL.numL_digits _
      · simpa using TL.numL_ne _
      · show (TL.numL i.natAbs).toArray.size ≤ 30
        simpa using hl
    unfold numZ
    rw [if_pos d, intText_neg e (TL.numL_digits _) (TL.numL_ne _) ?_]
    · dsimp only
      rw [TL.numL_val, show -((i.natAbs : Nat) : Int) = i by omega, if_pos rfl]
    · show (sI i).cps.toList.length ≤ 4300
      rw [e, List.length_cons]
      omega
  · obtain ⟨m, rfl⟩ := Int.eq_ofNat_of_zero_le p
    rw [Int.natAbs_natCast] at h hl
    have e := tl_sI m
    have d0 : dgZ (sI (m : Int)) = sI (m : Int) := dgZ_pos fun cs q => by
      rw [e] at q
      have := TL.numL_digits m 45 (by rw [q]; exact .head _)
      omega
    have l2 : (sI (m : Int)).length ≤ 30 := by
      show (sI (m : Int)).cps.toList.length ≤ 30
      rw [e]
      exact hl
    have d : isDg (dgZ (sI (m : Int))) = true := by
      rw [d0]
      refine dg_iff.mpr ⟨?_, ?_, l2⟩
      · rw [e]; exact TL.numL_digits _
      · rw [e]; exact TL.numL_ne _
    unfold numZ
    rw [if_pos d]
    have e3 : intText? (sI (m : Int)) = some (m : Int) := TL.int_num (by omega)
    rw [e3]
    exact if_pos rfl
theorem sI_free {i : Int} {c : Nat} (h : c < 45 ∨ 57 < c) : c ∉ (sI i).cps.toList := by
  rcases Int.lt_or_le i 0 with n | p
  · rw [tl_sIneg n]
    intro m
    rcases List.mem_cons.mp m with e | m
    · omega
    · exact TL.numL_free (by omega) m
  · obtain ⟨m, rfl⟩ := Int.eq_ofNat_of_zero_le p
    rw [tl_sI]
    exact TL.numL_free (by omega)
theorem sI_len {i : Int} (h : i.natAbs < 10 ^ 30) : 1 ≤ (sI i).length ∧ (sI i).length ≤ 31 := by
  have hl := numL_30 h
  rcases Int.lt_or_le i 0 with n | p
  · have e : (sI i).length = (45 :: TL.numL i.natAbs).length := by
      show (sI i).cps.toList.length = _
      rw [tl_sIneg n]
    rw [e, List.length_cons]
    omega
  · obtain ⟨m, rfl⟩ := Int.eq_ofNat_of_zero_le p
    rw [Int.natAbs_natCast] at hl
    have e : (sI (m : Int)).length = (TL.numL m).length := by
      show (sI (m : Int)).cps.toList.length = _
      rw [tl_sI]
    have := List.length_pos_iff.mpr (TL.numL_ne m)
    omega
end Rm

set_option maxRecDepth 100000
set_option maxHeartbeats 4000000
namespace Rm
open PySem PySem.Spec L2
open PyProof.Rows hiding St

/-! ### an operation's words -/
def wD : PyData → Str
  | .str z => z
  | .int i => sI i
  | _ => ""
def nD (w : Str) : PyData := match numZ w with
  | some v => .int v
  | none => .none
/-- what is read of the word at a place -/
def rdW (i : Nat) (w : Str) : PyData := if i = 1 ∨ i = 4 then nD w else .str w
def fndF : Nat → List Str → List PyData
  | _, [] => []
  | i, w :: ws => rdW i w :: fndF (i + 1) ws
def fnd (ws : List Str) : List PyData := fndF 0 ws
theorem fndF_len : ∀ (i : Nat) (ws : List Str), (fndF i ws).length = ws.length
  | _, [] => rfl
  | i, w :: ws => congrArg Nat.succ (fndF_len (i + 1) ws)
def lnT (ds : List PyData) : Str := Txt.join " " (ds.map wD)
def hisT (ops : List (List PyData)) : Str := Txt.join "\n" (ops.map lnT)

/-- a word that is none of the signs between -/
structure Wk1 (z : Str) : Prop where
  l1 : 1 ≤ z.length
  l31 : z.length ≤ 31
  sp : 32 ∉ z.cps.toList
  nl : 10 ∉ z.cps.toList
  sm : asA z = true
def wkB (z : Str) : Bool := decide (1 ≤ z.length) && (decide (z.length ≤ 31) && (z.cps.toList.all fun c => decide (c ≠ 32) && (decide (c ≠ 10) && decide (c < 128))))
theorem Wk1.of {z : Str} (h : wkB z = true) : Wk1 z := by
  unfold wkB at h
  simp only [Bool.and_eq_true, decide_eq_true_eq, List.all_eq_true] at h
  obtain ⟨h1, h2, h3⟩ := h
  refine ⟨h1, h2, fun m => (h3 _ m).1 rfl, fun m => (h3 _ m).2.1 rfl, ?_⟩
  unfold asA
  exact List.all_eq_true.mpr fun c hc => decide_eq_true (h3 c hc).2.2
theorem wk_name {z : Str} (h : lnZ z = true) : Wk1 z := by
  unfold lnZ at h
  simp only [Bool.and_eq_true, decide_eq_true_eq, List.all_eq_true] at h
  obtain ⟨h1, h2, h3⟩ := h
  refine ⟨h1, by omega, fun m => ?_, fun m => ?_, ?_⟩
  · have := (h3 _ m).1
    omega
  · have := (h3 _ m).1
    omega
  · unfold asA
    refine List.all_eq_true.mpr fun c hc => decide_eq_true ?_
    have := (h3 c hc).2
    exact Nat.lt_of_le_of_lt this (by decide)
theorem wk_num {i : Int} (h : i.natAbs < 10 ^ 30) : Wk1 (sI i) := by
  obtain ⟨h1, h2⟩ := sI_len h
  refine ⟨h1, h2, sI_free (by decide), sI_free (by decide), ?_⟩
  unfold asA
  refine List.all_eq_true.mpr fun c hc => decide_eq_true ?_
  by_cases l : c < 45 ∨ 57 < c
  · exact absurd hc (sI_free l)
  · exact Nat.lt_of_le_of_lt (show c ≤ 57 by omega) (by decide)
theorem wk_aln {z : Str} (h : z ∈ ALN) : Wk1 z := by
  have a : ALN.all wkB = true := by decide +kernel
  exact Wk1.of (List.all_eq_true.mp a z h)
theorem wk_wnr {z : Str} (h : z ∈ WNR) : Wk1 z := by
  have a : WNR.all wkB = true := by decide +kernel
  exact Wk1.of (List.all_eq_true.mp a z h)
theorem wk_mode {z : Str} (h : (rkS z).isSome = true) : Wk1 z := by
  unfold rkS at h
  split at h
  · rename_i e; rw [e]; exact Wk1.of (by decide +kernel)
  split at h
  · rename_i e; rw [e]; exact Wk1.of (by decide +kernel)
  split at h
  · rename_i e; rw [e]; exact Wk1.of (by decide +kernel)
  split at h
  · rename_i e; rw [e]; exact Wk1.of (by decide +kernel)
  · cases h
/-! ### the forms -/
inductive Shp : List PyData → Prop
  | one {z : Str} (h : Wk1 z) : Shp [.str z]
  | two {z : Str} {i : Int} (h : Wk1 z) (hi : i.natAbs < 10 ^ 30) : Shp [.str z, .int i]
  | lock {z n m : Str} {i : Int} (h : Wk1 z) (hi : i.natAbs < 10 ^ 30) (hn : Wk1 n) (hm : Wk1 m) : Shp [.str z, .int i, .str n, .str m]
  | chg {z n m : Str} {i v : Int} (h : Wk1 z) (hi : i.natAbs < 10 ^ 30) (hn : Wk1 n) (hm : Wk1 m) (hv : v.natAbs < 10 ^ 30) : Shp [.str z, .int i, .str n, .str m, .int v]
theorem isW_int {lo hi : Int} {d : PyData} (h : isW lo hi d = true) : ∃ i, d = .int i ∧ lo ≤ i ∧ i ≤ hi := by
  cases d with
  | int i =>
    have h : (decide (lo ≤ i) && decide (i ≤ hi)) = true := h
    simp only [Bool.and_eq_true, decide_eq_true_eq] at h
    exact ⟨i, rfl, h⟩
  | _ => cases h
theorem nmD_str {d : PyData} (h : nmD d = true) : ∃ z, d = .str z ∧ Wk1 z := by
  cases d with
  | str z => exact ⟨z, rfl, wk_name h⟩
  | _ => cases h
theorem rkm_str {d : PyData} (h : (rkD d).isSome = true) : ∃ z, d = .str z ∧ Wk1 z := by
  cases d with
  | str z => exact ⟨z, rfl, wk_mode h⟩
  | _ => cases h
theorem ch_str {d : PyData} (h : isCh d = true) : ∃ z, d = .str z ∧ Wk1 z := by
  cases d with
  | str z =>
    have h : (decide (z = "change") || decide (z = "replace")) = true := h
    simp only [Bool.or_eq_true, decide_eq_true_eq] at h
    rcases h with e | e
    · rw [e]; exact ⟨_, rfl, Wk1.of (by decide +kernel)⟩
    · rw [e]; exact ⟨_, rfl, Wk1.of (by decide +kernel)⟩
  | _ => cases h
theorem shpL {z : Str} {i : Int} {r : List PyData} (hi : i.natAbs < 10 ^ 30) (h : opL z r = true) : Shp (.str z :: .int i :: r) := by
  unfold opL at h
  by_cases hz : z ∈ WNR
  · rw [if_pos hz] at h
    match r, h with
    | [], _ => exact .two (wk_wnr hz) hi
  rw [if_neg hz] at h
  by_cases hz : z = "lock"
  · rw [if_pos hz] at h
    subst hz
    match r, h with
    | [n, m], h =>
      have h : (nmD n && (rkD m).isSome) = true := h
      rw [Bool.and_eq_true] at h
      obtain ⟨n', rfl, hn⟩ := nmD_str h.1
      obtain ⟨m', rfl, hm⟩ := rkm_str h.2
      exact .lock (Wk1.of (by decide +kernel)) hi hn hm
  rw [if_neg hz] at h
  by_cases hz : z = "change"
  · rw [if_pos hz] at h
    subst hz
    match r, h with
    | [n, m, v], h =>
      have h : (nmD n && (isCh m && isW vlo vhi v)) = true := h
      rw [Bool.and_eq_true, Bool.and_eq_true] at h
      obtain ⟨n', rfl, hn⟩ := nmD_str h.1
      obtain ⟨m', rfl, hm⟩ := ch_str h.2.1
      obtain ⟨v, rfl, v1, v2⟩ := isW_int h.2.2
      have e3 : vlo = -999999999999999999999999999999 := by decide
      have e4 : vhi = 999999999999999999999999999999 := by decide
      exact .chg (Wk1.of (by decide +kernel)) hi hn hm (by omega)
  rw [if_neg hz] at h
  cases h
theorem shp_of {ds : List PyData} (h : opD (.tuple ds) = true) : Shp ds := by
  match ds, h with
  | [], h => cases h
  | .str z :: r, h =>
    have h1 : opR z r = true := h
    clear h
    unfold opR at h1
    by_cases hz : z ∈ ALN
    · rw [if_pos hz] at h1
      match r, h1 with
      | [], _ => exact .one (wk_aln hz)
    rw [if_neg hz] at h1
    by_cases hz : z = "horizon"
    · rw [if_pos hz] at h1
      subst hz
      match r, h1 with
      | [x], h2 =>
        obtain ⟨i, rfl, h3, h4⟩ := isW_int h2
        exact .two (Wk1.of (by decide +kernel)) (by omega)
    rw [if_neg hz] at h1
    match r, h1 with
    | x :: r, h2 =>
      have h3 : (isW 1 1000000 x && opL z r) = true := h2
      rw [Bool.and_eq_true] at h3
      obtain ⟨i, rfl, h4, h5⟩ := isW_int h3.1
      exact shpL (by omega) h3.2
/-- a leaf -/
structure Lf (d : PyData) : Prop where
  wk : Wk1 (wD d)
  v : (∃ z, d = .str z) ∨ ∃ i : Int, d = .int i ∧ i.natAbs < 10 ^ 30
theorem shp_lf {ds : List PyData} (h : Shp ds) : ∀ d ∈ ds, Lf d := by
  have S : ∀ {z : Str}, Wk1 z → Lf (.str z) := fun w => ⟨w, .inl ⟨_, rfl⟩⟩
  have I : ∀ {i : Int}, i.natAbs < 10 ^ 30 → Lf (.int i) := fun w => ⟨wk_num w, .inr ⟨_, rfl, w⟩⟩
  intro d hd
  cases h with
  | one h =>
    rw [List.mem_singleton.mp hd]; exact S h
  | two h hi =>
    simp only [List.mem_cons, List.not_mem_nil, or_false] at hd
    rcases hd with rfl | rfl
    · exact S h
    · exact I hi
  | lock h hi hn hm =>
    simp only [List.mem_cons, List.not_mem_nil, or_false] at hd
    rcases hd with rfl | rfl | rfl | rfl
    · exact S h
    · exact I hi
    · exact S hn
    · exact S hm
  | chg h hi hn hm hv =>
    simp only [List.mem_cons, List.not_mem_nil, or_false] at hd
    rcases hd with rfl | rfl | rfl | rfl | rfl
    · exact S h
    · exact I hi
    · exact S hn
    · exact S hm
    · exact I hv
theorem shp_len {ds : List PyData} (h : Shp ds) : 1 ≤ ds.length ∧ ds.length ≤ 5 := by
  cases h <;> simp
theorem nD_sI {i : Int} (h : i.natAbs < 10 ^ 30) : nD (sI i) = .int i := by
  unfold nD
  rw [sI_read h]
theorem shp_back {ds : List PyData} (h : Shp ds) : fnd (ds.map wD) = ds := by
  cases h with
  | one h => rfl
  | two h hi =>
    show [PyData.str _, nD (sI _)] = _
    rw [nD_sI hi]
    rfl
  | lock h hi hn hm =>
    show [PyData.str _, nD (sI _), .str _, .str _] = _
    rw [nD_sI hi]
    rfl
  | chg h hi hn hm hv =>
    show [PyData.str _, nD (sI _), .str _, .str _, nD (sI _)] = _
    rw [nD_sI hi, nD_sI hv]
    rfl
/-! ### joined texts -/
theorem join_mem {y : Str} {c : Nat} : ∀ {ps : List Str}, c ∈ (Txt.join y ps).cps.toList → c ∈ y.cps.toList ∨ ∃ p ∈ ps, c ∈ p.cps.toList := by
  intro ps h
  rw [TL.join_eq] at h
  have h : c ∈ TL.tl (Str.join y ps) := h
  rw [TL.tl_join] at h
  have g : ∀ (l : List Str), c ∈ TL.joinL (TL.tl y) (l.map TL.tl) → c ∈ y.cps.toList ∨ ∃ p ∈ l, c ∈ p.cps.toList := by
    intro l
    induction l with
    | nil => intro h; cases h
    | cons p l ih =>
      intro h
      cases l with
      | nil => exact .inr ⟨p, .head _, h⟩
      | cons q r =>
        have h : c ∈ TL.tl p ++ (TL.tl y ++ TL.joinL (TL.tl y) ((q :: r).map TL.tl)) := h
        rcases List.mem_append.mp h with h | h
        · exact .inr ⟨p, .head _, h⟩
        rcases List.mem_append.mp h with h | h
        · exact .inl h
        · rcases ih h with h | ⟨p', h1, h2⟩
          · exact .inl h
          · exact .inr ⟨p', .tail _ h1, h2⟩
  exact g ps h
theorem join_len {y : Str} {n : Nat} : ∀ {ps : List Str}, (∀ p ∈ ps, p.length ≤ n) → (Txt.join y ps).length ≤ ps.length * (n + y.length) := by
  intro ps h
  rw [TL.join_eq]
  induction ps with
  | nil => exact Nat.zero_le _
  | cons p l ih =>
    cases l with
    | nil =>
      show p.length ≤ _
      have := h p (.head _)
      simp
      omega
    | cons q r =>
      have e : Str.join y (p :: q :: r) = p ++ y ++ Str.join y (q :: r) := rfl
      rw [e, len_app, len_app]
      have := ih fun x hx => h x (.tail _ hx)
      have h1 := h p (.head _)
      rw [List.length_cons, Nat.add_mul, Nat.one_mul]
      omega
theorem join_len1 {y : Str} {p : Str} {l : List Str} : p.length ≤ (Txt.join y (p :: l)).length := by
  rw [TL.join_eq]
  cases l with
  | nil => exact Nat.le_refl _
  | cons q r =>
    have e : Str.join y (p :: q :: r) = p ++ y ++ Str.join y (q :: r) := rfl
    rw [e, len_app, len_app]
    omega
theorem sum_le {n : Nat} : ∀ {ps : List Str}, (∀ p ∈ ps, p.length ≤ n) → (ps.map (·.length)).sum ≤ ps.length * n
  | [], _ => Nat.zero_le _
  | p :: ps, h => by
    rw [List.map_cons, List.sum_cons, List.length_cons, Nat.add_mul, Nat.one_mul]
    have := h p (.head _)
    have := sum_le fun x hx => h x (.tail _ hx)
    omega
theorem sp_sep : ∃ S, TL.tl (" " : Str) = 32 :: S := ⟨[], by decide +kernel⟩
theorem nl_sep : ∃ S, TL.tl ("\n" : Str) = 10 :: S := ⟨[], by decide +kernel⟩
theorem sp_of {c : Nat} (h : c ∈ (" " : Str).cps.toList) : c = 32 := by
  have e : (" " : Str).cps.toList = [32] := by decide +kernel
  rw [e] at h
  exact List.mem_singleton.mp h
theorem wl_le {ds : List PyData} (h : Shp ds) : ∀ w ∈ ds.map wD, w.length ≤ 31 := fun w hw => by
  obtain ⟨d, hd, rfl⟩ := List.mem_map.mp hw
  exact (shp_lf h d hd).wk.l31
theorem lnT_len {ds : List PyData} (h : Shp ds) : 1 ≤ (lnT ds).length ∧ (lnT ds).length ≤ 160 := by
  have l := join_len (y := " ") (wl_le h)
  have h5 := shp_len h
  have e1 : (" " : Str).length = 1 := by decide +kernel
  rw [List.length_map, e1] at l
  refine ⟨?_, ?_⟩
  · cases ds with
    | nil => cases h
    | cons d ds =>
      have := (shp_lf h d (.head _)).wk.l1
      exact Nat.le_trans this join_len1
  · have : ds.length * (31 + 1) ≤ 5 * 32 := Nat.mul_le_mul_right _ h5.2
    exact Nat.le_trans l this
theorem lnT_nl {ds : List PyData} (h : Shp ds) : 10 ∉ (lnT ds).cps.toList := fun m => by
  rcases join_mem m with m | ⟨p, hp, m⟩
  · have := sp_of m
    omega
  · obtain ⟨d, hd, rfl⟩ := List.mem_map.mp hp
    exact (shp_lf h d hd).wk.nl m
theorem lnT_split {ds : List PyData} (h : Shp ds) : Txt.split (lnT ds) " " = ds.map wD := by
  obtain ⟨S, e⟩ := sp_sep
  refine TL.split_join e (by decide +kernel) ?_ fun p hp => ?_
  · intro e
    have := List.map_eq_nil_iff.mp e
    subst this
    cases h
  · obtain ⟨d, hd, rfl⟩ := List.mem_map.mp hp
    exact (shp_lf h d hd).wk.sp
theorem hisT_len {ops : List (List PyData)} (h : ∀ ds ∈ ops, Shp ds) : (hisT ops).length ≤ ops.length * 161 := by
  have e1 : ("\n" : Str).length = 1 := by decide +kernel
  have l := join_len (y := "\n") (n := 160) (ps := ops.map lnT) fun w hw => by
    obtain ⟨d, hd, rfl⟩ := List.mem_map.mp hw
    exact (lnT_len (h d hd)).2
  rw [List.length_map, e1] at l
  exact l
/-- the lines of a text -/
def linesZ (z : Str) : List Str := if 0 < z.length then Txt.split z "\n" else []
theorem hisT_lines {ops : List (List PyData)} (h : ∀ ds ∈ ops, Shp ds) : linesZ (hisT ops) = ops.map lnT := by
  unfold linesZ
  cases ops with
  | nil => exact if_neg (by decide +kernel)
  | cons ds ops =>
    have h1 : 0 < (hisT (ds :: ops)).length := Nat.lt_of_lt_of_le (lnT_len (h ds (.head _))).1 join_len1
    rw [if_pos h1]
    obtain ⟨S, e⟩ := nl_sep
    refine TL.split_join e (by decide +kernel) (by simp) fun p hp => ?_
    obtain ⟨d, hd, rfl⟩ := List.mem_map.mp hp
    exact lnT_nl (h d hd)
theorem hisT_inj {o p : List (List PyData)} (h : ∀ ds ∈ o, Shp ds) (h' : ∀ ds ∈ p, Shp ds) (e : hisT o = hisT p) : o = p := by
  have l := hisT_lines h
  rw [e, hisT_lines h'] at l
  have g : ∀ (o : List (List PyData)), (∀ ds ∈ o, Shp ds) → (o.map lnT).map (fun z => fnd (Txt.split z " ")) = o := by
    intro o
    induction o with
    | nil => intro _; rfl
    | cons d o ih =>
      intro h
      rw [List.map_cons, List.map_cons, ih fun x hx => h x (.tail _ hx), lnT_split (h d (.head _)), shp_back (h d (.head _))]
  have := congrArg (List.map fun z => fnd (Txt.split z " ")) l
  rw [g p h', g o h] at this
  exact this.symm
/-! ### small enough -/
theorem sv_lf {d : PyData} (h : Lf d) : Sv d ∧ d.weight ≤ 100 ∧ d.depth = 0 := by
  obtain ⟨wk, z⟩ := h
  rcases z with ⟨z, rfl⟩ | ⟨i, rfl, hi⟩
  · have h31 := wk.l31
    have e : z.cps.size = z.length := rfl
    refine ⟨⟨rfl, ?_, ?_, ?_⟩, ?_, ?_⟩
    · exact asA_smC wk.sm
    · simp only [PyData.weight]
      have : (wD (.str z)).length = z.length := rfl
      omega
    · simp [PyData.depth]
    · simp only [PyData.weight]
      have : (wD (.str z)).length = z.length := rfl
      omega
    · simp [PyData.depth]
  · have hl := log_lt hi
    refine ⟨⟨?_, ?_, ?_, ?_⟩, ?_, ?_⟩
    · simp only [PyData.showable]
      exact decide_eq_true (by omega)
    · simp only [PyData.leavesShort]
      refine decide_eq_true ?_
      have := (sI_len hi).2
      have e : (PyData.shown (.int i)) = sI i := by
        simp only [PyData.shown]
        rfl
      rw [e]
      omega
    · simp only [PyData.weight]
      split <;> omega
    · simp [PyData.depth]
    · simp only [PyData.weight]
      split <;> omega
    · simp [PyData.depth]
theorem lf_all : ∀ {ds : List PyData}, (∀ d ∈ ds, Lf d) → PyData.weightAll ds ≤ 101 * ds.length ∧ PyData.depthAll ds = 0
  | [], _ => ⟨by simp [PyData.weightAll], by simp [PyData.depthAll]⟩
  | d :: ds, h => by
    obtain ⟨_, a, b⟩ := sv_lf (h d (.head _))
    obtain ⟨c, e⟩ := lf_all (ds := ds) fun x m => h x (.tail _ m)
    simp only [PyData.weightAll, PyData.depthAll, List.length_cons]
    omega
theorem sv_op {ds : List PyData} (h : Shp ds) : Sv (.tuple ds) := by
  have l := shp_lf h
  obtain ⟨a, b, c, e⟩ := sv_dep (ds := ds) fun d hd => (sv_lf (l d hd)).1
  obtain ⟨w, dp⟩ := lf_all l
  have := (shp_len h).2
  refine ⟨by simpa [PyData.showable] using a, by simpa [PyData.leavesShort] using b, ?_, ?_⟩
  · simp only [PyData.weight]; omega
  · simp only [PyData.depth]; omega
theorem sm_his {ops : List (List PyData)} (h : ∀ ds ∈ ops, Shp ds) (hl : ops.length ≤ 60) : Sm (.tuple (ops.map .tuple)) := by
  obtain ⟨a, b, c, e⟩ := sv_dep (ds := ops.map .tuple) fun d hd => by
    obtain ⟨o, ho, rfl⟩ := List.mem_map.mp hd
    exact sv_op (h o ho)
  rw [List.length_map] at c
  refine ⟨by simpa [PyData.showable] using a, by simpa [PyData.leavesShort] using b, ?_, ?_⟩
  · simp only [PyData.weight]; omega
  · simp only [PyData.depth]; omega
theorem as_ok {z : Str} (h : asA z = true) : PyData.strOk z = true := by
  unfold asA at h
  unfold PyData.strOk
  rw [← Array.all_toList, List.all_eq_true]
  intro c hc
  have := of_decide_eq_true (List.all_eq_true.mp h c hc)
  exact decide_eq_true (Nat.lt_trans this (by decide))
theorem as_hisT {ops : List (List PyData)} (h : ∀ ds ∈ ops, Shp ds) : asA (hisT ops) = true := by
  unfold asA
  refine List.all_eq_true.mpr fun c hc => decide_eq_true ?_
  have e1 : ∀ c ∈ ("\n" : Str).cps.toList, c < 128 := by decide +kernel
  have e2 : ∀ c ∈ (" " : Str).cps.toList, c < 128 := by decide +kernel
  rcases join_mem hc with m | ⟨p, hp, m⟩
  · exact e1 c m
  · obtain ⟨ds, hd, rfl⟩ := List.mem_map.mp hp
    rcases join_mem m with m | ⟨p, hp, m⟩
    · exact e2 c m
    · obtain ⟨d, hd2, rfl⟩ := List.mem_map.mp hp
      have s := (shp_lf (h ds hd) d hd2).wk.sm
      unfold asA at s
      exact of_decide_eq_true (List.all_eq_true.mp s c m)
theorem sm_text {z : Str} (h : asA z = true) (hl : z.length ≤ 100000) : Sm (.str z) := by
  have e : z.cps.size = z.length := rfl
  refine ⟨rfl, asA_smC h, ?_, ?_⟩
  · simp only [PyData.weight]; omega
  · simp [PyData.depth]
theorem lay_all : ∀ {ds : List PyData}, (∀ d ∈ ds, Lf d) → PyData.canLayAll0 ds = true
  | [], _ => by simp [PyData.canLayAll0]
  | d :: ds, h => by
    have e := lay_all (ds := ds) fun x m => h x (.tail _ m)
    have l := h d (.head _)
    rcases l.v with ⟨z, rfl⟩ | ⟨i, rfl, _⟩
    · simp only [PyData.canLayAll0, PyData.canLay0, e, Bool.and_true]
      exact as_ok l.wk.sm
    · simp only [PyData.canLayAll0, PyData.canLay0, e, Bool.and_true]
theorem lay_ops : ∀ {ops : List (List PyData)}, (∀ ds ∈ ops, Shp ds) → PyData.canLayAll0 (ops.map .tuple) = true ∧ PyData.depthAll (ops.map .tuple) ≤ 5
  | [], _ => by simp [PyData.canLayAll0, PyData.depthAll]
  | d :: ds, h => by
    obtain ⟨e1, e2⟩ := lay_ops (ops := ds) fun x m => h x (.tail _ m)
    have l := shp_lf (h d (.head _))
    obtain ⟨_, dp⟩ := lf_all l
    simp only [List.map_cons, PyData.canLayAll0, PyData.canLay0, e1, lay_all l, PyData.depthAll, PyData.depth, dp, Bool.and_true, true_and]
    omega
theorem shaped_his {ops : List (List PyData)} (h : ∀ ds ∈ ops, Shp ds) : SeqAt.shaped (.tuple (ops.map .tuple)) = true := by
  obtain ⟨e1, e2⟩ := lay_ops h
  unfold SeqAt.shaped
  rw [Bool.and_eq_true]
  refine ⟨by simpa only [PyData.canLay0] using e1, decide_eq_true ?_⟩
  simp only [PyData.depth]
  omega
end Rm

set_option maxRecDepth 100000
set_option maxHeartbeats 4000000
namespace Rm
open PySem PySem.Spec L2
open PyProof.Rows hiding St

/-! ### join, with the frame named -/
def rJoin (K : PySem.W.Frag) : V → List V → Hp → VK → Prop := fun x vs H Q => ∃ (sep : Str) (l : Addr) (zs : List Str), x = .str sep ∧ vs = [.ref l] ∧ (SqL K H l (zs.map V.str) ∨ SqT K H l (zs.map V.str)) ∧
  (zs.map (·.length)).sum + zs.length * sep.length ≤ 16777216 ∧ Q (.str (Txt.join sep zs)) H
theorem mt_joinK {X : Cx} : MtR X "str.join" (rJoin X.K) := mt_join
/-! ### data without dicts, as the deep == reads it -/
mutual
theorem dp_of {K : PySem.W.Frag} {H : Hp} : ∀ {d : PyData} {v : V}, d.canLay0 = true → Dx K H v d → Dp K H v d
  | .none, _, _, .non => .non
  | .bool _, _, _, .bl b => .bl b
  | .int _, _, _, .int i => .int i
  | .str _, _, _, .str z => .str z
  | .list _, _, h, .lst hs ha => .lst hs (dpAll_of (by simpa only [PyData.canLay0] using h) ha)
  | .tuple _, _, h, .tup hs ha => .tup hs (dpAll_of (by simpa only [PyData.canLay0] using h) ha)
  | .dict _, _, h, _ => by simp [PyData.canLay0] at h
theorem dpAll_of {K : PySem.W.Frag} {H : Hp} : ∀ {ds : List PyData} {vs : List V}, PyData.canLayAll0 ds = true → DxAll K H vs ds → DpAll K H vs ds
  | [], _, _, .nil => .nil
  | _ :: _, _, h, .cons hx ha => by
    simp only [PyData.canLayAll0, Bool.and_eq_true] at h
    exact .cons (dp_of h.1 hx) (dpAll_of h.2 ha)
end
theorem dp_his {K : PySem.W.Frag} {H : Hp} {x : V} {ops : List (List PyData)} (h : ∀ ds ∈ ops, Shp ds) (hx : Dx K H x (.tuple (ops.map .tuple))) : Dp K H x (.tuple (ops.map .tuple)) :=
  dp_of (by simpa only [PyData.canLay0] using (lay_ops h).1) hx
theorem eqv_his {ops : List (List PyData)} (h : ∀ ds ∈ ops, Shp ds) : PyData.eqv (.tuple (ops.map .tuple)) (.tuple (ops.map .tuple)) = true :=
  SeqAt.eqv_refl _ (by simpa only [PyData.canLay0] using (lay_ops h).1)
/-! ### histories stay where tuples stay -/
def TupK (H H' : Hp) : Prop := ∀ b xs, Rd H b (.tup xs) → Rd H' b (.tup xs)
theorem TupK.of {H H' : Hp} (s : Same H H') : TupK H H' := fun b xs h => SameR.of s b _ h
theorem TupK.trans {H H' H2 : Hp} (a : TupK H H') (b : TupK H' H2) : TupK H H2 := fun x xs h => b x xs (a x xs h)
theorem TupK.put {H : Hp} {q : Addr} {o u : HO} (hq : H q = some u) (h1 : ∀ xs, u ≠ .tup xs) (h2 : ∀ o' w, u ≠ .frz o' w) : TupK H (upd H q o) := fun b xs h => by
  have ne : b ≠ q := fun e => by
    rw [e] at h
    rcases h with h | ⟨o', h⟩
    · rw [hq] at h; exact h1 xs (Option.some.inj h)
    · rw [hq] at h; exact h2 o' _ (Option.some.inj h)
  rcases h with h | ⟨o', h⟩
  · exact .inl ((upd_ne ne).trans h)
  · exact .inr ⟨o', (upd_ne ne).trans h⟩
theorem TupK.nxt {H H' : Hp} {t : Addr} {o : HO} (ht : H t = some o) (ho : IsTape o) (n : Nxt t H H') : TupK H H' := fun b xs h => by
  obtain ⟨dg, mx, rfl, _⟩ := ho
  have ne : b ≠ t := fun e => by
    rw [e] at h
    rcases h with h | ⟨o', h⟩
    · rw [ht] at h; cases h
    · rw [ht] at h; cases h
  rcases h with h | ⟨o', h⟩
  · exact .inl (n.keep b _ h ne)
  · exact .inr ⟨o', n.keep b _ h ne⟩
theorem lf_dxa {K : PySem.W.Frag} {H H' : Hp} : ∀ {xs : List V} {ds : List PyData}, (∀ d ∈ ds, Lf d) → DxAll K H xs ds → DxAll K H' xs ds
  | _, _, _, .nil => .nil
  | _, _, h, .cons hx ha => by
    refine .cons ?_ (lf_dxa (fun d hd => h d (.tail _ hd)) ha)
    rcases (h _ (.head _)).v with ⟨z, rfl⟩ | ⟨i, rfl, _⟩
    · cases hx
      exact .str _
    · cases hx
      exact .int _
theorem his_all {K : PySem.W.Frag} {H H' : Hp} (k : TupK H H') : ∀ {ops : List (List PyData)} {vs : List V}, (∀ ds ∈ ops, Shp ds) → DxAll K H vs (ops.map .tuple) → DxAll K H' vs (ops.map .tuple)
  | [], _, _, .nil => .nil
  | ds :: ops, _, h, .cons hx ha => by
    refine .cons ?_ (his_all k (fun d hd => h d (.tail _ hd)) ha)
    cases hx with
    | tup hs hl => exact .tup (hs.imp (k _ _) id) (lf_dxa (shp_lf (h ds (.head _))) hl)
theorem his_keep {K : PySem.W.Frag} {H H' : Hp} (k : TupK H H') {ops : List (List PyData)} {x : V} (h : ∀ ds ∈ ops, Shp ds) (hx : Dx K H x (.tuple (ops.map .tuple))) : Dx K H' x (.tuple (ops.map .tuple)) := by
  cases hx with
  | tup hs ha => exact .tup (hs.imp (k _ _) id) (his_all k h ha)
end Rm

set_option maxRecDepth 100000
set_option maxHeartbeats 4000000
namespace Rm
open PySem PySem.Spec L2
open PyProof.Rows hiding St

/-! ### texts cut at a sign -/
def tot (ys : List Str) : Nat := (ys.map fun y => y.length + 1).sum
theorem tot_cons (y : Str) (ys : List Str) : tot (y :: ys) = y.length + 1 + tot ys := by
  unfold tot
  rw [List.map_cons, List.sum_cons]
theorem tot_app (xs ys : List Str) : tot (xs ++ ys) = tot xs + tot ys := by
  unfold tot
  rw [List.map_append, List.sum_append]
theorem tot_mem {y : Str} : ∀ {ys : List Str}, y ∈ ys → y.length + 1 ≤ tot ys
  | x :: ys, h => by
    rw [tot_cons]
    rcases List.mem_cons.mp h with rfl | h
    · omega
    · have := tot_mem h
      omega
theorem tot_len : ∀ (ys : List Str), ys.length ≤ tot ys
  | [] => Nat.le_refl _
  | y :: ys => by
    rw [tot_cons, List.length_cons]
    have := tot_len ys
    omega
theorem tot_take (ys : List Str) (n : Nat) : tot (ys.take n) ≤ tot ys := by
  have h := tot_app (ys.take n) (ys.drop n)
  rw [List.take_append_drop] at h
  omega
theorem tot_drop (ys : List Str) (n : Nat) : tot (ys.drop n) ≤ tot ys := by
  have h := tot_app (ys.take n) (ys.drop n)
  rw [List.take_append_drop] at h
  omega
theorem tot_rev (ys : List Str) : tot ys.reverse = tot ys := by
  unfold tot
  rw [List.map_reverse, List.sum_reverse]
theorem join_tot {y : Str} (h : y.length ≤ 1) : ∀ (ys : List Str), (Txt.join y ys).length ≤ tot ys := by
  intro ys
  rw [TL.join_eq]
  induction ys with
  | nil => exact Nat.zero_le _
  | cons p l ih =>
    cases l with
    | nil =>
      rw [tot_cons]
      show p.length ≤ _
      omega
    | cons q r =>
      have e : Str.join y (p :: q :: r) = p ++ y ++ Str.join y (q :: r) := rfl
      rw [e, len_app, len_app, tot_cons]
      omega
theorem tot_join {y : Str} (h : y.length = 1) : ∀ (ys : List Str), tot ys ≤ (Txt.join y ys).length + 1 := by
  intro ys
  rw [TL.join_eq]
  induction ys with
  | nil => exact Nat.zero_le _
  | cons p l ih =>
    cases l with
    | nil =>
      rw [tot_cons]
      show p.length + 1 + 0 ≤ p.length + 1
      omega
    | cons q r =>
      have e : Str.join y (p :: q :: r) = p ++ y ++ Str.join y (q :: r) := rfl
      rw [e, len_app, len_app, tot_cons]
      omega
theorem join_sub {y p : Str} {c : Nat} : ∀ {ps : List Str}, p ∈ ps → c ∈ p.cps.toList → c ∈ (Txt.join y ps).cps.toList := by
  intro ps hp hc
  rw [TL.join_eq]
  have g : c ∈ TL.tl (Str.join y ps) := by
    rw [TL.tl_join]
    induction ps with
    | nil => cases hp
    | cons q l ih =>
      cases l with
      | nil =>
        rw [List.mem_singleton.mp hp] at hc
        exact hc
      | cons r l =>
        show c ∈ TL.tl q ++ (TL.tl y ++ TL.joinL (TL.tl y) ((r :: l).map TL.tl))
        rcases List.mem_cons.mp hp with rfl | hp
        · exact List.mem_append_left _ hc
        · exact List.mem_append_right _ (List.mem_append_right _ (ih hp))
  exact g
theorem split_back (z y : Str) : Txt.join y (Txt.split z y) = z := by
  rw [TL.join_eq]
  exact StrLaws.join_split z y
theorem spl_ne (S : List Nat) : ∀ (l : List Nat) (k : Nat) (acc : List Nat), TL.spl S k acc l ≠ []
  | [], k, acc => by
    rw [TL.spl_nil]
    simp
  | c :: r, 0, acc => by
    unfold TL.spl
    split
    · simp
    · exact spl_ne S r 0 _
  | c :: r, k + 1, acc => by
    unfold TL.spl
    exact spl_ne S r k acc
/-- a sign between -/
structure Sep (y : Str) : Prop where
  l : y.length = 1
  k : y.cps.all (· < 256) = true
theorem Sep.ne {y : Str} (h : Sep y) : TL.tl y ≠ [] := fun e => by
  have e2 : y.length = (TL.tl y).length := rfl
  rw [e, h.l] at e2
  cases e2
theorem sep_sp : Sep " " := ⟨by decide +kernel, by decide +kernel⟩
theorem sep_nl : Sep "\n" := ⟨by decide +kernel, by decide +kernel⟩
theorem split_ne {z y : Str} (h : Sep y) : Txt.split z y ≠ [] := fun e => by
  have s := TL.split_spl z y h.ne (TL.kind_ok h.k)
  rw [e] at s
  exact spl_ne _ _ _ _ s.symm
theorem tot_split {z y : Str} (h : Sep y) : tot (Txt.split z y) ≤ z.length + 1 := by
  have t := tot_join h.l (Txt.split z y)
  rw [split_back] at t
  exact t
theorem split_len {z y p : Str} (h : Sep y) (hp : p ∈ Txt.split z y) : p.length ≤ z.length := by
  have t := tot_split (z := z) h
  have := tot_mem hp
  omega
theorem split_sub {z y p : Str} {c : Nat} (hp : p ∈ Txt.split z y) (hc : c ∈ p.cps.toList) : c ∈ z.cps.toList := by
  have t := join_sub (y := y) hp hc
  rwa [split_back] at t
theorem smC_sub {z p : Str} (h : smC z = true) (s : ∀ c ∈ p.cps.toList, c ∈ z.cps.toList) : smC p = true := by
  unfold smC at h ⊢
  rw [List.all_eq_true] at h ⊢
  exact fun c hc => h c (s c hc)
theorem asA_sub {z p : Str} (h : asA z = true) (s : ∀ c ∈ p.cps.toList, c ∈ z.cps.toList) : asA p = true := by
  unfold asA at h ⊢
  rw [List.all_eq_true] at h ⊢
  exact fun c hc => h c (s c hc)
/-! ### what is read of words is small -/
theorem num_abs {w : Str} {v : Int} (h : numZ w = some v) : v.natAbs < 10 ^ 30 ∧ sI v = w := by
  unfold numZ at h
  by_cases d : isDg (dgZ w) = true
  · rw [if_pos d] at h
    obtain ⟨u, e, l, _⟩ := dg_int d
    rw [e] at h
    dsimp only at h
    by_cases q : sI u = w
    · rw [if_pos q] at h
      cases h
      exact ⟨l, q⟩
    · rw [if_neg q] at h
      cases h
  · rw [if_neg d] at h
    cases h
theorem rdW_sm (i : Nat) {w : Str} (h : smC w = true) : (rdW i w).showable = true ∧ (rdW i w).leavesShort 100 = true ∧ (rdW i w).depth = 0 ∧ (rdW i w).weight ≤ w.length + (if i = 1 ∨ i = 4 then 100 else 0) := by
  unfold rdW nD
  by_cases c : i = 1 ∨ i = 4
  · rw [if_pos c, if_pos c]
    cases e : numZ w with
    | none => exact ⟨rfl, rfl, rfl, Nat.zero_le _⟩
    | some v =>
      obtain ⟨l, q⟩ := num_abs e
      have hl := log_lt l
      refine ⟨?_, ?_, ?_, ?_⟩
      · simp only [PyData.showable]
        exact decide_eq_true (by omega)
      · simp only [PyData.leavesShort]
        refine decide_eq_true ?_
        have := (sI_len l).2
        have e : (PyData.shown (.int v)) = sI v := by
          simp only [PyData.shown]
          rfl
        rw [e]
        omega
      · simp [PyData.depth]
      · simp only [PyData.weight]
        split <;> omega
  · rw [if_neg c, if_neg c]
    refine ⟨rfl, h, by simp [PyData.depth], ?_⟩
    simp only [PyData.weight]
    exact Nat.le_refl _
theorem fndF_sm : ∀ (i : Nat) (ws : List Str), (∀ w ∈ ws, smC w = true) → PyData.showableAll (fndF i ws) = true ∧ PyData.leavesShortAll 100 (fndF i ws) = true ∧ PyData.depthAll (fndF i ws) = 0 ∧
    PyData.weightAll (fndF i ws) ≤ tot ws + (if i ≤ 1 then 200 else if i ≤ 4 then 100 else 0)
  | _, [], _ => ⟨rfl, rfl, by simp [fndF, PyData.depthAll], by simp [fndF, PyData.weightAll]⟩
  | i, w :: ws, h => by
    obtain ⟨a, b, c, d⟩ := rdW_sm i (h w (.head _))
    obtain ⟨a2, b2, c2, d2⟩ := fndF_sm (i + 1) ws fun x hx => h x (.tail _ hx)
    show PyData.showableAll (rdW i w :: fndF (i + 1) ws) = true ∧ PyData.leavesShortAll 100 (rdW i w :: fndF (i + 1) ws) = true ∧ PyData.depthAll (rdW i w :: fndF (i + 1) ws) = 0 ∧ PyData.weightAll (rdW i w :: fndF (i + 1) ws) ≤ _
    simp only [PyData.showableAll, PyData.leavesShortAll, PyData.depthAll, PyData.weightAll, a, b, c, a2, b2, c2, Bool.and_true, true_and, tot_cons]
    refine ⟨rfl, ?_⟩
    split at d <;> split at d2 <;> (try split at d2) <;> (try split) <;> (try split) <;> omega
theorem sm_fnd {z : Str} (h : smC z = true) (hl : z.length ≤ 40000) : Sm (.tuple (fnd (Txt.split z " "))) := by
  obtain ⟨a, b, c, d⟩ := fndF_sm 0 (Txt.split z " ") fun w hw => smC_sub h fun c hc => split_sub hw hc
  have t := tot_split (z := z) sep_sp
  rw [if_pos (by decide)] at d
  refine ⟨by simpa only [PyData.showable, fnd] using a, by simpa only [PyData.leavesShort, fnd] using b, ?_, ?_⟩
  · simp only [PyData.weight]
    show PyData.weightAll (fndF 0 _) ≤ _
    omega
  · simp only [PyData.depth]
    show PyData.depthAll (fndF 0 _) + 1 ≤ _
    omega
/-! ### what is read of a text -/
def opZ (z : Str) : Option (List PyData) := if opD (.tuple (fnd (Txt.split z " "))) = true then some (fnd (Txt.split z " ")) else none
theorem opZ_op {z : Str} {ds : List PyData} (h : opZ z = some ds) : opD (.tuple ds) = true ∧ ds = fnd (Txt.split z " ") := by
  unfold opZ at h
  by_cases c : opD (.tuple (fnd (Txt.split z " "))) = true
  · rw [if_pos c] at h
    cases h
    exact ⟨c, rfl⟩
  · rw [if_neg c] at h
    cases h
def addR (acc : List (List PyData)) : Nat ⊕ List (List PyData) → Nat ⊕ List (List PyData)
  | .inl k => .inl k
  | .inr l => .inr (acc ++ l)
def rdF : Nat → List Str → Nat ⊕ List (List PyData)
  | _, [] => .inr []
  | i, z :: zs => match opZ z with
    | none => .inl (i + 1)
    | some ds => if 60 ≤ i then .inl (i + 1) else addR [ds] (rdF (i + 1) zs)
theorem addR_nil (r : Nat ⊕ List (List PyData)) : addR [] r = r := by
  cases r <;> rfl
theorem addR_add (a b : List (List PyData)) (r : Nat ⊕ List (List PyData)) : addR a (addR b r) = addR (a ++ b) r := by
  cases r with
  | inl k => rfl
  | inr l =>
    show Sum.inr (a ++ (b ++ l)) = Sum.inr (a ++ b ++ l)
    rw [List.append_assoc]
/-- the first i lines are read, acc is what they gave -/
structure Pre (ls : List Str) (i : Nat) (acc : List (List PyData)) : Prop where
  eq : rdF 0 ls = addR acc (rdF i (ls.drop i))
  op : ∀ ds ∈ acc, opD (.tuple ds) = true
  ln : acc.length = i
  le : i ≤ 60
theorem Pre.zero (ls : List Str) : Pre ls 0 [] := ⟨by rw [addR_nil, List.drop_zero], (fun _ h => by cases h), rfl, by decide⟩
theorem drop_get {α : Type} {l : List α} {i : Nat} {z : α} (h : l[i]? = some z) : l.drop i = z :: l.drop (i + 1) := by
  obtain ⟨hl, e⟩ := List.getElem?_eq_some_iff.mp h
  rw [List.drop_eq_getElem_cons hl, e]
theorem Pre.bad {ls : List Str} {i : Nat} {acc : List (List PyData)} {z : Str} (p : Pre ls i acc) (h : ls[i]? = some z) (b : opZ z = none ∨ 60 ≤ i) : rdF 0 ls = .inl (i + 1) := by
  rw [p.eq, drop_get h]
  unfold rdF
  cases e : opZ z with
  | none => rfl
  | some ds =>
    dsimp only
    rcases b with b | b
    · rw [e] at b
      cases b
    · rw [if_pos b]
      rfl
theorem Pre.next {ls : List Str} {i : Nat} {acc : List (List PyData)} {z : Str} {ds : List PyData} (p : Pre ls i acc) (h : ls[i]? = some z) (b : opZ z = some ds) (l : i < 60) : Pre ls (i + 1) (acc ++ [ds]) := by
  refine ⟨?_, fun d hd => ?_, by rw [List.length_append, p.ln]; rfl, l⟩
  · rw [p.eq, drop_get h]
    have e : rdF i (z :: ls.drop (i + 1)) = addR [ds] (rdF (i + 1) (ls.drop (i + 1))) := by
      have u : rdF i (z :: ls.drop (i + 1)) = (match opZ z with
        | none => Sum.inl (i + 1)
        | some ds => if 60 ≤ i then .inl (i + 1) else addR [ds] (rdF (i + 1) (ls.drop (i + 1)))) := rfl
      rw [u, b]
      exact if_neg (by omega)
    rw [e, addR_add]
  · rcases List.mem_append.mp hd with hd | hd
    · exact p.op d hd
    · rw [List.mem_singleton.mp hd]
      exact (opZ_op b).1
theorem Pre.all {ls : List Str} {acc : List (List PyData)} (p : Pre ls ls.length acc) : rdF 0 ls = .inr acc := by
  rw [p.eq, List.drop_length]
  show Sum.inr (acc ++ []) = _
  rw [List.append_nil]
def valR : PyData → Nat ⊕ List (List PyData)
  | .str z => rdF 0 (linesZ z)
  | _ => .inl 1
/-- what is told of it -/
def rdD : Nat ⊕ List (List PyData) → PyData
  | .inl k => .list [.str "line", .int ((k : Nat) : Int)]
  | .inr ops => .list [.str "told", .tuple (ops.map .tuple)]
/-- a value that may be read -/
structure Okd (d : PyData) : Prop where
  sm : Sm d
  t : ∀ z, d = .str z → z.length ≤ 40000 ∧ smC z = true
theorem Okd.text {z : Str} (h : smC z = true) (l : z.length ≤ 40000) : Okd (.str z) := by
  have e : z.cps.size = z.length := rfl
  refine ⟨⟨rfl, h, ?_, ?_⟩, fun y e => ?_⟩
  · simp only [PyData.weight]; omega
  · simp [PyData.depth]
  · cases e
    exact ⟨l, h⟩
theorem Okd.val {d : PyData} (h : Sv d) : Okd d := ⟨h.sm, fun z e => by
  subst e
  have w := h.wt
  have l := h.lv
  simp only [PyData.weight] at w
  exact ⟨Nat.le_trans (show z.length ≤ 1000 from w) (by decide), l⟩⟩
theorem linesZ_sub {z p : Str} (h : p ∈ linesZ z) : p.length ≤ z.length ∧ ∀ c ∈ p.cps.toList, c ∈ z.cps.toList := by
  unfold linesZ at h
  split at h
  · exact ⟨split_len sep_nl h, fun c hc => split_sub h hc⟩
  · cases h
theorem linesZ_len (z : Str) : (linesZ z).length ≤ z.length + 1 := by
  unfold linesZ
  split
  · have := tot_split (z := z) sep_nl
    have := tot_len (Txt.split z "\n")
    omega
  · exact Nat.zero_le _
theorem rdF_le : ∀ (ls : List Str) (i k : Nat), rdF i ls = .inl k → k ≤ i + ls.length
  | [], i, k, h => by cases h
  | z :: zs, i, k, h => by
    unfold rdF at h
    rw [List.length_cons]
    cases e : opZ z with
    | none =>
      rw [e] at h
      cases h
      omega
    | some ds =>
      rw [e] at h
      dsimp only at h
      by_cases c : 60 ≤ i
      · rw [if_pos c] at h
        cases h
        omega
      · rw [if_neg c] at h
        cases r : rdF (i + 1) zs with
        | inl m =>
          rw [r] at h
          have h : (Sum.inl m : Nat ⊕ List (List PyData)) = .inl k := h
          have e := Sum.inl.inj h
          have := rdF_le zs (i + 1) m r
          omega
        | inr l =>
          rw [r] at h
          cases h
theorem rdF_shp : ∀ (ls : List Str) (i : Nat) (ops : List (List PyData)), rdF i ls = .inr ops → (∀ ds ∈ ops, opD (.tuple ds) = true) ∧ (i ≤ 60 → ops.length + i ≤ 60)
  | [], i, ops, h => by
    cases h
    exact ⟨(fun _ h => by cases h), fun h => by simpa using h⟩
  | z :: zs, i, ops, h => by
    unfold rdF at h
    cases e : opZ z with
    | none => rw [e] at h; cases h
    | some ds =>
      rw [e] at h
      dsimp only at h
      by_cases c : 60 ≤ i
      · rw [if_pos c] at h
        cases h
      · rw [if_neg c] at h
        cases r : rdF (i + 1) zs with
        | inl m => rw [r] at h; cases h
        | inr l =>
          rw [r] at h
          have h : Sum.inr ([ds] ++ l) = (Sum.inr ops : Nat ⊕ List (List PyData)) := h
          cases h
          obtain ⟨a, b⟩ := rdF_shp zs (i + 1) l r
          refine ⟨fun d hd => ?_, fun _ => ?_⟩
          · rcases List.mem_append.mp hd with hd | hd
            · rw [List.mem_singleton.mp hd]
              exact (opZ_op e).1
            · exact a d hd
          · have := b (by omega)
            rw [List.length_append, List.length_singleton]
            omega
theorem sm_two2 {a b : PyData} (ha : Sv a) (hb : Sm b) (hd : b.depth ≤ 40) (hw : b.weight ≤ 90000) : Sm (.list [a, b]) := by
  have h1 := ha.wt
  have h2 := ha.dp
  refine ⟨?_, ?_, ?_, ?_⟩
  · simp [PyData.showable, PyData.showableAll, ha.sh, hb.sh]
  · simp [PyData.leavesShort, PyData.leavesShortAll, ha.lv, hb.lv]
  · simp only [PyData.weight, PyData.weightAll]; omega
  · simp only [PyData.depth, PyData.depthAll]; omega
theorem sm_rdD {d : PyData} (h : Okd d) : Sm (rdD (valR d)) := by
  have one : ∀ k : Nat, k ≤ 40001 → Sm (rdD (.inl k)) := fun k hk => by
    have s : Sv (.int ((k : Nat) : Int)) := Sv.int (by omega) (by omega)
    refine sm_two2 (Sv.of (by decide +kernel)) s.sm ?_ ?_
    · have := s.dp; omega
    · have := s.wt; omega
  cases d with
  | str z =>
    obtain ⟨l, _⟩ := h.t z rfl
    show Sm (rdD (rdF 0 (linesZ z)))
    cases r : rdF 0 (linesZ z) with
    | inl k =>
      have := rdF_le _ _ _ r
      have := linesZ_len z
      exact one k (by omega)
    | inr ops =>
      obtain ⟨a, b⟩ := rdF_shp _ _ _ r
      have b := b (by decide)
      have sh : ∀ ds ∈ ops, Shp ds := fun ds hd => shp_of (a ds hd)
      obtain ⟨_, _, c, e⟩ := sv_dep (ds := ops.map .tuple) fun d hd => by
        obtain ⟨o, ho, rfl⟩ := List.mem_map.mp hd
        exact sv_op (sh o ho)
      rw [List.length_map] at c
      refine sm_two2 (Sv.of (by decide +kernel)) (sm_his sh (by omega)) ?_ ?_
      · simp only [PyData.depth]; omega
      · simp only [PyData.weight]; omega
  | _ => exact one 1 (by decide)
end Rm

set_option maxRecDepth 100000
set_option maxHeartbeats 4000000
namespace Rm
open PySem PySem.Spec L2
open PyProof.Rows hiding St

/-! ### numbers within bounds, as a word says them -/
def numB (lo hi : Int) (w : Str) : Option Int := match numZ w with
  | some v => if lo ≤ v ∧ v ≤ hi then some v else none
  | none => none
theorem numB_isW {lo hi : Int} {w : Str} : isW lo hi (nD w) = (numB lo hi w).isSome := by
  unfold nD numB
  cases numZ w with
  | none => rfl
  | some v =>
    show (decide (lo ≤ v) && decide (v ≤ hi)) = _
    dsimp only
    by_cases h : lo ≤ v ∧ v ≤ hi
    · rw [if_pos h, decide_eq_true h.1, decide_eq_true h.2]; rfl
    · rw [if_neg h]
      cases a : decide (lo ≤ v) with
      | false => rfl
      | true =>
        cases b : decide (v ≤ hi) with
        | false => rfl
        | true => exact absurd ⟨of_decide_eq_true a, of_decide_eq_true b⟩ h
theorem numB_nD {lo hi v : Int} {w : Str} (h : numB lo hi w = some v) : nD w = .int v ∧ lo ≤ v ∧ v ≤ hi := by
  unfold numB at h
  unfold nD
  cases e : numZ w with
  | none => rw [e] at h; cases h
  | some u =>
    rw [e] at h
    dsimp only at h
    by_cases c : lo ≤ u ∧ u ≤ hi
    · rw [if_pos c] at h
      cases h
      exact ⟨rfl, c⟩
    · rw [if_neg c] at h; cases h
structure Plain (w : Str) : Prop where
  d : NumText.AllDigits w.cps.toList
  n : w.cps.toList ≠ []
  l : w.length ≤ 30
theorem Plain.dg {w : Str} (h : Plain w) : dgZ w = w ∧ isDg (dgZ w) = true := by
  have e : dgZ w = w := dgZ_pos fun cs q => by
    have := h.d 45 (by rw [q]; exact .head _)
    omega
  exact ⟨e, by rw [e]; exact dg_iff.mpr ⟨h.d, h.n, h.l⟩⟩
theorem Plain.val {w : Str} (h : Plain w) : intText? w = some ((NumText.digitsVal w.cps.toList : Nat) : Int) := intText_digits h.d h.n (by have := h.l; omega)
theorem numL_back {cs : List Nat} (h : NumText.AllDigits cs) (n : cs ≠ []) (z : cs.head? ≠ some 48 ∨ cs = [48]) : TL.numL (NumText.digitsVal cs) = cs := by
  have lp := List.length_pos_iff.mpr n
  have e := NumText.toDigits_digitsVal (cs.length - 1) cs (by omega) h (by
    rcases z with z | z
    · right
      match cs, n with
      | c :: r, _ =>
        refine ⟨c, r, rfl, ?_⟩
        have := h c (.head _)
        have : c ≠ 48 := fun e => z (by rw [e]; rfl)
        omega
    · left
      rw [z]
      rfl)
  unfold TL.numL
  rw [e, List.map_map]
  have g : ∀ (l : List Nat), NumText.AllDigits l → l.map (Char.toNat ∘ Char.ofNat) = l := by
    intro l
    induction l with
    | nil => intro _; rfl
    | cons c l ih =>
      intro h
      rw [List.map_cons, ih fun x hx => h x (.tail _ hx)]
      have hc := h c (.head _)
      have : (Char.toNat ∘ Char.ofNat) c = c := by
        have t : ∀ k : Fin 10, (Char.ofNat (48 + k.val)).toNat = 48 + k.val := by decide
        have := t ⟨c - 48, by omega⟩
        dsimp only at this
        rw [show 48 + (c - 48) = c by omega] at this
        exact this
      rw [this]
  exact g cs h
theorem str_ext {a b : Str} (h : a.cps.toList = b.cps.toList) : a = b := TL.ext_tl h
theorem z48 : ("0" : Str).cps.toList = [48] := by decide +kernel
theorem Plain.num {w : Str} (h : Plain w) (z : ¬ (w.cps.toList.head? = some 48 ∧ w ≠ "0")) : numZ w = some ((NumText.digitsVal w.cps.toList : Nat) : Int) := by
  unfold numZ
  rw [if_pos h.dg.2, h.val]
  refine if_pos (str_ext ?_)
  rw [tl_sI]
  refine numL_back h.d h.n ?_
  by_cases c : w.cps.toList.head? = some 48
  · right
    have e : w = "0" := Classical.byContradiction fun q => z ⟨c, q⟩
    rw [e, z48]
  · exact .inl c
theorem Plain.lead {w : Str} (h : Plain w) (z : w.cps.toList.head? = some 48 ∧ w ≠ "0") : numZ w = none := by
  unfold numZ
  rw [if_pos h.dg.2, h.val]
  refine if_neg fun e => ?_
  have e2 : (sI ((NumText.digitsVal w.cps.toList : Nat) : Int)).cps.toList = w.cps.toList := by rw [e]
  rw [tl_sI] at e2
  generalize NumText.digitsVal w.cps.toList = n at e2
  obtain ⟨z1, z2⟩ := z
  rw [← e2] at z1
  by_cases l : n < 10
  · rw [TL.numL_lt l] at e2 z1
    have : 48 + n = 48 := by simpa using z1
    refine z2 (str_ext ?_)
    rw [← e2, z48, this]
  · -- a longer number does not begin with a nought
    have g : ∀ n : Nat, 0 < n → (TL.numL n).head? ≠ some 48 := by
      intro n
      induction n using Nat.strongRecOn with
      | ind n ih =>
        intro hp
        by_cases q : n < 10
        · rw [TL.numL_lt q]
          simp
          omega
        · rw [TL.numL_step (by omega)]
          have := ih (n / 10) (by omega) (by omega)
          cases e : TL.numL (n / 10) with
          | nil => exact absurd e (TL.numL_ne _)
          | cons c r =>
            rw [e] at this
            simpa using this
    exact g n (by omega) z1
/-- a word that is no row of digits is no number, or one below nought -/
theorem num_neg {w : Str} (h : ¬ Plain w) {v : Int} (e : numZ w = some v) : v < 0 := by
  obtain ⟨l, q⟩ := num_abs e
  rcases Int.lt_or_le v 0 with n | p
  · exact n
  · exfalso
    obtain ⟨m, rfl⟩ := Int.eq_ofNat_of_zero_le p
    rw [Int.natAbs_natCast] at l
    refine h ⟨?_, ?_, ?_⟩
    · rw [← q, tl_sI]; exact TL.numL_digits m
    · rw [← q, tl_sI]; exact TL.numL_ne m
    · show w.cps.toList.length ≤ 30
      rw [← q, tl_sI]; exact numL_30 l
theorem numB_np {w : Str} {lo hi : Int} (h0 : 0 ≤ lo) (h : ¬ Plain w) : numB lo hi w = none := by
  unfold numB
  cases e : numZ w with
  | none => rfl
  | some v =>
    have := num_neg h e
    exact if_neg (by omega)
theorem Plain.numB {w : Str} {lo hi : Int} (h : Plain w) (z : ¬ (w.cps.toList.head? = some 48 ∧ w ≠ "0")) : Rm.numB lo hi w = if lo ≤ ((NumText.digitsVal w.cps.toList : Nat) : Int) ∧ ((NumText.digitsVal w.cps.toList : Nat) : Int) ≤ hi then some ((NumText.digitsVal w.cps.toList : Nat) : Int) else none := by
  unfold Rm.numB
  rw [h.num z]
theorem Plain.numB0 {w : Str} {lo hi : Int} (h : Plain w) (z : w.cps.toList.head? = some 48 ∧ w ≠ "0") : Rm.numB lo hi w = none := by
  unfold Rm.numB
  rw [h.lead z]
theorem numB_v {w : Str} : numB vlo vhi w = numZ w := by
  unfold numB
  cases e : numZ w with
  | none => rfl
  | some v =>
    obtain ⟨l, _⟩ := num_abs e
    have e3 : vlo = -999999999999999999999999999999 := by decide
    have e4 : vhi = 999999999999999999999999999999 := by decide
    exact if_pos ⟨by omega, by omega⟩
theorem numB_hi {w : Str} (h : ∀ cs, w.cps.toList ≠ 45 :: cs) : numB 0 (10 ^ 30) w = numZ w := by
  unfold numB
  cases e : numZ w with
  | none => rfl
  | some v =>
    obtain ⟨l, q⟩ := num_abs e
    refine if_pos ⟨?_, by omega⟩
    rcases Int.lt_or_le v 0 with n | p
    · have t := tl_sIneg n
      rw [q] at t
      exact absurd t (h _)
    · exact p
theorem num_minus {w : Str} {cs : List Nat} (h : w.cps.toList = 45 :: cs) : numZ w = (numB 1 (10 ^ 30) ⟨cs.toArray⟩).map fun v => 0 - v := by
  have ec : (⟨cs.toArray⟩ : Str).cps.toList = cs := by simp
  cases e : numZ w with
  | some v =>
    obtain ⟨l, q⟩ := num_abs e
    have n : v < 0 := by
      rcases Int.lt_or_le v 0 with n | p
      · exact n
      · obtain ⟨m, rfl⟩ := Int.eq_ofNat_of_zero_le p
        have t := tl_sI m
        rw [q, h] at t
        have := TL.numL_digits m 45 (by rw [← t]; exact .head _)
        omega
    have t := tl_sIneg n
    rw [q, h] at t
    have t2 : cs = TL.numL v.natAbs := (List.cons.inj t).2
    have e2 : (⟨cs.toArray⟩ : Str) = sI (v.natAbs : Int) := str_ext (by rw [ec, tl_sI, t2])
    have e3 : numB 1 (10 ^ 30) ⟨cs.toArray⟩ = some (v.natAbs : Int) := by
      unfold numB
      rw [e2, sI_read (by rw [Int.natAbs_natCast]; exact l)]
      exact if_pos ⟨by omega, by omega⟩
    rw [e3]
    show some v = some (0 - (v.natAbs : Int))
    congr 1
    omega
  | none =>
    cases e2 : numB 1 (10 ^ 30) (⟨cs.toArray⟩ : Str) with
    | none => rfl
    | some n =>
      exfalso
      unfold numB at e2
      cases e3 : numZ (⟨cs.toArray⟩ : Str) with
      | none => rw [e3] at e2; cases e2
      | some u =>
        rw [e3] at e2
        dsimp only at e2
        by_cases c : 1 ≤ u ∧ u ≤ 10 ^ 30
        · obtain ⟨l, q⟩ := num_abs e3
          have t : (sI u).cps.toList = cs := by rw [q, ec]
          obtain ⟨m, rfl⟩ := Int.eq_ofNat_of_zero_le (show 0 ≤ u by omega)
          rw [tl_sI] at t
          have nm : (-(m : Int)) < 0 := by omega
          have t2 := tl_sIneg nm
          have ea : (-(m : Int)).natAbs = m := by omega
          rw [ea, t, ← h] at t2
          have e4 := sI_read (i := -(m : Int)) (by rw [ea]; simpa using l)
          rw [str_ext t2, e] at e4
          cases e4
        · rw [if_neg c] at e2; cases e2
/-! ### a text many times -/
def repS (z : Str) (n : Nat) : Str := ⟨(List.replicate n z.cps).foldl (· ++ ·) #[]⟩
theorem repS_list (z : Str) (n : Nat) : (repS z n).cps.toList = (List.replicate n z.cps.toList).flatten := by
  have g : ∀ (l : List (Array Nat)) (a : Array Nat), (l.foldl (· ++ ·) a).toList = a.toList ++ (l.map Array.toList).flatten := by
    intro l
    induction l with
    | nil => intro a; simp
    | cons x l ih =>
      intro a
      rw [List.foldl_cons, ih, Array.toList_append, List.map_cons, List.flatten_cons, List.append_assoc]
  have := g (List.replicate n z.cps) #[]
  show ((List.replicate n z.cps).foldl (· ++ ·) #[]).toList = _
  rw [this, List.map_replicate]
  rfl
theorem repS_len (z : Str) (n : Nat) : (repS z n).length = n * z.length := by
  have e : (repS z n).length = (repS z n).cps.toList.length := rfl
  have g : ∀ (n k : Nat), (List.replicate n k).sum = n * k := by
    intro n k
    induction n with
    | zero => simp
    | succ n ih => rw [List.replicate_succ, List.sum_cons, ih, Nat.add_mul, Nat.one_mul, Nat.add_comm]
  rw [e, repS_list, List.length_flatten, List.map_replicate, g]
  rfl
theorem repS_mem {z : Str} {n c : Nat} (h : c ∈ (repS z n).cps.toList) : c ∈ z.cps.toList := by
  rw [repS_list] at h
  obtain ⟨l, hl, hc⟩ := List.mem_flatten.mp h
  rw [(List.mem_replicate.mp hl).2] at hc
  exact hc
def rRepN : R2 := fun x y H Q => ∃ (z : Str) (n : Int), x = .str z ∧ y = .int n ∧ 2 ≤ n ∧ n ≤ 100000 ∧ 1 ≤ z.length ∧ z.length ≤ 100 ∧ Q (.str (repS z n.toNat)) H
theorem op_repN {X : Cx} : OpR X (binaryOp .Mult) rRepN := by
  intro pins s σ H x y v u Q I rx ry h
  obtain ⟨z, n, rfl, rfl, n2, nn, z1, z2, q⟩ := h
  obtain ⟨t, rfl⟩ := rx
  obtain ⟨t', rfl⟩ := ry
  have c1 : ¬ n < 1 := by omega
  have c2 : ¬ (n == 1 || z.length == 0) = true := by
    simp
    exact ⟨by omega, fun e => by omega⟩
  refine PySem.P.mul_str ?_ (fun _ _ => ?_) (fun _ _ => ?_) ?_
  · rw [decide_eq_false (by omega), decide_eq_false (by omega)]
    rfl
  · have h1 : (100 : Int) ≤ (2 ^ 63 - 1) / n := by
      refine (Int.le_ediv_iff_mul_le (by omega)).mpr ?_
      omega
    omega
  · unfold Builtin.Str.tooLong
    have : z.length * n.toNat ≤ 100 * 100000 := Nat.mul_le_mul z2 (by omega)
    refine decide_eq_false ?_
    rw [sizeLine_eq]
    omega
  · rw [if_neg c1, if_neg c2]
    refine ⟨?_, .str _, H, I.tok _, ⟨_, rfl⟩, q⟩
    show (repS z n.toNat).length ≤ sizeLine
    rw [repS_len, sizeLine_eq]
    have : n.toNat * z.length ≤ 100000 * 100 := Nat.mul_le_mul (by omega) z2
    omega
/-! ### a list of texts among lists of texts -/
theorem eqvAll_strs : ∀ (xs ys : List Str), PyData.eqvAll (xs.map .str) (ys.map .str) = decide (xs = ys)
  | [], [] => by simp [PyData.eqvAll]
  | [], _ :: _ => by simp [PyData.eqvAll]
  | _ :: _, [] => by simp [PyData.eqvAll]
  | x :: xs, y :: ys => by
    have ih := eqvAll_strs xs ys
    simp only [List.map_cons, PyData.eqvAll, PyData.eqv, ih, List.cons.injEq]
    rw [Bool.eq_iff_iff]
    simp
theorem alike_strs : ∀ (xs ys : List Str), PySem.W.alikeAll (xs.map .str) (ys.map .str) = true
  | [], _ => by simp [PySem.W.alikeAll]
  | _ :: _, [] => by simp [PySem.W.alikeAll]
  | x :: xs, y :: ys => by
    simp only [List.map_cons, PySem.W.alikeAll, PySem.W.alike, alike_strs xs ys, Bool.and_true]
theorem dp_strs {K : PySem.W.Frag} {H : Hp} : ∀ (xs : List Str), DpAll K H (xs.map V.str) (xs.map .str)
  | [] => .nil
  | x :: xs => .cons (.str x) (dp_strs xs)
theorem dp_depth : ∀ (xs : List Str), PyData.depthAll (xs.map .str) = 0
  | [] => by simp [PyData.depthAll]
  | x :: xs => by simp [PyData.depthAll, PyData.depth, dp_depth xs]
theorem vals_prs {α : Type} : ∀ {ps : List (Addr × α)} {us : List Value}, Vals (ps.map fun p => V.ref p.1) us → us = ps.map fun p => Value.ref p.1
  | [], _, .nil => rfl
  | p :: ps, _, .cons r t => by
    cases r
    rw [vals_prs t]
    rfl
def rInLs (K : PySem.W.Frag) : R2 := fun x y H Q => ∃ (a p : Addr) (ws : List Str) (ps : List (Addr × List Str)), x = .ref a ∧ SqL K H a (ws.map V.str) ∧ y = .ref p ∧ SqT K H p (ps.map fun q => V.ref q.1) ∧ (ps.map (·.1)).Nodup ∧
  (∀ q ∈ ps, SqL K H q.1 (q.2.map V.str)) ∧ Q (.bl (ps.any fun q => decide (q.2 = ws))) H
theorem op_inLs {X : Cx} (hu : X.A.units + 64 < cLine) : OpR X (compareOp .In) (rInLs X.K) := by
  intro pins s σ H x y v u Q I rx ry h
  obtain ⟨a, p, ws, ps, rfl, ha, rfl, hp, nd, hq, q⟩ := h
  obtain ⟨as, r1⟩ := Dp.reads I (.list (ws.map .str)) (.ref a) v (.lst ha (dp_strs ws)) rx
  cases rx
  cases ry
  obtain ⟨its, rv, pl, _⟩ := I.tuple hp
  have ei := vals_prs rv
  subst ei
  let e : Value → Bool := fun u => ps.any fun q => decide (u = .ref q.1) && decide (q.2 = ws)
  have ee : ∀ q ∈ ps, e (.ref q.1) = decide (q.2 = ws) := fun q hm => by
    show (ps.any fun r => decide (Value.ref q.1 = .ref r.1) && decide (r.2 = ws)) = _
    rw [Bool.eq_iff_iff, List.any_eq_true]
    constructor
    · rintro ⟨r, hr, h⟩
      simp only [Bool.and_eq_true, decide_eq_true_eq] at h
      have e1 : q.1 = r.1 := Value.ref.inj h.1
      have e2 : q = r := by
        have inj := List.pairwise_map.mp nd
        exact Classical.byContradiction fun ne => by
          obtain ⟨i, hi, ei⟩ := List.mem_iff_getElem.mp hm
          obtain ⟨j, hj, ej⟩ := List.mem_iff_getElem.mp hr
          have pw := List.pairwise_iff_getElem.mp inj
          rcases Nat.lt_trichotomy i j with l | l | l
          · exact pw i j hi hj l (by rw [ei, ej]; exact e1)
          · subst l; exact ne (ei.symm.trans ej)
          · exact pw j i hj hi l (by rw [ei, ej]; exact e1.symm)
      rw [e2]
      exact decide_eq_true h.2
    · intro h
      exact ⟨q, hm, by simp only [Bool.and_eq_true, decide_eq_true_eq]; exact ⟨trivial, of_decide_eq_true h⟩⟩
  refine SeqAt.in_tupleAt e pl (fun y hy => ?_) ⟨.bl _, H, I, rfl, ?_⟩
  · have hy : y ∈ (ps.map fun p => Value.ref p.1) := by simpa using hy
    obtain ⟨r, hr, rfl⟩ := List.mem_map.mp hy
    obtain ⟨bs, r2⟩ := Dp.reads I (.list (r.2.map .str)) (.ref r.1) (.ref r.1) (.lst (hq r hr) (dp_strs r.2)) rfl
    have k := PySem.W.eqAt_alike (.list (r.2.map .str)) (.list (ws.map .str)) X.A.in1 s _ _ _ _ r2 r1 (by simp only [PySem.W.alike]; exact alike_strs _ _) (by
      have d1 : (PyData.list (r.2.map .str)).depth = 1 := by simp [PyData.depth, dp_depth]
      have hu2 : X.A.in1.units ≤ X.A.units + 1 := by simp
      omega)
    rw [ee r hr]
    have ev : PyData.eqv (.list (r.2.map .str)) (.list (ws.map .str)) = decide (r.2 = ws) := by
      simp only [PyData.eqv]
      exact eqvAll_strs _ _
    rw [ev] at k
    exact k
  · have en : (ps.map fun p => Value.ref p.1).toArray.any e = ps.any fun q => decide (q.2 = ws) := by
      rw [List.any_toArray, List.any_map]
      have g : ∀ (l : List (Addr × List Str)), (∀ q ∈ l, q ∈ ps) → l.any (e ∘ fun p => Value.ref p.1) = l.any fun q => decide (q.2 = ws) := by
        intro l
        induction l with
        | nil => intro _; rfl
        | cons q l ih =>
          intro h
          rw [List.any_cons, List.any_cons, ih fun x hx => h x (.tail _ hx)]
          rw [show (e ∘ fun p : Addr × List Str => Value.ref p.1) q = e (.ref q.1) from rfl, ee q (h q (.head _))]
      exact g ps fun _ h => h
    rw [en]
    exact q
end Rm

set_option maxRecDepth 100000
set_option maxHeartbeats 4000000
namespace Rm
open PySem PySem.Spec L2
open PyProof.Rows hiding St

/-! ### a list beside an empty one, != -/
def rNeE (K : PySem.W.Frag) : R2 := fun x y H Q => ∃ a xs b, x = .ref a ∧ SqL K H a xs ∧ y = .ref b ∧ SqL K H b [] ∧ Q (.bl (!xs.isEmpty)) H
theorem op_neE {X : Cx} (hu : X.A.units < cLine) : OpR X (compareOp .NotEq) (rNeE X.K) := by
  intro pins s σ H x y v u Q I rx ry h
  obtain ⟨a, xs, b, rfl, ha, rfl, hb, q⟩ := h
  cases rx
  cases ry
  obtain ⟨its, rv, hl, _⟩ := I.list ha
  obtain ⟨its2, rv2, hl2, _⟩ := I.list hb
  have z2 : its2 = [] := by
    cases rv2
    rfl
  subst z2
  refine PySem.W.cmp_ofNotEq ?_
  cases rv with
  | nil =>
    refine PySem.SeqAt.RcNeAt.lists (e := fun _ => true) hl.isList hl2.isList rfl hu (fun j h1 _ => absurd h1 (by simp)) _ _ _ _ ?_
    exact ⟨.bl _, H, I, rfl, q⟩
  | cons r rs =>
    refine PySem.SeqAt.RcNeAt.lists_lengths hl.isList hl2.isList (by simp) hu _ _ _ _ ?_
    exact ⟨.bl _, H, I, rfl, q⟩
def oN : Option Int → V
  | some v => .int v
  | none => .non
theorem oN_some (v : Int) : oN (some v) = .int v := rfl
theorem signs_lt (a b : Nat) : ([a] < [b]) ↔ a < b := by rw [List.cons_lt_cons_iff]; simp
end Rm

set_option maxRecDepth 100000
set_option maxHeartbeats 4000000
namespace Rm
open PySem PySem.Spec L2
open PyProof.Rows hiding St

/-! ### line, *more = a list -/
theorem draw_walk {P : Program} {w : World} {A : Around} {I : Addr} {fp wr : List Addr} {n : Nat} {Pi : Nat → Value → Prop} {St : Nat → Heap → Prop} (W : Walks P w A I fp wr n Pi St) {E : Value → Shared → Prop} :
    ∀ (k i : Nat) (s : Shared) (Q : List Value → Shared → Prop), i + k ≤ n → St i s.heap →
      (∀ (vs : List Value) (h' : Heap) (tk : Nat), vs.length = k → (∀ j v, vs[j]? = some v → Pi (i + j) v) → St (i + k) h' →
        (∀ (b : Addr) (o : Obj), ¬b ∈ wr → s.heap.get? b = some o → h'.get? b = some o) → Q vs ⟨h', s.gens, s.drawn, tk, s.os⟩) →
      wpAny (model P w) A (draw (.ref I) k) Q E s
  | 0, i, s, Q, hk, st, q => wpAny_pure (q [] s.heap s.toks rfl (fun j v h => by simp at h) st fun _ _ _ h => h)
  | k + 1, i, s, Q, hk, st, q => by
    unfold draw
    refine wpAny_bind (W.item i s _ _ (by omega) st fun v h' tk pv st' fr => ?_)
    refine wpAny_bind (wpAny_holding (draw_walk W k (i + 1) _ _ (by omega) st' fun vs h'' tk' hl hp st'' fr' => wpAny_pure ?_))
    refine q (v :: vs) h'' tk' (by simp [hl]) (fun j u h => ?_) (by rw [show i + (k + 1) = i + 1 + k by omega]; exact st'') fun b o hb h => fr' b o hb (fr b o hb h)
    cases j with
    | zero =>
      obtain rfl := Option.some.inj h
      exact pv
    | succ j =>
      have := hp j u h
      rwa [show i + 1 + j = i + (j + 1) by omega] at this

def gStar (K : PySem.W.Frag) (t : TGs) : TG := fun v σ H Q => ∃ a x xs, v = V.ref a ∧ SqL K H a (x :: xs) ∧ ∀ D, H D = none → D ≠ a → t [x, .ref D] σ (upd H D (.lst xs)) Q
theorem pg_star {X : Cx} {pos sp : Pos} {e t : PySem.Expr} {k : Nat} {g : TGs} (hc : X.calm = true) (h : PGs X [e, t] g)
    (eq1 : (assignEach [e, t.Starred sp] X.env).map (·.2) = (assignEach [e, t] X.env).map (·.2) := by rfl)
    (eq2 : (assignEach [e, t.Starred sp] X.env).findIdx? (·.1) = some 1 := by rfl) (eq3 : (assignEach [e, t.Starred sp] X.env).length = 2 := by rfl) :
    PG X (.Tuple [e, t.Starred sp] k pos) (gStar X.K g) := by
  refine ⟨fun pins s σ H v u Q I rv q => ?_⟩
  obtain ⟨a, x, xs, rfl, hq, q⟩ := q
  cases rv
  obtain ⟨its, rs, p, hz⟩ := I.list hq
  obtain ⟨u0, us, rfl, r0, r1⟩ : ∃ u0 us, its = u0 :: us ∧ RelV x u0 ∧ Vals xs us := by
    cases rs with
    | cons a b => exact ⟨_, _, rfl, a, b⟩
  rw [arm_assign_Tuple]
  refine wpAny_bind (wpAny_standAt ?_)
  unfold unpack
  rw [eq2, eq3]
  refine wpAny_bind (wpAny_holding ?_)
  have hd : X.A.handled = none := I.ok.hd hc
  have ne : a ≠ s.heap.objs.size := fun e => by
    obtain ⟨o, ho, _⟩ := p.isList
    exact absurd (Heap.lt_size (e ▸ ho)) (Nat.lt_irrefl _)
  unfold unpackItems notIterableAtAll
  refine wpAny_bind (wpAny_bind (wpAny_specialOf (T := "list") ?_ (by rfl) ?_))
  · obtain ⟨o, n, ho, c, _⟩ := p
    exact ⟨o, ho, c⟩
  refine wpAny_ite_true rfl (wpAny_pure ?_)
  refine wpAny_ite_false (by decide) ?_
  refine wpAny_bind (wpAny_holding (wpAny_pyIter_list p.isList ?_))
  have hl : s.heap.IsList a (u0 :: us).toArray := p.isList
  have W : Walks X.prog X.w X.A s.heap.objs.size [s.heap.objs.size, a] [s.heap.objs.size] (u0 :: us).toArray.size (fun i v => (u0 :: us).toArray[i]? = some v) (fun i h => h.IsListIter s.heap.objs.size a i ∧ h.IsList a (u0 :: us).toArray) := Walks.list hd _ _ ne _
  have W' : Walks X.prog X.w X.A.in1 s.heap.objs.size [s.heap.objs.size, a] [s.heap.objs.size] (u0 :: us).toArray.size (fun i v => (u0 :: us).toArray[i]? = some v) (fun i h => h.IsListIter s.heap.objs.size a i ∧ h.IsList a (u0 :: us).toArray) := Walks.list (A := X.A.in1) (show X.A.handled = none from hd) _ _ ne _
  refine wpAny_bind (wpAny_holding (draw_walk W 1 0 _ _ (by simp) ⟨⟨_, Heap.get?_push_size s.heap (by rfl), rfl, rfl⟩, hl.push _⟩ fun vs h' tk hv hp st fr => ?_))
  obtain ⟨v, rfl⟩ : ∃ v, vs = [v] := by
    match vs, hv with
    | [v], _ => exact ⟨v, rfl⟩
  have ev : v = u0 := by
    have := hp 0 v rfl
    simpa using this.symm
  subst ev
  refine wpAny_ite_false (by simp) ?_
  have W2 : WalksS X.prog X.w X.A.in1 s.heap.objs.size [s.heap.objs.size, a] [s.heap.objs.size] (fun a b => b = a) us.length (fun i u => us[i]? = some u) (fun i s' => s'.heap.IsListIter s.heap.objs.size a (i + 1) ∧ s'.heap.IsList a (v :: us).toArray) :=
    ⟨W'.toS.sub, W'.toS.grefl, W'.toS.gtrans, fun i s' h' tk st _ k => W'.frame (i + 1) _ _ st k,
      fun i s' Q E hi st q => W'.toS.item (i + 1) s' Q E (by simp; omega) st fun u s2 pu => q u s2 (by simpa using pu),
      fun s' Q E st q => W'.toS.done s' Q E (by simpa using st) q, fun i s' Q E st q => W'.toS.self (i + 1) s' Q E st q⟩
  have fr0 : ∀ b o, s.heap.get? b = some o → h'.get? b = some o := fun b o hb => by
    have lb := Heap.lt_size hb
    exact fr b o (fun m => Nat.ne_of_lt lb (List.mem_singleton.mp m)) (Heap.get?_push_of_some _ hb)
  have szI : s.heap.objs.size < h'.objs.size := by
    obtain ⟨⟨o, ho, _⟩, _⟩ := st
    exact Heap.lt_size ho
  have sza : a < h'.objs.size := by
    obtain ⟨_, o, ho, _⟩ := st
    exact Heap.lt_size ho
  have hz' : us.length ≤ sizeLine := by
    have := rs.length
    have := r1.length
    simp at hz
    omega
  refine wpAny_bind (wpAny_holding (wpAny_collect_iter (T := "list_iterator") (.inr (.inr (.inl rfl))) W2 (fun i s' st => ?_) st (fun b hb => ?_) (.head _) (fun s2 acc mv it => ?_) hz'))
  · obtain ⟨⟨o, ho, c, _⟩, _⟩ := st
    exact ⟨o, ho, c⟩
  · rcases List.mem_cons.mp hb with e | e
    · rw [e]; exact szI
    · rw [List.mem_singleton.mp e]; exact sza
  have ea : acc.toList = us := by
    obtain ⟨e1, e2⟩ := it
    refine List.ext_getElem (by simpa using e1) fun j h1 h2 => ?_
    have : us[j]? = some acc[j] := e2 j acc[j] (Array.getElem?_eq_getElem (by simpa using h1))
    rw [List.getElem?_eq_getElem h2] at this
    simpa using (Option.some.inj this).symm
  rw [ea]
  refine wpAny_ite_false (by simp) ?_
  have f1 : ∀ b o, s.heap.get? b = some o → s2.heap.get? b = some o := fun b o hb => by
    have lb := Heap.lt_size hb
    exact mv.heap b o (fun m => Nat.ne_of_lt lb (List.mem_singleton.mp m)) (fr0 b o hb)
  have et : List.take (us.length - (2 - 1 - 1)) us = us := by simp
  have edp : List.drop (us.length - (2 - 1 - 1)) us = [] := by simp
  show wpAny _ _ ((newList (List.take (us.length - (2 - 1 - 1)) us)) >>= fun l => pure ([v] ++ [l] ++ List.drop (us.length - (2 - 1 - 1)) us)) _ _ _
  rw [et, edp]
  refine wpAny_bind (wpAny_newList (wpAny_pure ?_) hz')
  have I2 : L2.Inv X pins σ H s2 := by
    have e : s2 = { heap := s2.heap, gens := s.gens, drawn := s.drawn, toks := s2.toks, os := s.os } := by
      have g1 : s2.gens = s.gens := mv.gens
      have g2 : s2.drawn = s.drawn := mv.drawn
      have g3 : s2.os = s.os := mv.os
      rw [← g1, ← g2, ← g3]
    rw [e]
    exact I.kept f1
  have nD : H s2.heap.objs.size = none := I2.hok.fresh (Nat.le_refl _)
  have new : ObjOk X.prog X.w (upd H s2.heap.objs.size (.lst xs)) (s2.heap.push { cls := Value.type "list", data := Data.seq us.toArray }) s2.heap.objs.size (.lst xs) :=
    ⟨by simp at hz; omega, us, 0, r1, Heap.get?_push_size s2.heap (by rfl)⟩
  have I3 : L2.Inv X pins σ (upd H s2.heap.objs.size (.lst xs)) { s2 with heap := s2.heap.push { cls := Value.type "list", data := Data.seq us.toArray } } :=
    I2.turnedNew (ch := []) (t' := s2.toks) (fun b o _ hb => Heap.get?_push_of_some _ hb) (fun b hb => by cases hb) (Nat.le_refl _) new
  have neD : s2.heap.objs.size ≠ a := fun e => by
    obtain ⟨o, n, ho, _⟩ := p
    exact absurd (Heap.lt_size (f1 _ _ ho)) (by rw [e]; exact Nat.lt_irrefl _)
  have := h.run pins _ σ _ [x, .ref s2.heap.objs.size] [v, .ref s2.heap.objs.size] Q I3 (.cons r0 (.cons rfl .nil)) (q _ nD neD)
  rw [eq1]
  exact this
end Rm

set_option maxRecDepth 100000
set_option maxHeartbeats 4000000
namespace Rm
open PySem PySem.Spec L2
open PyProof.Rows hiding St

/-! ### zip of a list or tuple with a list or tuple -/
def SqX (K : PySem.W.Frag) (t : Bool) (H : Hp) (a : Addr) (xs : List V) : Prop := match t with
  | true => SqT K H a xs
  | false => SqL K H a xs
def IsX (t : Bool) (h : Heap) (a : Addr) (its : Array Value) : Prop := match t with
  | true => h.IsTuple a its
  | false => h.IsList a its
def IxX (t : Bool) (h : Heap) (it a : Addr) (i : Nat) : Prop := match t with
  | true => h.IsTupleIter it a i
  | false => h.IsListIter it a i
def oX (t : Bool) (a : Addr) : Obj := match t with
  | true => { cls := Value.type "tuple_iterator", data := Data.fields #[Value.ref a, Value.int 0 0] }
  | false => { cls := Value.type "list_iterator", data := Data.fields #[Value.ref a, Value.int 0 0] }
theorem draws_x {P : Program} {w : World} {A : Around} (hd : A.handled = none) (t : Bool) (it a : Addr) (ne : a ≠ it) (its : Array Value) :
    Draws P w A it [it, a] its.size (fun i v => its[i]? = some v) fun i h => IxX t h it a i ∧ IsX t h a its := by
  cases t with
  | true => exact Draws.tuple hd it a ne its
  | false => exact Draws.list hd it a ne its
theorem begins_x (t : Bool) (a : Addr) (its : Array Value) : Begins (.ref a) (oX t a) fun h => IsX t h a its := by
  cases t with
  | true => exact begins_tuple a its
  | false => exact begins_list a its
theorem ix_o {t : Bool} {h : Heap} {it a : Addr} (e : h.get? it = some (oX t a)) : IxX t h it a 0 := by
  cases t with
  | true => exact ⟨_, e, rfl, rfl⟩
  | false => exact ⟨_, e, rfl, rfl⟩
theorem IxX.obj {t : Bool} {h : Heap} {it a : Addr} {i : Nat} (e : IxX t h it a i) : ∃ o, h.get? it = some o ∧ ∀ v : Option Value, o.data ≠ Data.cell v := by
  cases t with
  | true =>
    obtain ⟨o, ho, _, hd⟩ := e
    exact ⟨o, ho, fun v q => by rw [hd] at q; cases q⟩
  | false =>
    obtain ⟨o, ho, _, hd⟩ := e
    exact ⟨o, ho, fun v q => by rw [hd] at q; cases q⟩
theorem IxX.at {t : Bool} {h h' : Heap} {it a : Addr} {i : Nat} (e : IxX t h it a i) (k : ∀ o, h.get? it = some o → h'.get? it = some o) : IxX t h' it a i := by
  cases t with
  | true =>
    obtain ⟨o, ho, r⟩ := e
    exact ⟨o, k o ho, r⟩
  | false =>
    obtain ⟨o, ho, r⟩ := e
    exact ⟨o, k o ho, r⟩
theorem inv_x {X : Cx} {pins : List (Addr × Obj)} {σ : L2.St} {H : Hp} {s : Shared} {t : Bool} {a : Addr} {xs : List V} (I : L2.Inv X pins σ H s) (h : SqX X.K t H a xs) :
    ∃ its, Vals xs its ∧ IsX t s.heap a its.toArray ∧ xs.length ≤ sizeLine := by
  cases t with
  | true => exact I.tuple h
  | false =>
    obtain ⟨its, r, p, l⟩ := I.list h
    exact ⟨its, r, p.isList, l⟩
theorem inj_x {X : Cx} {pins : List (Addr × Obj)} {σ : L2.St} {H : Hp} {s : Shared} {t : Bool} {a : Addr} {xs ys : List V} (I : L2.Inv X pins σ H s) (h : SqX X.K t H a xs) (h' : SqX X.K t H a ys) : xs = ys := by
  cases t with
  | true => exact I.tuple_inj h h'
  | false => exact I.list_inj h h'
theorem IsX.lt {t : Bool} {h : Heap} {a : Addr} {its : Array Value} (e : IsX t h a its) : a < h.objs.size := by
  cases t with
  | true =>
    obtain ⟨o, ho, _⟩ := e
    exact Heap.lt_size ho
  | false =>
    obtain ⟨o, ho, _⟩ := e
    exact Heap.lt_size ho
def ItzX (K : PySem.W.Frag) (t u : Bool) (a b : Addr) : It where
  go := fun i H => ∃ (xs ys : List V) (x y : V), SqX K t H a xs ∧ SqX K u H b ys ∧ xs[i]? = some x ∧ ys[i]? = some y
  yld := fun i H v H' => ∃ T x y, v = .ref T ∧ H T = none ∧ H' = upd H T (.tup [x, y]) ∧ (∀ xs, SqX K t H a xs → xs[i]? = some x) ∧ ∀ ys, SqX K u H b ys → ys[i]? = some y
  stop := fun i H => ∃ xs ys : List V, SqX K t H a xs ∧ SqX K u H b ys ∧ i ≤ xs.length ∧ i ≤ ys.length ∧ (xs.length = i ∨ ys.length = i)
theorem walk_zipX {K : PySem.W.Frag} {t u : Bool} {a b : Addr} {xs ys : List V} {n : Nat} (hn : n = min xs.length ys.length) :
    Walk (ItzX K t u a b) n (fun H => SqX K t H a xs ∧ SqX K u H b ys) (YPair (fun i => xs[i]?) fun i => ys[i]?) := by
  refine ⟨fun i _ hi q => ⟨xs, ys, _, _, q.1, q.2, List.getElem?_eq_getElem (by omega), List.getElem?_eq_getElem (by omega)⟩, fun _ q => ⟨xs, ys, q.1, q.2, by omega, by omega, by omega⟩, fun i H v H' _ q y => ?_⟩
  obtain ⟨T, x, y, h1, h2, h3, h4, h5⟩ := y
  exact ⟨T, x, y, h1, h2, h3, h4 xs q.1, h5 ys q.2⟩
theorem turn_zipX {P : Program} {w : World} {K : PySem.W.Frag} {elts : List PySem.Expr} {kk : Nat} {tpos : Pos} {t u : Bool} {a b z TI TO i1 i2 : Addr} (Z : ZipSep2 z TI TO i1 i2 [i1, a] [i2, b]) (na : a ≠ i1) (nb : b ≠ i2) :
    Turn P w K (.Tuple elts kk tpos) (ItzX K t u a b) [z, TI, TO, i1, i2] z (fun i h => IsZip h z TI TO .none ∧ IsTupOf2 h TI (.ref i1) (.ref i2) ∧ (∃ x y, IsTupOf2 h TO x y) ∧ IxX t h i1 a i ∧ IxX u h i2 b i) where
  mem := .head _
  obj := fun i h st c hc => by
    obtain ⟨s1, s2, ⟨x, y, s3⟩, s4, s5⟩ := st
    simp only [List.mem_cons, List.not_mem_nil, or_false] at hc
    rcases hc with e | e | e | e | e
    · rw [e]; exact ⟨_, s1, fun v q => nomatch q⟩
    · rw [e]; exact ⟨_, s2, fun v q => nomatch q⟩
    · rw [e]; exact ⟨_, s3, fun v q => nomatch q⟩
    · rw [e]; exact s4.obj
    · rw [e]; exact s5.obj
  keep := fun i h h' st k => by
    obtain ⟨s1, s2, ⟨x, y, s3⟩, s4, s5⟩ := st
    exact ⟨k z (by simp) _ s1, k TI (by simp) _ s2, ⟨x, y, k TO (by simp) _ s3⟩, s4.at fun o e => k i1 (by simp) o e, s5.at fun o e => k i2 (by simp) o e⟩
  item := by
    intro X hP hw hK hc i pins s σ H E I hf st hg
    subst hP hw hK
    obtain ⟨s1, s2, ⟨x0, y0, s3⟩, s4, s5⟩ := st
    obtain ⟨xs, ys, x, y, qx, qy, hx, hy⟩ := hg
    obtain ⟨ix, rx, px, lx⟩ := inv_x I qx
    obtain ⟨iy, ry, py, ly⟩ := inv_x I qy
    obtain ⟨ux, hux, rux⟩ := rx.get hx
    obtain ⟨uy, huy, ruy⟩ := ry.get hy
    have nx : i < ix.toArray.size := by
      have := List.getElem?_eq_some_iff.mp hux
      simpa using this.1
    have ny : i < iy.toArray.size := by
      have := List.getElem?_eq_some_iff.mp huy
      simpa using this.1
    have hd : X.A.in1.handled = none := show X.A.handled = none from I.ok.hd hc
    refine wpAny_pyNext_zipD2_item Z (draws_x hd t i1 a na _) (draws_x hd u i2 b nb _) s1 s2 s3 ⟨s4, px⟩ ⟨s5, py⟩ nx ny fun x1 x2 h' tk p1 p2 hz hTO t1 t2 hT hsz hk => ?_
    have e1 : x1 = ux := by
      have : ix.toArray[i]? = some x1 := p1
      rw [List.getElem?_toArray, hux] at this
      exact (Option.some.inj this).symm
    have e2 : x2 = uy := by
      have : iy.toArray[i]? = some x2 := p2
      rw [List.getElem?_toArray, huy] at this
      exact (Option.some.inj this).symm
    subst e1 e2
    have lz : z < s.heap.objs.size := Heap.lt_size s1
    have lTI : TI < s.heap.objs.size := Heap.lt_size s2
    have lTO : TO < s.heap.objs.size := Heap.lt_size s3
    have l1 : i1 < s.heap.objs.size := let ⟨_, q, _⟩ := s4.obj; Heap.lt_size q
    have l2 : i2 < s.heap.objs.size := let ⟨_, q, _⟩ := s5.obj; Heap.lt_size q
    refine ⟨_, rfl, wpAny_letOwnedTupleGo_zip (s := { s with heap := h', toks := tk }) hz fun h'' hz' sb => ?_⟩
    have hT2 : IsTupOf2 h'' s.heap.objs.size x1 x2 := (sb.2 _ (Nat.ne_of_gt lz)).trans hT
    have new : ObjOk X.prog X.w (upd H s.heap.objs.size (.tup [x, y])) h'' s.heap.objs.size (.tup [x, y]) :=
      ⟨show 2 ≤ sizeLine by decide, [x1, x2], .cons rux (.cons ruy .nil), ⟨_, hT2, rfl, _, rfl⟩⟩
    have I1 : L2.Inv X pins σ (upd H s.heap.objs.size (.tup [x, y])) { s with heap := h'', toks := tk } :=
      I.turnedNew (ch := [z, TI, TO, i1, i2]) (fun c ob hb q => by
        simp only [List.mem_cons, List.not_mem_nil, or_false, not_or] at hb
        exact (sb.2 c hb.1).trans (hk c ob hb.1 hb.2.2.1 hb.2.2.2.1 hb.2.2.2.2 q)) hf (Nat.le_refl _) new
    refine ⟨.ref s.heap.objs.size, _, I1, rfl, ⟨_, x, y, rfl, I.hok.fresh (Nat.le_refl _), rfl, fun zs hz => by rw [inj_x I hz qx]; exact hx, fun zs hz => by rw [inj_x I hz qy]; exact hy⟩, ⟨hz', ?_, ⟨x1, x2, (sb.2 TO Z.TOz).trans hTO⟩, t1.1.at fun o e => ?_, t2.1.at fun o e => ?_⟩, fun c hc => ?_⟩
    · refine (sb.2 TI Z.TIz).trans (hk TI _ Z.TIz Z.TITO Z.TIi1 Z.TIi2 s2)
    · exact (sb.2 i1 (fun e => Z.zf1 (e ▸ .head _))).trans e
    · exact (sb.2 i2 (fun e => Z.zf2 (e ▸ .head _))).trans e
    · have hb' : c < s.heap.objs.size := by
        simp only [List.mem_cons, List.not_mem_nil, or_false] at hc
        rcases hc with e | e | e | e | e
        · rw [e]; exact lz
        · rw [e]; exact lTI
        · rw [e]; exact lTO
        · rw [e]; exact l1
        · rw [e]; exact l2
      rw [upd_ne (Nat.ne_of_lt hb')]
      exact (hf c hc).1
  done := by
    intro X hP hw hK hc i pins s σ H E I hf st hg
    subst hP hw hK
    obtain ⟨s1, s2, ⟨x0, y0, s3⟩, s4, s5⟩ := st
    obtain ⟨xs, ys, qx, qy, h1, h2, h3⟩ := hg
    obtain ⟨ix, rx, px, lx⟩ := inv_x I qx
    obtain ⟨iy, ry, py, ly⟩ := inv_x I qy
    have hd : X.A.in1.handled = none := show X.A.handled = none from I.ok.hd hc
    have ex := rx.length
    have ey := ry.length
    refine wpAny_pyNext_zipD2_end Z (draws_x hd t i1 a na _) (draws_x hd u i2 b nb _) s1 s2 s3 ⟨s4, px⟩ ⟨s5, py⟩ (by simp; omega) (by simp; omega) (by simp; omega) fun h' tk hk => ⟨rfl, ?_⟩
    exact I.turnedL (ch := [z, TI, TO, i1, i2]) (fun c ob hb q => by
        simp only [List.mem_cons, List.not_mem_nil, or_false, not_or] at hb
        exact hk c ob hb.1 hb.2.2.1 hb.2.2.2.1 hb.2.2.2.2 q) hf
  self := fun A i s Q E st h => wpAny_pyIter_zip st.1 h
def iZipX (K : PySem.W.Frag) (ta : TA) : TI := fun σ H R => ta σ H fun vs H1 => ∃ t u a b xs ys, vs = [.ref a, .ref b] ∧ SqX K t H1 a xs ∧ SqX K u H1 b ys ∧ R (ItzX K t u a b) H1
theorem nm2 {n a b : Addr} (h1 : n ≠ a) (h2 : n ≠ b) : ¬ n ∈ [a, b] := fun m => by
  rcases List.mem_cons.mp m with e | e
  · exact h1 e
  · exact h2 (List.mem_singleton.mp e)
theorem zsep {n a b : Nat} (ha : a < n) (hb : b < n) : @ZipSep2 (n + 4) (n + 2) (n + 3) n (n + 1) [n, a] [n + 1, b] :=
  ⟨Nat.ne_of_lt (by omega), Nat.ne_of_lt (by omega), Nat.ne_of_lt (by omega), Nat.ne_of_gt (by omega), .head _, nm2 (Nat.ne_of_gt (by omega)) (Nat.ne_of_gt (by omega)), nm2 (Nat.ne_of_gt (by omega)) (Nat.ne_of_gt (by omega)),
   Nat.ne_of_gt (by omega), .head _, nm2 (Nat.ne_of_gt (by omega)) (Nat.ne_of_gt (by omega)), nm2 (Nat.ne_of_gt (by omega)) (Nat.ne_of_gt (by omega)), nm2 (Nat.ne_of_lt (by omega)) (Nat.ne_of_gt (by omega)), nm2 (Nat.ne_of_gt (by omega)) (Nat.ne_of_gt (by omega))⟩
theorem fiveLe {n c : Nat} (h : c ∈ [n + 4, n + 2, n + 3, n, n + 1]) : n ≤ c := by
  simp only [List.mem_cons, List.not_mem_nil, or_false] at h
  omega
theorem pi_zipX {X : Cx} {e e2 : PySem.Expr} {ta : TA} {p pos tpos : Pos} {elts : List PySem.Expr} {kk : Nat} (hg : Gl X "zip") (hm : X.mg "zip" = none) (ha : PA X [e, e2] ta)
    (hs : starEach [e, e2] X.env = (false, eval e X.env) :: starEach [e2] X.env := by rfl) (hn : (backTo pos (starEach [e2] X.env)).any (·.1) = false := by rfl) :
    PI X (.Tuple elts kk tpos) (.Call (.Name "zip" p) [e, e2] [] pos) (iZipX X.K ta) := by
  refine ⟨fun pins s σ H R I h => ?_⟩
  refine Call_ (ld_blt I hg hm boot_zip (PyProof.Rows.callWith_type1 (thn (ha.run pos pins s σ H _ I h) fun us s1 ⟨vs, H1, I1, r1, q1⟩ => ?_) hs hn))
  obtain ⟨t, u, a, b, xs, ys, ex, qx, qy, q⟩ := q1
  subst ex
  obtain ⟨u1, u2, rfl, ra, rb⟩ := vals2 r1
  cases ra
  cases rb
  obtain ⟨ix, rx, px, lx⟩ := inv_x I1 qx
  obtain ⟨iy, ry, py, ly⟩ := inv_x I1 qy
  refine zip_begins2 (begins_x t a ix.toArray) (begins_x u b iy.toArray) px py fun h' hz h2 h3 g1 g2 hsz hk => wpAny_pyIter_zip hz ?_
  have I2 : L2.Inv X pins σ H1 { s1 with heap := h' } := I1.kept (t' := s1.toks) hk
  have la := px.lt
  have lb := py.lt
  refine ⟨s1.heap.objs.size + 4, [s1.heap.objs.size + 4, s1.heap.objs.size + 2, s1.heap.objs.size + 3, s1.heap.objs.size, s1.heap.objs.size + 1], _, _, H1, rfl, I2, turn_zipX (zsep la lb) (Nat.ne_of_lt la) (Nat.ne_of_lt (Nat.lt_succ_of_lt lb)), ⟨hz, h2, ⟨_, _, h3⟩, ix_o g1, ix_o g2⟩, fun c hc => ?_, q⟩
  have hle : s1.heap.objs.size ≤ c := fiveLe hc
  exact I1.fpOk hle (I1.hok.fresh hle)

/-! ### all(a list of bools) -/
def rAll (K : PySem.W.Frag) : List V → Hp → VK → Prop := fun xs H Q => ∃ (a : Addr) (bs : List Bool), xs = [.ref a] ∧ SqL K H a (bs.map V.bl) ∧ Q (.bl (bs.all id)) H
theorem call_allL {X : Cx} (hc : X.calm = true) : CallR X (.builtin "all") (rAll X.K) := by
  intro pins s σ H xs us Q I r h
  obtain ⟨a, bs, rfl, hq, q⟩ := h
  obtain ⟨u, rfl, ra⟩ : ∃ u, us = [u] ∧ RelV (.ref a) u := by
    cases r with
    | cons h t =>
      cases t
      exact ⟨_, rfl, h⟩
  cases ra
  obtain ⟨its, rv, p, hz⟩ := I.list hq
  have hd : X.A.handled = none := I.ok.hd hc
  have ne : a ≠ s.heap.objs.size := fun e => by
    obtain ⟨o, ho, _⟩ := p.isList
    exact absurd (Heap.lt_size (e ▸ ho)) (Nat.lt_irrefl _)
  have hl := rv.length
  refine call_all_walk (wpAny_pyIter_list p.isList ?_)
  refine ⟨s.heap.objs.size, _, _, _, _, _, fun i => bs.getD i true, rfl, Walks.list (A := X.A.in1) (show X.A.handled = none from hd) _ _ ne its.toArray, ⟨⟨_, Heap.get?_push_size s.heap (by rfl), rfl, rfl⟩, p.isList.push _⟩, ?_, fun h' tk fr => ?_⟩
  · intro i v s' Q' E' pv hq'
    have pv' : its[i]? = some v := by simpa using pv
    have li : i < bs.length := by
      have := (List.getElem?_eq_some_iff.mp pv').1
      simp at hl
      omega
    have eb : (bs.map V.bl)[i]? = some (.bl bs[i]) := by simp [li]
    obtain ⟨u, hu, ru⟩ := rv.get eb
    rw [pv'] at hu
    cases Option.some.inj hu
    cases ru
    have : bs.getD i true = bs[i] := by simp [li]
    have hq2 : Q' (bs.getD i true) s' := hq'
    rw [this] at hq2
    exact wpAny_pure hq2
  · have e : (List.range its.toArray.size).all (fun i => bs.getD i true) = bs.all id := by
      have hs : its.toArray.size = bs.length := by simp at hl ⊢; omega
      rw [hs]
      rw [Bool.eq_iff_iff]
      simp only [List.all_eq_true, List.mem_range]
      constructor
      · intro h x hx
        obtain ⟨j, hj, e⟩ := List.getElem_of_mem hx
        have := h j hj
        simp [hj, e] at this
        exact this
      · intro h j hj
        simp [hj]
        exact h _ (List.getElem_mem hj)
    rw [e]
    refine ⟨V.bl (bs.all id), H, I.kept (t' := tk) fun b o hb => ?_, rfl, q⟩
    have lb := Heap.lt_size hb
    exact fr b o (fun m => Nat.ne_of_lt lb (List.mem_singleton.mp m)) (Heap.get?_push_of_some _ hb)
end Rm

set_option maxRecDepth 100000
set_option maxHeartbeats 4000000
namespace Rm
open PySem PySem.Spec L2
open PyProof.Rows hiding St

/-! ### a class of keywords alone -/
structure KwS (fd : FuncData) (ps ks : List Str) : Prop where
  to : ∀ (s : Shared) (u : Value) (ws : List Value), ws.length = ks.length → BindsTo s fd ⟨[u], ks.zip ws⟩ (ps.zip (u :: ws))
def CnKs (P : Program) (w : World) (K : PySem.W.Frag) (mg : Str → Option Value) (base : Heap) (CX : CXT)
    (k : Nat) (x : Str) (C : Addr) (ps ks : List Str) (sp : Sp) : Prop :=
  ∃ f fd, mg x = some (.ref C) ∧ Mk K C f ∧ KwS fd ps ks ∧ FnG P w K mg base CX k f fd ps sp
def tMakeKs (C : Addr) (m : Nat) (sp : Sp) (E : XK) (t : TA) : TE := fun σ H Q => t σ H fun zs H2 => zs.length = m ∧
  ∀ z dx, H2 z = none → H2 dx = none → dx ≠ z → sp (.ref z :: zs) (upd (upd H2 dx (.own z)) z (.ins C dx [])) (fun v H3 => v = .non ∧ Q (.ref z) H3) E
theorem pe_cnKs {X : Cx} {CX : CXT} {k : Nat} {C : Addr} {ps ks : List Str} {sp : Sp} {E : XK} {x : Str} {p pos : Pos} {kws : List Keyword} {tk : TA}
    (D : CnKs X.prog X.w X.K X.mg X.base CX k x C ps ks sp) (hr : Room (k + 1) X.A) (hG : Gd X.A) (ha : PK X kws tk) (hx : Passes CX X E)
    (hk : List.filterMap (fun x => x.fst) (backToKw pos (keywordEach kws X.env)) = ks := by rfl) (ho : ((backToKw pos (keywordEach kws X.env)).all fun x => x.fst.isSome) = true := by rfl)
    (hn : (((backTo pos (starEach [] X.env)).any fun x => x.fst) || (backToKw pos (keywordEach kws X.env)).any fun x => x.fst.isNone) = false := by rfl)
    (hg : Gl X x := by rfl) (hdb : (x == ("__debug__" : Str)) = false := by decide) :
    PE X (.Call (.Name x p) [] kws pos) (tMakeKs C ks.length sp E tk) := by
  obtain ⟨f, fd, hm, M, hb, F⟩ := D
  constructor
  intro pins s σ H Q I h
  refine wpAny_Call_Name_kw (ld_glob I hg hm ?_ hdb)
  refine PySem.W.callWith_KW0 (first := []) (h₀ := X.base) I.ok.mod.kin M.kp ho (thn (ha.run pos pins s σ H _ I h) fun us s2 hh => ?_) hn
  obtain ⟨vs, H2, I2, r1, hl, q2⟩ := hh
  refine ⟨I2.kIn, ?_⟩
  rw [hk]
  have hq := q2 (s2.heap.objs.size + 1) s2.heap.objs.size (I2.hok.fresh (Nat.le_succ _)) (I2.hok.fresh (Nat.le_refl _)) (Nat.ne_of_lt (Nat.lt_succ_self _))
  have I3 := Inv.made (C := C) I2
  refine wpAny_call (make_map (f := f) I2.kIn M.makes M.init (beq_iff_eq.mp M.fn)
    (codeAny_mono (F.run _ X.stack _ _ ⟨[Value.ref (s2.heap.objs.size + 1)], ks.zip us⟩ (Value.ref (s2.heap.objs.size + 1) :: us) _ _ E
      (hr.make C [] (ks.zip us)) (hG.make C [] (ks.zip us)) (I3.env0.make C [] (ks.zip us))
      (hb.to _ (Value.ref (s2.heap.objs.size + 1)) us (r1.length.symm.trans hl)) (show Vals (V.ref (s2.heap.objs.size + 1) :: vs) _ from .cons rfl r1) hq) fun r s' hq' => ?_))
  match r, hq' with
  | .error er, hq' => exact hx pins σ _ _ er s' I3 hq'
  | .ok (.ret z), hq' =>
    obtain ⟨v, H', I4, rz, ev, q3⟩ := I3.after hq'
    subst ev
    exact ⟨rz, V.ref (s2.heap.objs.size + 1), H', I4, rfl, q3⟩
  | .ok .next, hq' => exact False.elim hq'
  | .ok .brk, hq' => exact False.elim hq'
  | .ok .cont, hq' => exact False.elim hq'
end Rm

set_option maxRecDepth 100000
set_option maxHeartbeats 4000000
namespace Rm
open PySem PySem.Spec L2
open PyProof.Rows hiding St

/-! ### x in own, own[x], len(own) by own methods -/
def OwnM (P : Program) (w : World) (K : PySem.W.Frag) (mg : Str → Option Value) (base : Heap) (CX : CXT) (k : Nat) (C : Addr) (m : Str) (ps : List Str) (sp : Sp) : Prop :=
  ∃ f fd, PySem.W.findIn K (.ref C) m = some (some (.ref f)) ∧ PySem.W.isFn K (.ref f) = true ∧ PySem.W.fnIn K f = true ∧ Binds K fd ps [] ∧ FnG P w K mg base CX k f fd ps sp
def rOwnIn (neg : Bool) (C : Addr) (sp : Sp) : R2 := fun x y H Q => ∃ a dx fs, y = .ref a ∧ H a = some (.ins C dx fs) ∧ sp [y, x] H (fun z H' => ∃ c, z = .bl c ∧ Q (.bl (neg ^^ c)) H') E0
section
variable {X : Cx} {k : Nat} {C : Addr} {ps : List Str} {sp : Sp}
theorem called {CX : CXT} {f : Addr} {fd : FuncData} {E : St → XK} {pins : List (Addr × Obj)} {σ : L2.St} {H : Hp} {s : Shared} {Q : VK} {us : List Value} {vs : List V}
    (F : FnG X.prog X.w X.K X.mg X.base CX k f fd ps sp) (hb : Binds X.K fd ps []) (hr : Room (k + 1) X.A) (hG : Gd X.A) (hx : ∀ σ, PassesAt CX X σ (E σ)) (I : Inv X pins σ H s) (r : Vals vs us)
    (q : sp vs H Q (E σ)) : wpAny (model X.prog X.w) X.A.in1 (call (.ref f) us) (EP X pins σ Q) X.xe s := by
  have hl : us.length = ps.length := by rw [← r.length]; exact F.len _ _ _ _ q
  refine wpAny_call (codeAny_mono (F.run X.A.in1 X.stack s H ⟨us, []⟩ us vs Q (E σ) hr.in1 hG.in1 I.env0.in1 (by have := hb s us I.kIn (by simpa using hl); simpa using this) r q) fun rr s' hq => ?_)
  match rr, hq with
  | .error er, hq => exact hx σ pins H s er s' I hq
  | .ok (.ret z), hq => exact I.after hq
  | .ok .next, hq => exact False.elim hq
  | .ok .brk, hq => exact False.elim hq
  | .ok .cont, hq => exact False.elim hq
theorem called0 {CX : CXT} {f : Addr} {fd : FuncData} {E : St → XK} {pins : List (Addr × Obj)} {σ : L2.St} {H : Hp} {s : Shared} {Q : VK} {us : List Value} {vs : List V}
    (F : FnG X.prog X.w X.K X.mg X.base CX k f fd ps sp) (hb : Binds X.K fd ps []) (hr : Room k X.A) (hG : Gd X.A) (hx : ∀ σ, PassesAt CX X σ (E σ)) (I : Inv X pins σ H s) (r : Vals vs us)
    (q : sp vs H Q (E σ)) : wpAny (model X.prog X.w) X.A (call (.ref f) us) (EP X pins σ Q) X.xe s :=
  goesS (dvs := []) (ds := []) F hr hG hb .nil hx I r (by rw [List.append_nil]; exact q)
theorem op_ownIn (D : OwnM X.prog X.w X.K X.mg X.base CX0 k C "__contains__" ps sp) (hr : Room k X.A) (hG : Gd X.A) : OpR X (compareOp .In) (rOwnIn false C sp) := by
  intro pins s σ H x y v u Q I rx ry h
  obtain ⟨a, dx, fs, rfl, ha, q⟩ := h
  cases ry
  obtain ⟨f, fd, hs, hf, _, hb, F⟩ := D
  obtain ⟨mA, O, _⟩ := ins_get I.hok ha
  obtain ⟨od, J, _⟩ := O.look
  obtain ⟨m, hF⟩ := I.fr
  refine PySem.W.in_K hF I.ok.mod.kin J hs hf (thn (called0 (vs := [.ref a, x]) (E := fun _ => E0) F hb hr hG (fun _ _ _ _ _ _ _ h => h.elim) I (.cons rfl (.cons rx .nil)) q) fun r s' hq => ?_)
  obtain ⟨z, H', I', rz, c, rfl, qq⟩ := hq
  cases rz
  exact wpAny_pure ⟨.bl c, H', I', rfl, by simpa using qq⟩
theorem op_ownNotIn (D : OwnM X.prog X.w X.K X.mg X.base CX0 k C "__contains__" ps sp) (hr : Room k X.A) (hG : Gd X.A) : OpR X (compareOp .NotIn) (rOwnIn true C sp) := by
  intro pins s σ H x y v u Q I rx ry h
  obtain ⟨a, dx, fs, rfl, ha, q⟩ := h
  cases ry
  obtain ⟨f, fd, hs, hf, _, hb, F⟩ := D
  obtain ⟨mA, O, _⟩ := ins_get I.hok ha
  obtain ⟨od, J, _⟩ := O.look
  obtain ⟨m, hF⟩ := I.fr
  refine PySem.W.notIn_K hF I.ok.mod.kin J hs hf (thn (called0 (vs := [.ref a, x]) (E := fun _ => E0) F hb hr hG (fun _ _ _ _ _ _ _ h => h.elim) I (.cons rfl (.cons rx .nil)) q) fun r s' hq => ?_)
  obtain ⟨z, H', I', rz, c, rfl, qq⟩ := hq
  cases rz
  exact wpAny_pure ⟨.bl (!c), H', I', rfl, by simpa using qq⟩
def tIxOwn (C : Addr) (sp : Sp) (E : St → XK) (ta tb : TE) : TE := fun σ H Q => ta σ H fun x H1 => tb σ H1 fun y H2 => ∃ a dx fs, x = .ref a ∧ H2 a = some (.ins C dx fs) ∧ sp [x, y] H2 Q (E σ)
theorem pe_ixOwn {CX : CXT} {E : St → XK} {a b : PySem.Expr} {ta tb : TE} {pos : Pos} (D : OwnM X.prog X.w X.K X.mg X.base CX k C "__getitem__" ps sp) (hr : Room (k + 1) X.A) (hG : Gd X.A)
    (hx : ∀ σ, PassesAt CX X σ (E σ)) (ha : PE X a ta) (hb : PE X b tb)
    (hs : ∀ (x : Addr) (i : Value), subscripted b true (Value.ref x) i = runValue (Code.builtin "lifetime.subscript" { pos := [Value.ref x, i] }) := by intro _ _; rfl) :
    PE X (.Subscript a b pos) (tIxOwn C sp E ta tb) := by
  obtain ⟨f, fd, h1, hf, h2, hbi, F⟩ := D
  refine ⟨fun pins s σ H Q I h => ?_⟩
  refine PyProof.Rows.Subscript_ (thn (ha.run pins s σ H _ I h) fun u s1 ⟨x, H1, I1, rx, h1'⟩ => thn (hb.run pins s1 σ H1 _ I1 h1') fun v s2 ⟨y, H2, I2, ry, z, dx, fs, ex, hz, q⟩ => ?_)
  subst ex
  cases rx
  obtain ⟨mA, O, _⟩ := ins_get I2.hok hz
  obtain ⟨od, J, _⟩ := O.look
  obtain ⟨m, hF⟩ := I2.fr
  exact PySem.W.sub_K hF I2.ok.mod.kin J h1 h2 hf (called (vs := [.ref z, y]) F hbi hr hG hx I2 (.cons rfl (.cons ry .nil)) q) (hs _ _)
def rLenOwn (C : Addr) (sp : Sp) : List V → Hp → VK → Prop := fun xs H Q => ∃ a dx fs, xs = [.ref a] ∧ H a = some (.ins C dx fs) ∧ sp [.ref a] H (fun z H' => ∃ n : Nat, z = .int (n : Int) ∧ n < 2 ^ 63 ∧ Q (.int (n : Int)) H') E0
theorem call_lenOwn (D : OwnM X.prog X.w X.K X.mg X.base CX0 k C "__len__" ps sp) (hr : Room (k + 1) X.A) (hG : Gd X.A) : CallR X (.builtin "len") (rLenOwn C sp) := by
  intro pins s σ H xs us Q I r h
  obtain ⟨a, dx, fs, rfl, ha, q⟩ := h
  obtain ⟨u, rfl, ra⟩ : ∃ u, us = [u] ∧ RelV (.ref a) u := by
    cases r with
    | cons h t =>
      cases t
      exact ⟨_, rfl, h⟩
  cases ra
  obtain ⟨f, fd, h1, hf, h2, hbi, F⟩ := D
  obtain ⟨mA, O, _⟩ := ins_get I.hok ha
  obtain ⟨od, J, _⟩ := O.look
  obtain ⟨m, hF⟩ := I.fr
  refine PySem.W.len_K hF I.ok.mod.kin J h1 hf (thn (called (vs := [.ref a]) (E := fun _ => E0) F hbi hr hG (fun _ _ _ _ _ _ _ h => h.elim) I (.cons rfl .nil) q) fun r s' hq => ?_)
  obtain ⟨z, H', I', rz, n, rfl, ln, qq⟩ := hq
  obtain ⟨t, rfl⟩ := rz
  exact ⟨⟨by omega, by omega⟩, .int (n : Int), H', I'.tok _, ⟨_, rfl⟩, qq⟩
end
end Rm

set_option maxRecDepth 100000
set_option maxHeartbeats 4000000
namespace Rm
open PySem PySem.Spec L2
open PyProof.Rows hiding St

/-! ### data of tuples and plain values stay where tuples stay -/
mutual
def tO : PyData → Bool
  | .none => true
  | .bool _ => true
  | .int _ => true
  | .str _ => true
  | .tuple ds => tOA ds
  | _ => false
def tOA : List PyData → Bool
  | [] => true
  | d :: ds => tO d && tOA ds
end
mutual
theorem dx_keepT {K : PySem.W.Frag} {H H' : Hp} (k : TupK H H') : ∀ {d : PyData} {v : V}, tO d = true → Dx K H v d → Dx K H' v d
  | .none, _, _, .non => .non
  | .bool _, _, _, .bl b => .bl b
  | .int _, _, _, .int i => .int i
  | .str _, _, _, .str z => .str z
  | .tuple _, _, h, .tup hs ha => .tup (hs.imp (k _ _) id) (dxa_keepT k (by simpa only [tO] using h) ha)
theorem dxa_keepT {K : PySem.W.Frag} {H H' : Hp} (k : TupK H H') : ∀ {ds : List PyData} {vs : List V}, tOA ds = true → DxAll K H vs ds → DxAll K H' vs ds
  | [], _, _, .nil => .nil
  | d :: ds, _, h, .cons hx ha => by
    simp only [tOA, Bool.and_eq_true] at h
    exact .cons (dx_keepT k h.1 hx) (dxa_keepT k h.2 ha)
end
theorem tOA_of {ds : List PyData} (h : ∀ d ∈ ds, tO d = true) : tOA ds = true := by
  induction ds with
  | nil => rfl
  | cons d ds ih =>
    simp only [tOA, Bool.and_eq_true]
    exact ⟨h d (.head _), ih fun x hx => h x (.tail _ hx)⟩

/-! ### a def that may raise as one that does not -/
theorem FnG.quiet {P : Program} {w : World} {K : PySem.W.Frag} {mg : Str → Option Value} {base : Heap} {k : Nat} {f : Addr} {fd : FuncData} {ps : List Str} {sp : Sp} (F : FnG P w K mg base (L2.CX P w) k f fd ps sp) :
    FnG P w K mg base CX0 k f fd ps (fun vs H Q _ => sp vs H Q E0) :=
  ⟨fun vs H Q E h => F.len vs H Q E0 h, fun A outer s H ar us vs Q E hr hG e0 hb hv h => codeAny_mono (F.run A outer s H ar us vs Q E0 hr hG e0 hb hv h) fun r s' q => by
    match r, q with
    | .error e, q =>
      obtain ⟨_, _, _, _, _, _, _, _, _, _, _, _, z⟩ := q
      exact z.elim
    | .ok (.ret u), q => exact q
    | .ok .next, q => exact q
    | .ok .brk, q => exact q
    | .ok .cont, q => exact q⟩

/-! ### a method of keywords alone -/
def CmKs (P : Program) (w : World) (K : PySem.W.Frag) (mg : Str → Option Value) (base : Heap) (CX : CXT) (k : Nat) (C : Addr) (m : Str) (ps ks : List Str) (sp : Sp) : Prop :=
  ∃ f fd, Cls K C ∧ Meth K C m f ∧ KwS fd ps ks ∧ FnG P w K mg base CX k f fd ps sp
def tMethKs (C : Addr) (m : Str) (n : Nat) (sp : Sp) (E : XK) (ta : TE) (t : TA) : TE := fun σ H Q => ta σ H fun x H1 => ∃ a dx fs, x = .ref a ∧ H1 a = some (.ins C dx fs) ∧ List.lookup m fs = none ∧ t σ H1 fun zs H2 => zs.length = n ∧ sp (x :: zs) H2 Q E
theorem pe_cmKs {X : Cx} {CX : CXT} {k : Nat} {C : Addr} {m : Str} {ps ks : List Str} {sp : Sp} {E : XK} {pos apos : Pos} {o : PySem.Expr} {kws : List Keyword} {ta : TE} {tk : TA} {pl : Sem Bool}
    (D : CmKs X.prog X.w X.K X.mg X.base CX k C m ps ks sp) (hr : Room k X.A) (hG : Gd X.A) (he : PE X o ta) (ha : PK X kws tk) (hx : Passes CX X E)
    (hk : List.filterMap (fun x => x.fst) (backToKw pos (keywordEach kws X.env)) = ks := by rfl) (ho : ((backToKw pos (keywordEach kws X.env)).all fun x => x.fst.isSome) = true := by rfl)
    (hn : (((backTo pos (starEach [] X.env)).any fun x => x.fst) || (backToKw pos (keywordEach kws X.env)).any fun x => x.fst.isNone) = false := by rfl)
    (ht : eval (.Call (.Attribute o m apos) [] kws pos) X.env = (do
      let ov ← eval o X.env
      standAt apos.atName
      let (g, first) ← holding [ov] (getMethod ov m pl)
      callWith pos g first (backTo pos (starEach [] X.env)) (backToKw pos (keywordEach kws X.env))) := by rfl) :
    PE X (.Call (.Attribute o m apos) [] kws pos) (tMethKs C m ks.length sp E ta tk) := by
  obtain ⟨f, fd, c, hm, hb, F⟩ := D
  constructor
  intro pins s σ H Q I h
  refine PySem.W.methodCall_KW (pl := pl)
    (thn (he.run pins s σ H _ I h) fun u s1 ⟨z, H1, I1, rz, a, dx, fs, ez, ea, l, q⟩ => ?_) ht
  subst ez
  cases rz
  refine getmeth_ok I1 ea c hm l (PySem.W.callWith_KW0 (first := [.ref a]) (h₀ := X.base) I1.ok.mod.kin hm.kp ho
    (thn (ha.run pos pins s1 σ H1 _ I1 q) fun us s2 hh => ?_) hn)
  obtain ⟨vs, H2, I2, r1, hl, q2⟩ := hh
  refine ⟨I2.kIn, ?_⟩
  rw [hk]
  refine wpAny_call (codeAny_mono (F.run X.A X.stack s2 H2 ⟨[.ref a], ks.zip us⟩ (.ref a :: us) (.ref a :: vs) Q E hr hG I2.env0
    (hb.to s2 (.ref a) us (r1.length.symm.trans hl)) (.cons rfl r1) q2) fun r s' hq => came hx I2 hq)

/-! ### a dict == {} -/
def rEqDE : R2 := fun x y H Q => ∃ a kvs b, x = .ref a ∧ H a = some (.dK kvs) ∧ y = .ref b ∧ H b = some (.dK []) ∧ Q (.bl kvs.isEmpty) H
theorem op_eqDE {X : Cx} (hu : X.A.units < cLine) : OpR X (compareOp .Eq) rEqDE := by
  intro pins s σ H x y v u Q I rx ry h
  obtain ⟨a, kvs, b, rfl, ha, rfl, hb, q⟩ := h
  cases rx
  cases ry
  obtain ⟨la, na, vs, kv, da⟩ := I.hok _ _ ha
  obtain ⟨lb, nb, us, ku, db⟩ := I.hok _ _ hb
  have l1 := kv.length
  have l2 := ku.length
  have hl2 : us.length = 0 := by simpa using l2.symm
  refine PySem.W.rcP_dicts (r := true) na nb da db hu (fun e => ?_) _ _ ?_
  · have : vs = [] := List.eq_nil_of_length_eq_zero (by omega)
    subst this
    exact .nil
  · refine ⟨.bl kvs.isEmpty, H, I, ?_, q⟩
    have e : (vs.length == us.length && true) = kvs.isEmpty := by
      rw [hl2, ← l1, Bool.and_true]
      cases kvs <;> simp
    rw [e]
    rfl
end Rm

set_option maxRecDepth 100000
set_option maxHeartbeats 4000000
namespace Rm
open PySem PySem.Spec L2
open PyProof.Rows hiding St

/-! ### dicts of int keys as lists -/
def valD (D : List (Int × V)) (n : Int) : Option V := (D.find? fun e => decide (e.1 = n)).map (·.2)
def enV (D : List (Int × V)) : List (Key × V) := D.map fun e => (Sum.inl e.1, e.2)
theorem en_val (D : List (Int × V)) (n : Int) : valV (enV D) (Sum.inl n) = valD D n := by
  unfold valV valD enV
  rw [List.find?_map, Option.map_map]
  have e : ((fun kv : Key × V => decide (kv.1 = Sum.inl n)) ∘ fun e : Int × V => ((Sum.inl e.1 : Key), e.2)) = fun e => decide (e.1 = n) := by
    funext e
    simp
  rw [e]
  rfl
theorem en_put {D : List (Int × V)} {n : Int} {v : V} (h : valD D n = none) : putK (enV D) (Sum.inl n) v = enV (D ++ [(n, v)]) := by
  rw [putK_new v (by rw [en_val]; exact h)]
  unfold enV
  rw [List.map_append]
  rfl
def dropD (D : List (Int × V)) (n : Int) : List (Int × V) := D.filter fun e => decide (e.1 ≠ n)
theorem en_drop (D : List (Int × V)) (n : Int) : dropK (enV D) (Sum.inl n) = enV (dropD D n) := by
  unfold dropK enV dropD
  rw [List.filter_map]
  congr 1
  refine List.filter_congr fun e _ => ?_
  simp
theorem en_len (D : List (Int × V)) : (enV D).length = D.length := List.length_map ..
def hasD (D : List (Int × V)) : PyData → Bool
  | .int i => (valD D i).isSome
  | _ => false
theorem has_is {D : List (Int × V)} {d : PyData} (h : hasD D d = true) : ∃ i v, d = .int i ∧ valD D i = some v := by
  cases d with
  | int i =>
    cases e : valD D i with
    | none =>
      have h : (valD D i).isSome = true := h
      rw [e] at h
      cases h
    | some v => exact ⟨i, v, rfl, e⟩
  | _ => cases h
theorem sqt_put {K : PySem.W.Frag} {H : Hp} {t s : Addr} {xs : List V} {o : HO} {kvs : List (Key × V)} (h : SqT K H t xs) (hs : H s = some (.dK kvs)) : SqT K (upd H s o) t xs :=
  h.imp (TupK.put hs (fun _ e => by cases e) (fun _ _ e => by cases e) _ _) id
theorem val_drop {D : List (Int × V)} {n m : Int} (h : m ≠ n) : valD (dropD D n) m = valD D m := by
  induction D with
  | nil => rfl
  | cons e D ih =>
    obtain ⟨k, v⟩ := e
    by_cases c : k = n
    · have : k ≠ m := fun e => h (e.symm.trans c)
      simpa [valD, dropD, c, this, Ne.symm h] using ih
    · by_cases c2 : k = m
      · simp [valD, dropD, c, c2, h]
      · simpa [valD, dropD, c, c2] using ih
theorem drop_lt {D : List (Int × V)} {n : Int} (h : (valD D n).isSome = true) : (dropD D n).length < D.length := by
  induction D with
  | nil => cases h
  | cons e D ih =>
    obtain ⟨k, v⟩ := e
    by_cases c : k = n
    · rw [show dropD ((k, v) :: D) n = dropD D n by simp [dropD, c], List.length_cons]
      have : (dropD D n).length ≤ D.length := List.length_filter_le ..
      omega
    · have := ih (by simpa [valD, c] using h)
      rw [show dropD ((k, v) :: D) n = (k, v) :: dropD D n by simp [dropD, c], List.length_cons, List.length_cons]
      omega
/-- the value of a key that is there, set anew -/
def setD (D : List (Int × V)) (n : Int) (v : V) : List (Int × V) := D.map fun e => if e.1 = n then (e.1, v) else e
theorem en_set {D : List (Int × V)} {n : Int} {v : V} (h : (valD D n).isSome = true) : putK (enV D) (Sum.inl n) v = enV (setD D n v) := by
  have a : ((enV D).any fun kv => decide (kv.1 = Sum.inl n)) = true := by
    unfold valD at h
    rw [Option.isSome_map, List.find?_isSome] at h
    obtain ⟨e, he, c⟩ := h
    exact List.any_eq_true.mpr ⟨_, List.mem_map.mpr ⟨e, he, rfl⟩, by simpa using c⟩
  unfold putK
  rw [if_pos a]
  unfold enV setD
  rw [List.map_map, List.map_map]
  refine List.map_congr_left fun e _ => ?_
  by_cases c : e.1 = n
  · simp [c]
  · simp [c]
end Rm

set_option maxRecDepth 100000
set_option maxHeartbeats 4000000
namespace Rm
open PySem PySem.Spec L2
open PyProof.Rows hiding St

/-! ### del a[k], b[l] -/
def tDel (td ty : TE) (σ : L2.St) (H : Hp) (N : Hp → Prop) : Prop := td σ H fun x H1 => ty σ H1 fun y H2 => ∃ a kvs k, x = .ref a ∧ H2 a = some (.dK kvs) ∧ y = kV k ∧ (valV kvs k).isSome = true ∧ N (upd H2 a (.dK (dropK kvs k)))
theorem del_one {X : Cx} {o i : PySem.Expr} {tpos : Pos} {td ty : TE} {pins : List (Addr × Obj)} {s : Shared} {σ : L2.St} {H : Hp} {N : Hp → Prop} (ha : PE X o td) (hb : PE X i ty) (I : Inv X pins σ H s) (h : tDel td ty σ H N) :
    wpAny (model X.prog X.w) X.A (delete (o.Subscript i tpos) X.env) (fun _ s' => ∃ H', Inv X pins σ H' s' ∧ N H') X.xe s := by
  rw [arm_delete_Subscript]
  refine wpAny_bind (thn (ha.run pins s σ H _ I h) fun u s1 ⟨x, H1, I1, rx, q1⟩ => ?_)
  refine wpAny_bind (wpAny_holding (thn (hb.run pins s1 σ H1 _ I1 q1) fun v s2 ⟨y, H2, I2, ry, a, kvs, k, ex, hk, ey, hs, q⟩ => ?_))
  subst ex ey
  cases rx
  refine wpAny_bind (wpAny_standAt ?_)
  refine wpAny_bind (wpAny_holding (d_delItem I2 hk ry hs fun s' I3 => ?_))
  first
    | exact wpAny_release ⟨_, I3, q⟩
    | exact wpAny_pure ⟨_, I3, q⟩
def sDDel2 (t1 t2 t3 t4 : TE) : TS := fun D σ H => tDel t1 t2 σ H fun H1 => tDel t3 t4 σ H1 fun H2 => D.nx σ H2
theorem ps_ddel2 {X : Cx} {o i o2 i2 : PySem.Expr} {pos tpos tpos2 : Pos} {t1 t2 t3 t4 : TE} (h1 : PE X o t1) (h2 : PE X i t2) (h3 : PE X o2 t3) (h4 : PE X i2 t4) :
    PS X (.Delete [o.Subscript i tpos, o2.Subscript i2 tpos2] pos) (sDDel2 t1 t2 t3 t4) := by
  refine ⟨fun pins s σ H D I h => ?_⟩
  rw [arm_exec_Delete, arm_deleteEach_cons, arm_deleteEach_cons, arm_deleteEach_nil]
  refine wpAny_bind (wpAny_standAt ?_)
  refine wpAny_bind (wpAny_bind (thn (del_one h1 h2 I h) fun _ s1 ⟨H1, I1, q1⟩ => ?_))
  refine wpAny_bind (thn (del_one h3 h4 I1 q1) fun _ s2 ⟨H2, I2, q2⟩ => wpAny_pure (wpAny_pure ?_))
  exact ⟨σ, H2, I2, q2⟩
end Rm

set_option maxRecDepth 100000
set_option maxHeartbeats 4000000
namespace Rm
open PySem PySem.Spec L2
open PyProof.Rows hiding St

/-! ### transactions and their parts, as plain data -/
structure PI where
  holder : Int
  outer : Option Int
  released : Option Int
  ended : Option Int
  outcome : Str
structure FS where
  done : Int
  moment : Int
  work : List Int
  states : List Str
  stacks : List (List Int)
  parts : List PI
def oI : Option Int → V
  | none => .non
  | some i => .int i

/-! ### where they stand -/
inductive Ro where
  | obj | work | states | stacks | parts
  | stack (i : Nat)
  | part (i : Nat)
  deriving DecidableEq
def Ro.ok (S : FS) : Ro → Prop
  | .stack i => i < S.stacks.length
  | .part i => i < S.parts.length
  | _ => True
def partO (C dx : Addr) (p : PI) : HO :=
  .ins C dx [("holder", .int p.holder), ("outer", oI p.outer), ("released", oI p.released), ("ended", oI p.ended), ("outcome", .str p.outcome)]
def fatesO (C dx : Addr) (S : FS) (w s k p : Addr) : List (Str × V) :=
  [("_done", .int S.done), ("_commits", .int S.moment), ("_at_work", .ref w), ("_states", .ref s), ("_stacks", .ref k), ("_all_parts", .ref p)]
/-- what stands at a place; more: what a derived class has besides -/
def cont (C CP dx : Addr) (dp : Nat → Addr) (more : List (Str × V)) (S : FS) (ad : Ro → Addr) : Ro → HO
  | .obj => .ins C dx (fatesO C dx S (ad .work) (ad .states) (ad .stacks) (ad .parts) ++ more)
  | .work => .lst (S.work.map V.int)
  | .states => .lst (S.states.map V.str)
  | .stacks => .lst ((List.range S.stacks.length).map fun i => V.ref (ad (.stack i)))
  | .parts => .lst ((List.range S.parts.length).map fun i => V.ref (ad (.part i)))
  | .stack i => .lst ((S.stacks.getD i []).map V.int)
  | .part i => match S.parts[i]? with
    | some p => partO CP (dp i) p
    | none => .lst []
structure FsAt (C CP : Addr) (more : List (Str × V)) (H : Hp) (a : Addr) (S : FS) (ad : Ro → Addr) : Prop where
  at_ : ad .obj = a
  inj : ∀ r r', r.ok S → r'.ok S → ad r = ad r' → r = r'
  ex : ∃ dx dp, ∀ r, r.ok S → H (ad r) = some (cont C CP dx dp more S ad r)
/-- the places -/
def Foot (S : FS) (ad : Ro → Addr) (b : Addr) : Prop := ∃ r, r.ok S ∧ ad r = b
/-- all else stays -/
def Fr (F : Addr → Prop) (H H' : Hp) : Prop := ∀ b u, H b = some u → ¬ F b → H' b = some u
/-- no old thing joins -/
def Grow (F F' : Addr → Prop) (H : Hp) : Prop := ∀ b, F' b → F b ∨ H b = none
def FsA (C CP : Addr) (more : List (Str × V)) (H : Hp) (a : Addr) (S : FS) (F : Addr → Prop) : Prop := ∃ ad, FsAt C CP more H a S ad ∧ ∀ b, F b ↔ Foot S ad b
theorem Fr.refl {F : Addr → Prop} {H : Hp} : Fr F H H := fun _ _ h _ => h
theorem Fr.same {F : Addr → Prop} {H H' : Hp} (s : Same H H') : Fr F H H' := fun b u h _ => s b u h
theorem Fr.trans {F F' : Addr → Prop} {H H1 H2 : Hp} (a : Fr F H H1) (g : Grow F F' H) (b : Fr F' H1 H2) : Fr F H H2 := fun c u h n =>
  b c u (a c u h n) fun z => (g c z).elim n fun e => by rw [e] at h; cases h
theorem Grow.refl {F : Addr → Prop} {H : Hp} : Grow F F H := fun _ h => .inl h
theorem Grow.trans {F F' F2 : Addr → Prop} {H H1 : Hp} (a : Grow F F' H) (fr : Fr F H H1) (b : Grow F' F2 H1) : Grow F F2 H := fun c h =>
  (b c h).elim (a c) fun e => by
    by_cases z : F c
    · exact .inl z
    · cases q : H c with
      | none => exact .inr rfl
      | some u => rw [fr c u q z] at e; cases e
section
variable {C CP : Addr} {more : List (Str × V)} {H H' : Hp} {a : Addr} {S : FS} {ad : Ro → Addr} {F G : Addr → Prop}
theorem FsAt.up (h : FsAt C CP more H a S ad) (s : ∀ r, r.ok S → H' (ad r) = H (ad r)) : FsAt C CP more H' a S ad := by
  obtain ⟨h1, h2, dx, dp, h3⟩ := h
  exact ⟨h1, h2, dx, dp, fun r hr => (s r hr).trans (h3 r hr)⟩
theorem FsAt.has (h : FsAt C CP more H a S ad) {r : Ro} (hr : r.ok S) : ∃ u, H (ad r) = some u := by
  obtain ⟨_, _, dx, dp, h3⟩ := h
  exact ⟨_, h3 r hr⟩
theorem FsA.frame (h : FsA C CP more H a S F) (fr : Fr G H H') (d : ∀ b, F b → ¬ G b) : FsA C CP more H' a S F := by
  obtain ⟨ad, h, hF⟩ := h
  refine ⟨ad, h.up fun r hr => ?_, hF⟩
  obtain ⟨u, hu⟩ := h.has hr
  rw [hu]
  exact fr _ _ hu (d _ ((hF _).mpr ⟨r, hr, rfl⟩))
theorem FsA.same (h : FsA C CP more H a S F) (s : Same H H') : FsA C CP more H' a S F := h.frame (G := fun _ => False) (Fr.same s) fun _ _ z => z
theorem FsA.on (h : FsA C CP more H a S F) : ∀ b, F b → ∃ u, H b = some u := fun b hb => by
  obtain ⟨ad, h, hF⟩ := h
  obtain ⟨r, hr, rfl⟩ := (hF b).mp hb
  exact h.has hr
/-- a write at a place leaves the others -/
theorem FsAt.off (h : FsAt C CP more H a S ad) {r r' : Ro} {o : HO} (hr : r.ok S) (hr' : r'.ok S) (ne : r' ≠ r) : upd H (ad r) o (ad r') = H (ad r') :=
  upd_ne fun e => ne (h.inj _ _ hr' hr e)
/-- a write at one place -/
theorem FsAt.put {S' : FS} (h : FsAt C CP more H a S ad) {r : Ro} {o : HO} (hr : r.ok S) (hok : ∀ r' : Ro, r'.ok S' ↔ r'.ok S)
    (ho : ∀ dx dp, (∀ r, r.ok S → H (ad r) = some (cont C CP dx dp more S ad r)) → o = cont C CP dx dp more S' ad r)
    (hs : ∀ dx dp (r' : Ro), r'.ok S → r' ≠ r → cont C CP dx dp more S' ad r' = cont C CP dx dp more S ad r') : FsAt C CP more (upd H (ad r) o) a S' ad := by
  obtain ⟨h1, h2, dx, dp, h3⟩ := id h
  refine ⟨h1, fun x y hx hy => h2 x y ((hok x).mp hx) ((hok y).mp hy), dx, dp, fun x hx => ?_⟩
  have hx := (hok x).mp hx
  by_cases e : x = r
  · subst e
    rw [upd_same, ho dx dp h3]
  · rw [h.off hr hx e, h3 x hx, hs dx dp x hx e]
/-- a new thing takes a place, another one that knows it is written -/
theorem Foot.put {S' : FS} (hok : ∀ r' : Ro, r'.ok S' ↔ r'.ok S) : ∀ b, Foot S' ad b ↔ Foot S ad b := fun b =>
  ⟨fun ⟨r, h, e⟩ => ⟨r, (hok r).mp h, e⟩, fun ⟨r, h, e⟩ => ⟨r, (hok r).mpr h, e⟩⟩
end
/-- r takes the place y -/
def moveTo (ad : Ro → Addr) (r : Ro) (y : Addr) : Ro → Addr := fun x => if x = r then y else ad x
theorem move_at {ad : Ro → Addr} {r : Ro} {y : Addr} : moveTo ad r y r = y := if_pos rfl
theorem move_off {ad : Ro → Addr} {r x : Ro} {y : Addr} (h : x ≠ r) : moveTo ad r y x = ad x := if_neg h
end Rm

set_option maxRecDepth 100000
set_option maxHeartbeats 4000000
namespace Rm
open PySem PySem.Spec L2
open PyProof.Rows hiding St

/-! ### what a class of fates has -/
structure FC (K : PySem.W.Frag) (C : Addr) : Prop where
  cls : Cls K C
  n0 : NoAttr K C "_done"
  n1 : NoAttr K C "_commits"
  n2 : NoAttr K C "_at_work"
  n3 : NoAttr K C "_states"
  n4 : NoAttr K C "_stacks"
  n5 : NoAttr K C "_all_parts"
structure PC (K : PySem.W.Frag) (C : Addr) : Prop where
  cls : Cls K C
  n0 : NoAttr K C "holder"
  n1 : NoAttr K C "outer"
  n2 : NoAttr K C "released"
  n3 : NoAttr K C "ended"
  n4 : NoAttr K C "outcome"
/-! ### errors -/
inductive Ek where
  | ut | en | pr | fp | so | tm | up
  deriving DecidableEq
structure EA where
  ut : Addr
  en : Addr
  pr : Addr
  fp : Addr
  so : Addr
  tm : Addr
  up : Addr
def EA.c (A : EA) : Ek → Addr
  | .ut => A.ut | .en => A.en | .pr => A.pr | .fp => A.fp | .so => A.so | .tm => A.tm | .up => A.up
def Ek.f : Ek → Str
  | .ut => "value" | .en => "number" | .pr => "number" | .fp => "number" | .so => "number" | .tm => "limit" | .up => "value"
/-- the error k with what it keeps goes out -/
def Out (A : EA) (E : XK) (H : Hp) (k : Ek) (x : V) : Prop := ∀ e, H e = none → E (.ref (A.c k)) (some e) (upd H e (.xd [(k.f, x)]))
/-! ### what is asked of a number -/
def FS.st (S : FS) : PyData → Str
  | .int i => S.states.getD (i - 1).toNat ""
  | _ => ""
def FS.kn (S : FS) (d : PyData) : Option Ek := if isW 1 S.states.length d then none else some .ut
def FS.ru (S : FS) (d : PyData) : Option Ek := match S.kn d with
  | some k => some k
  | none => if S.st d = "committed" ∨ S.st d = "aborted" then some .en else none
def FS.fr (S : FS) (d : PyData) : Option Ek := match S.ru d with
  | some k => some k
  | none => if S.st d = "prepared" then some .pr else none
theorem isW_intF {lo hi : Int} {d : PyData} (h : isW lo hi d = true) : ∃ i, d = .int i ∧ lo ≤ i ∧ i ≤ hi := by
  cases d with
  | int i =>
    unfold isW at h
    rw [Bool.and_eq_true] at h
    exact ⟨i, rfl, of_decide_eq_true h.1, of_decide_eq_true h.2⟩
  | _ => cases h
theorem FS.kn_none {S : FS} {d : PyData} (h : S.kn d = none) : ∃ i : Nat, d = .int ((i : Int) + 1) ∧ i < S.states.length := by
  unfold FS.kn at h
  split at h
  · rename_i e
    obtain ⟨i, rfl, h1, h2⟩ := isW_intF e
    obtain ⟨n, hn⟩ := Int.eq_ofNat_of_zero_le (show 0 ≤ i - 1 by omega)
    refine ⟨n, ?_, by omega⟩
    congr 1
    omega
  · cases h
theorem FS.ru_none {S : FS} {d : PyData} (h : S.ru d = none) : S.kn d = none ∧ ¬ (S.st d = "committed" ∨ S.st d = "aborted") := by
  unfold FS.ru at h
  split at h
  · cases h
  · rename_i e
    refine ⟨e, ?_⟩
    split at h
    · cases h
    · assumption
theorem FS.fr_none {S : FS} {d : PyData} (h : S.fr d = none) : S.ru d = none ∧ ¬ S.st d = "prepared" := by
  unfold FS.fr at h
  split at h
  · cases h
  · rename_i e
    refine ⟨e, ?_⟩
    split at h
    · cases h
    · assumption
theorem FS.st_at {S : FS} {i : Nat} (h : i < S.states.length) : S.states[i]? = some (S.st (.int ((i : Int) + 1))) := by
  unfold FS.st
  simp only [Int.add_sub_cancel, Int.toNat_natCast]
  rw [List.getD_eq_getElem?_getD, List.getElem?_eq_getElem h]
  rfl
theorem st_atI {S : FS} {i : Nat} (h : i < S.states.length) : atI (S.states.map V.str) ((i : Int) + 1 - 1) = some (.str (S.st (.int ((i : Int) + 1)))) := by
  rw [Int.add_sub_cancel]
  exact atI_nat (by rw [List.getElem?_map, FS.st_at h]; rfl)
section
variable {C CP : Addr} {more : List (Str × V)} {H H' : Hp} {a : Addr} {S : FS} {ad : Ro → Addr} {F G : Addr → Prop}
/-- the object and its lists -/
structure Look (C : Addr) (more : List (Str × V)) (H : Hp) (a : Addr) (S : FS) (ad : Ro → Addr) (dx : Addr) : Prop where
  o : H a = some (.ins C dx (fatesO C dx S (ad .work) (ad .states) (ad .stacks) (ad .parts) ++ more))
  w : H (ad .work) = some (.lst (S.work.map V.int))
  s : H (ad .states) = some (.lst (S.states.map V.str))
  k : H (ad .stacks) = some (.lst ((List.range S.stacks.length).map fun i => V.ref (ad (.stack i))))
  p : H (ad .parts) = some (.lst ((List.range S.parts.length).map fun i => V.ref (ad (.part i))))
theorem FsAt.look (h : FsAt C CP more H a S ad) : ∃ dx, Look C more H a S ad dx := by
  obtain ⟨h1, h2, dx, dp, h3⟩ := h
  refine ⟨dx, ?_, h3 .work trivial, h3 .states trivial, h3 .stacks trivial, h3 .parts trivial⟩
  rw [← h1]
  exact h3 .obj trivial
theorem FsAt.stk (h : FsAt C CP more H a S ad) {i : Nat} {l : List Int} (hi : S.stacks[i]? = some l) : H (ad (.stack i)) = some (.lst (l.map V.int)) := by
  obtain ⟨h1, h2, dx, dp, h3⟩ := h
  have hl := (List.getElem?_eq_some_iff.mp hi).1
  rw [h3 (.stack i) hl]
  show some (HO.lst ((S.stacks.getD i []).map V.int)) = _
  rw [List.getD_eq_getElem?_getD, hi]
  rfl
theorem FsAt.prt (h : FsAt C CP more H a S ad) {i : Nat} {p : PI} (hi : S.parts[i]? = some p) : ∃ dx, H (ad (.part i)) = some (partO CP dx p) := by
  obtain ⟨h1, h2, dx, dp, h3⟩ := h
  have hl := (List.getElem?_eq_some_iff.mp hi).1
  refine ⟨dp i, ?_⟩
  rw [h3 (.part i) hl]
  show some (match S.parts[i]? with | some p => partO CP (dp i) p | none => .lst []) = _
  rw [hi]
theorem refs_at {n i : Nat} {f : Nat → Addr} (h : i < n) : ((List.range n).map fun i => V.ref (f i))[i]? = some (.ref (f i)) := by
  rw [List.getElem?_map, List.getElem?_range h]
  rfl
end
end Rm
namespace Rm
open PySem PySem.Spec L2
open PyProof.Rows hiding St
def spWi (K : PySem.W.Frag) : Sp := fun vs H Q _ => ∃ x d lo hi, vs = [x, .int lo, .int hi] ∧ Dx K H x d ∧ Q (.bl (isW lo hi d)) H
def FS.cnt (S : FS) : FS := { S with done := S.done + 1 }
def spCnt (C CP : Addr) (more : List (Str × V)) : Sp := fun vs H Q _ => ∃ a S F, vs = [.ref a] ∧ FsA C CP more H a S F ∧ ∀ H', FsA C CP more H' a S.cnt F → (∀ ad, FsAt C CP more H a S ad → FsAt C CP more H' a S.cnt ad) → Fr F H H' → Q .non H'
/-- a number is asked: in order, or an error goes out -/
def spAsk (K : PySem.W.Frag) (C CP : Addr) (more : List (Str × V)) (EE : EA) (g : FS → PyData → Option Ek) : Sp := fun vs H Q E => ∃ a x d S F, vs = [.ref a, x] ∧ FsA C CP more H a S F ∧ Dx K H x d ∧
  S.states.length ≤ 1000 ∧ (g S d = none → ∀ H', Same H H' → Q .non H') ∧ ∀ k, g S d = some k → ∀ H', Same H H' → Out EE E H' k x
theorem s_ne {a b : Str} (h : ¬ a = b) : (a = b) = False := eq_false h
end Rm

set_option maxRecDepth 100000
set_option maxHeartbeats 4000000
namespace Rm
open PySem PySem.Spec L2
open PyProof.Rows hiding St

section
variable {C CP : Addr} {more : List (Str × V)} {H H' : Hp} {a : Addr} {S S' : FS} {ad : Ro → Addr} {F G : Addr → Prop}
theorem Fr.put {p : Addr} {o : HO} (h : F p) : Fr F H (upd H p o) := fun b u hb n => by
  rw [upd_ne (fun e => n (by rw [e]; exact h))]
  exact hb
theorem Fr.new {p : Addr} {o : HO} (h : H p = none) : Fr F H (upd H p o) := Fr.same (same_new h)
theorem FsAt.foot (h : FsAt C CP more H a S ad) (hF : ∀ b, F b ↔ Foot S ad b) {r : Ro} (hr : r.ok S) : F (ad r) := (hF _).mpr ⟨r, hr, rfl⟩
/-- the object is written anew -/
theorem FsAt.setO {dx : Addr} {fs : List (Str × V)} (h : FsAt C CP more H a S ad) (lk : Look C more H a S ad dx) (ef : fs = fatesO C dx S' (ad .work) (ad .states) (ad .stacks) (ad .parts) ++ more)
    (e1 : S'.work = S.work) (e2 : S'.states = S.states) (e3 : S'.stacks = S.stacks) (e4 : S'.parts = S.parts) : FsAt C CP more (upd H a (.ins C dx fs)) a S' ad := by
  have at_ := h.at_
  obtain ⟨h1, h2, dx0, dp, h3⟩ := id h
  have hok : ∀ r' : Ro, r'.ok S' ↔ r'.ok S := fun r' => by cases r' <;> simp [Ro.ok, e3, e4]
  refine ⟨h1, fun x y hx hy => h2 x y ((hok x).mp hx) ((hok y).mp hy), dx, dp, fun x hx => ?_⟩
  have hx := (hok x).mp hx
  subst at_
  by_cases e : x = .obj
  · subst e
    rw [upd_same, ef]
    rfl
  · rw [h.off (r := .obj) trivial hx e, h3 x hx]
    cases x <;> first | exact absurd rfl e | simp [cont, e1, e2, e3, e4]
theorem FsA.ofO {dx : Addr} {fs : List (Str × V)} (h : FsAt C CP more H a S ad) (hF : ∀ b, F b ↔ Foot S ad b) (lk : Look C more H a S ad dx) (ef : fs = fatesO C dx S' (ad .work) (ad .states) (ad .stacks) (ad .parts) ++ more)
    (e1 : S'.work = S.work) (e2 : S'.states = S.states) (e3 : S'.stacks = S.stacks) (e4 : S'.parts = S.parts) : FsA C CP more (upd H a (.ins C dx fs)) a S' F ∧ Fr F H (upd H a (.ins C dx fs)) := by
  have hok : ∀ r' : Ro, r'.ok S' ↔ r'.ok S := fun r' => by cases r' <;> simp [Ro.ok, e3, e4]
  refine ⟨⟨ad, h.setO lk ef e1 e2 e3 e4, fun b => (hF b).trans (Foot.put hok b).symm⟩, Fr.put ?_⟩
  rw [← h.at_]
  exact h.foot hF (r := .obj) trivial
theorem FsA.ofPut {r : Ro} {o : HO} (h : FsAt C CP more H a S ad) (hF : ∀ b, F b ↔ Foot S ad b) (hr : r.ok S) (hok : ∀ r' : Ro, r'.ok S' ↔ r'.ok S)
    (ho : ∀ dx dp, (∀ r, r.ok S → H (ad r) = some (cont C CP dx dp more S ad r)) → o = cont C CP dx dp more S' ad r)
    (hs : ∀ dx dp (r' : Ro), r'.ok S → r' ≠ r → cont C CP dx dp more S' ad r' = cont C CP dx dp more S ad r') : FsA C CP more (upd H (ad r) o) a S' F ∧ Fr F H (upd H (ad r) o) :=
  ⟨⟨ad, h.put hr hok ho hs, fun b => (hF b).trans (Foot.put hok b).symm⟩, Fr.put (h.foot hF hr)⟩
theorem FsA.setWork {ws : List Int} (h : FsAt C CP more H a S ad) (hF : ∀ b, F b ↔ Foot S ad b) :
    FsA C CP more (upd H (ad .work) (.lst (ws.map V.int))) a { S with work := ws } F ∧ Fr F H (upd H (ad .work) (.lst (ws.map V.int))) :=
  FsA.ofPut h hF (r := .work) trivial (fun r' => by cases r' <;> exact Iff.rfl) (fun _ _ _ => rfl) fun dx dp r' _ ne => by cases r' <;> first | exact absurd rfl ne | rfl
theorem FsA.setStates {zs : List Str} (h : FsAt C CP more H a S ad) (hF : ∀ b, F b ↔ Foot S ad b) :
    FsA C CP more (upd H (ad .states) (.lst (zs.map V.str))) a { S with states := zs } F ∧ Fr F H (upd H (ad .states) (.lst (zs.map V.str))) :=
  FsA.ofPut h hF (r := .states) trivial (fun r' => by cases r' <;> exact Iff.rfl) (fun _ _ _ => rfl) fun dx dp r' _ ne => by cases r' <;> first | exact absurd rfl ne | rfl
theorem FsA.setStack {i : Nat} {l : List Int} (h : FsAt C CP more H a S ad) (hF : ∀ b, F b ↔ Foot S ad b) (hi : i < S.stacks.length) :
    FsA C CP more (upd H (ad (.stack i)) (.lst (l.map V.int))) a { S with stacks := S.stacks.set i l } F ∧ Fr F H (upd H (ad (.stack i)) (.lst (l.map V.int))) := by
  refine FsA.ofPut h hF (r := .stack i) hi (fun r' => by cases r' <;> simp [Ro.ok]) (fun _ _ _ => ?_) fun dx dp r' hr ne => ?_
  · show _ = HO.lst (((S.stacks.set i l).getD i []).map V.int)
    rw [List.getD_eq_getElem?_getD, List.getElem?_set_self hi]
    rfl
  · cases r' with
    | stack j =>
      have nj : i ≠ j := fun e => ne (by rw [e])
      show HO.lst (((S.stacks.set i l).getD j []).map V.int) = HO.lst ((S.stacks.getD j []).map V.int)
      rw [List.getD_eq_getElem?_getD, List.getElem?_set_ne nj, ← List.getD_eq_getElem?_getD]
    | stacks =>
      show HO.lst ((List.range (S.stacks.set i l).length).map _) = _
      rw [List.length_set]
      rfl
    | _ => rfl
theorem FsA.setPart {i : Nat} {p : PI} (h : FsAt C CP more H a S ad) (hF : ∀ b, F b ↔ Foot S ad b) (hi : i < S.parts.length) {dx : Addr} (hd : ∃ p0, H (ad (.part i)) = some (partO CP dx p0)) :
    FsA C CP more (upd H (ad (.part i)) (partO CP dx p)) a { S with parts := S.parts.set i p } F ∧ Fr F H (upd H (ad (.part i)) (partO CP dx p)) := by
  refine FsA.ofPut h hF (r := .part i) hi (fun r' => by cases r' <;> simp [Ro.ok]) (fun dx0 dp h3 => ?_) fun dx dp r' hr ne => ?_
  · show _ = (match (S.parts.set i p)[i]? with | some p => partO CP (dp i) p | none => HO.lst [])
    rw [List.getElem?_set_self hi]
    obtain ⟨p0, hd⟩ := hd
    have e := h3 (.part i) hi
    rw [hd] at e
    have e2 : partO CP dx p0 = (match S.parts[i]? with | some p => partO CP (dp i) p | none => HO.lst []) := Option.some.inj e
    rw [List.getElem?_eq_getElem hi] at e2
    have e3 : dx = dp i := by
      simp only [partO, HO.ins.injEq] at e2
      exact e2.2.1
    rw [e3]
  · cases r' with
    | part j =>
      have nj : i ≠ j := fun e => ne (by rw [e])
      show (match (S.parts.set i p)[j]? with | some p => partO CP (dp j) p | none => HO.lst []) = (match S.parts[j]? with | some p => partO CP (dp j) p | none => HO.lst [])
      rw [List.getElem?_set_ne nj]
    | parts =>
      show HO.lst ((List.range (S.parts.set i p).length).map _) = _
      rw [List.length_set]
      rfl
    | _ => rfl
/-- a fresh thing at y takes the place r0 -/
def With (F : Addr → Prop) (y : Addr) (b : Addr) : Prop := F b ∨ b = y
theorem Grow.add {y : Addr} (hy : H y = none) : Grow F (With F y) H := fun b h => h.elim .inl fun e => .inr (by rw [e]; exact hy)
theorem move_refs {n i : Nat} {y : Addr} (hi : n ≤ i) : ((List.range n).map fun j => V.ref (moveTo ad (.stack i) y (.stack j))) = (List.range n).map fun j => V.ref (ad (.stack j)) := by
  apply List.map_congr_left
  intro j hj
  rw [move_off (fun e => by
    have : j = i := by simpa using e
    have := List.mem_range.mp hj
    omega)]
theorem move_refp {n i : Nat} {y : Addr} (hi : n ≤ i) : ((List.range n).map fun j => V.ref (moveTo ad (.part i) y (.part j))) = (List.range n).map fun j => V.ref (ad (.part j)) := by
  apply List.map_congr_left
  intro j hj
  rw [move_off (fun e => by
    have : j = i := by simpa using e
    have := List.mem_range.mp hj
    omega)]
/-- one stack more: y is new, then the list of stacks takes it -/
theorem FsA.addStack {y : Addr} {l : List Int} (h : FsAt C CP more H a S ad) (hF : ∀ b, F b ↔ Foot S ad b) (hy : H y = none) :
    FsA C CP more (upd (upd H y (.lst (l.map V.int))) (ad .stacks) (.lst (((List.range S.stacks.length).map fun i => V.ref (ad (.stack i))) ++ [.ref y]))) a { S with stacks := S.stacks ++ [l] } (With F y) ∧
      Fr F H (upd (upd H y (.lst (l.map V.int))) (ad .stacks) (.lst (((List.range S.stacks.length).map fun i => V.ref (ad (.stack i))) ++ [.ref y]))) := by
  obtain ⟨h1, h2, dx, dp, h3⟩ := id h
  have ny : ∀ {r : Ro}, r.ok S → ad r ≠ y := fun hr e => by
    obtain ⟨u, hu⟩ := h.has hr
    rw [e, hy] at hu
    cases hu
  have mv : ∀ {r : Ro}, r.ok S → moveTo ad (.stack S.stacks.length) y r = ad r := fun {r} hr => move_off (fun e => by
    rw [e] at hr
    exact Nat.lt_irrefl _ hr)
  have okd : ∀ {r : Ro}, r.ok { S with stacks := S.stacks ++ [l] } → r.ok S ∨ r = .stack S.stacks.length := fun {r} hr => by
    cases r with
    | stack i =>
      have hi : i < (S.stacks ++ [l]).length := hr
      rw [List.length_append] at hi
      by_cases e : i = S.stacks.length
      · exact .inr (by rw [e])
      · exact .inl (show i < S.stacks.length by simp at hi; omega)
    | part i => exact .inl hr
    | _ => exact .inl trivial
  have oku : ∀ {r : Ro}, r.ok S → r.ok { S with stacks := S.stacks ++ [l] } := fun {r} hr => by
    cases r with
    | stack i =>
      have hi : i < S.stacks.length := hr
      exact (show i < (S.stacks ++ [l]).length by rw [List.length_append]; omega)
    | part i => exact hr
    | _ => exact trivial
  refine ⟨⟨moveTo ad (.stack S.stacks.length) y, ⟨by rw [mv (r := .obj) trivial]; exact h1, fun r r' hr hr' e => ?_, dx, dp, fun r hr => ?_⟩, fun b => ?_⟩, ?_⟩
  · rcases okd hr with hr | rfl
    · rcases okd hr' with hr' | rfl
      · rw [mv hr, mv hr'] at e
        exact h2 _ _ hr hr' e
      · rw [mv hr, move_at] at e
        exact absurd e (ny hr)
    · rcases okd hr' with hr' | rfl
      · rw [mv hr', move_at] at e
        exact absurd e.symm (ny hr')
      · rfl
  · rcases okd hr with hr | rfl
    · rw [mv hr]
      by_cases e : r = .stacks
      · subst e
        rw [upd_same]
        show _ = some (HO.lst ((List.range (S.stacks ++ [l]).length).map fun j => V.ref (moveTo ad (.stack S.stacks.length) y (.stack j))))
        rw [List.length_append, show [l].length = 1 from rfl, List.range_succ, List.map_append, move_refs (Nat.le_refl _), List.map_cons, List.map_nil, move_at]
      · have off := h.off (o := .lst (((List.range S.stacks.length).map fun i => V.ref (ad (.stack i))) ++ [.ref y])) (r := .stacks) trivial hr e
        rw [upd_ne (fun z => e (h2 _ _ hr trivial z)), upd_ne (ny hr), h3 r hr]
        cases r with
        | obj =>
          show some (HO.ins C dx (fatesO C dx S (ad .work) (ad .states) (ad .stacks) (ad .parts) ++ more)) = some (HO.ins C dx (fatesO C dx _ (moveTo ad (.stack S.stacks.length) y .work) (moveTo ad (.stack S.stacks.length) y .states) (moveTo ad (.stack S.stacks.length) y .stacks) (moveTo ad (.stack S.stacks.length) y .parts) ++ more))
          rw [mv (r := .work) trivial, mv (r := .states) trivial, mv (r := .stacks) trivial, mv (r := .parts) trivial]
          rfl
        | stack i =>
          have hi : i < S.stacks.length := hr
          show some (HO.lst ((S.stacks.getD i []).map V.int)) = some (HO.lst (((S.stacks ++ [l]).getD i []).map V.int))
          rw [List.getD_eq_getElem?_getD, List.getD_eq_getElem?_getD, List.getElem?_append_left hi]
        | parts =>
          show some (HO.lst _) = some (HO.lst ((List.range S.parts.length).map fun j => V.ref (moveTo ad (.stack S.stacks.length) y (.part j))))
          congr 2
        | stacks => exact absurd rfl e
        | _ => rfl
    · rw [move_at, upd_ne (fun e => ny (r := .stacks) trivial e.symm), upd_same]
      show _ = some (HO.lst (((S.stacks ++ [l]).getD S.stacks.length []).map V.int))
      rw [List.getD_eq_getElem?_getD, List.getElem?_append_right (Nat.le_refl _)]
      simp
  · constructor
    · rintro (hb | rfl)
      · obtain ⟨r, hr, rfl⟩ := (hF b).mp hb
        exact ⟨r, oku hr, mv hr⟩
      · exact ⟨.stack S.stacks.length, (show S.stacks.length < (S.stacks ++ [l]).length by rw [List.length_append]; exact Nat.lt_succ_self _), move_at⟩
    · rintro ⟨r, hr, rfl⟩
      rcases okd hr with hr | rfl
      · rw [mv hr]
        exact .inl (h.foot hF hr)
      · exact .inr move_at
  · intro b u hb n
    have n1 : b ≠ ad .stacks := fun e => n (by rw [e]; exact h.foot hF (r := .stacks) trivial)
    rw [upd_ne n1, upd_ne (fun e => by rw [e, hy] at hb; cases hb)]
    exact hb
end
end Rm

set_option maxRecDepth 100000
set_option maxHeartbeats 4000000
namespace Rm
open PySem PySem.Spec L2
open PyProof.Rows hiding St

section
variable {C CP : Addr} {more : List (Str × V)} {H H1 : Hp} {a : Addr} {S : FS} {ad : Ro → Addr} {F : Addr → Prop}
/-- one part more: y is new, then the list of parts takes it -/
theorem FsA.addPart {y dy : Addr} {p : PI} (h : FsAt C CP more H a S ad) (hF : ∀ b, F b ↔ Foot S ad b) (s : Same H H1) (hy : H y = none) (hv : H1 y = some (partO CP dy p)) :
    FsA C CP more (upd H1 (ad .parts) (.lst (((List.range S.parts.length).map fun i => V.ref (ad (.part i))) ++ [.ref y]))) a { S with parts := S.parts ++ [p] } (With F y) ∧
      Fr F H (upd H1 (ad .parts) (.lst (((List.range S.parts.length).map fun i => V.ref (ad (.part i))) ++ [.ref y]))) := by
  obtain ⟨h1, h2, dx, dp, h3⟩ := id h
  have ny : ∀ {r : Ro}, r.ok S → ad r ≠ y := fun hr e => by
    obtain ⟨u, hu⟩ := h.has hr
    rw [e, hy] at hu
    cases hu
  have mv : ∀ {r : Ro}, r.ok S → moveTo ad (.part S.parts.length) y r = ad r := fun {r} hr => move_off (fun e => by
    rw [e] at hr
    exact Nat.lt_irrefl _ hr)
  have okd : ∀ {r : Ro}, r.ok { S with parts := S.parts ++ [p] } → r.ok S ∨ r = .part S.parts.length := fun {r} hr => by
    cases r with
    | part i =>
      have hi : i < (S.parts ++ [p]).length := hr
      rw [List.length_append] at hi
      by_cases e : i = S.parts.length
      · exact .inr (by rw [e])
      · exact .inl (show i < S.parts.length by simp at hi; omega)
    | stack i => exact .inl hr
    | _ => exact .inl trivial
  have oku : ∀ {r : Ro}, r.ok S → r.ok { S with parts := S.parts ++ [p] } := fun {r} hr => by
    cases r with
    | part i =>
      have hi : i < S.parts.length := hr
      exact (show i < (S.parts ++ [p]).length by rw [List.length_append]; omega)
    | stack i => exact hr
    | _ => exact trivial
  refine ⟨⟨moveTo ad (.part S.parts.length) y, ⟨by rw [mv (r := .obj) trivial]; exact h1, fun r r' hr hr' e => ?_, dx, (fun i => if i = S.parts.length then dy else dp i), fun r hr => ?_⟩, fun b => ?_⟩, ?_⟩
  · rcases okd hr with hr | rfl
    · rcases okd hr' with hr' | rfl
      · rw [mv hr, mv hr'] at e
        exact h2 _ _ hr hr' e
      · rw [mv hr, move_at] at e
        exact absurd e (ny hr)
    · rcases okd hr' with hr' | rfl
      · rw [mv hr', move_at] at e
        exact absurd e.symm (ny hr')
      · rfl
  · rcases okd hr with hr | rfl
    · rw [mv hr]
      by_cases e : r = .parts
      · subst e
        rw [upd_same]
        show _ = some (HO.lst ((List.range (S.parts ++ [p]).length).map fun j => V.ref (moveTo ad (.part S.parts.length) y (.part j))))
        rw [List.length_append, show [p].length = 1 from rfl, List.range_succ, List.map_append, move_refp (Nat.le_refl _), List.map_cons, List.map_nil, move_at]
      · rw [upd_ne (fun z => e (h2 _ _ hr trivial z)), s _ _ (h3 r hr)]
        cases r with
        | obj =>
          show some (HO.ins C dx (fatesO C dx S (ad .work) (ad .states) (ad .stacks) (ad .parts) ++ more)) = some (HO.ins C dx (fatesO C dx _ (moveTo ad (.part S.parts.length) y .work) (moveTo ad (.part S.parts.length) y .states) (moveTo ad (.part S.parts.length) y .stacks) (moveTo ad (.part S.parts.length) y .parts) ++ more))
          rw [mv (r := .work) trivial, mv (r := .states) trivial, mv (r := .stacks) trivial, mv (r := .parts) trivial]
          rfl
        | part i =>
          have hi : i < S.parts.length := hr
          show some (match S.parts[i]? with | some p => partO CP (dp i) p | none => HO.lst []) = some (match (S.parts ++ [p])[i]? with | some p => partO CP (if i = S.parts.length then dy else dp i) p | none => HO.lst [])
          rw [List.getElem?_append_left hi, if_neg (by omega)]
        | stacks =>
          show some (HO.lst _) = some (HO.lst ((List.range S.stacks.length).map fun j => V.ref (moveTo ad (.part S.parts.length) y (.stack j))))
          congr 2
        | parts => exact absurd rfl e
        | _ => rfl
    · rw [move_at, upd_ne (fun e => ny (r := .parts) trivial e.symm), hv]
      show _ = some (match (S.parts ++ [p])[S.parts.length]? with | some q => partO CP (if S.parts.length = S.parts.length then dy else dp S.parts.length) q | none => HO.lst [])
      rw [List.getElem?_append_right (Nat.le_refl _), if_pos rfl]
      simp
  · constructor
    · rintro (hb | rfl)
      · obtain ⟨r, hr, rfl⟩ := (hF b).mp hb
        exact ⟨r, oku hr, mv hr⟩
      · exact ⟨.part S.parts.length, (show S.parts.length < (S.parts ++ [p]).length by rw [List.length_append]; exact Nat.lt_succ_self _), move_at⟩
    · rintro ⟨r, hr, rfl⟩
      rcases okd hr with hr | rfl
      · rw [mv hr]
        exact .inl (h.foot hF hr)
      · exact .inr move_at
  · intro b u hb n
    have n1 : b ≠ ad .parts := fun e => n (by rw [e]; exact h.foot hF (r := .parts) trivial)
    rw [upd_ne n1]
    exact s _ _ hb
/-- a new stack stands for an old one -/
theorem FsA.newStack {y : Addr} {l : List Int} {i : Nat} (h : FsAt C CP more H a S ad) (hF : ∀ b, F b ↔ Foot S ad b) (hy : H y = none) (hi : i < S.stacks.length) :
    FsA C CP more (upd (upd H y (.lst (l.map V.int))) (ad .stacks) (.lst (((List.range S.stacks.length).map fun i => V.ref (ad (.stack i))).set i (.ref y)))) a { S with stacks := S.stacks.set i l } (fun b => With F y b ∧ b ≠ ad (.stack i)) ∧
      Fr F H (upd (upd H y (.lst (l.map V.int))) (ad .stacks) (.lst (((List.range S.stacks.length).map fun i => V.ref (ad (.stack i))).set i (.ref y)))) := by
  obtain ⟨h1, h2, dx, dp, h3⟩ := id h
  have ny : ∀ {r : Ro}, r.ok S → ad r ≠ y := fun hr e => by
    obtain ⟨u, hu⟩ := h.has hr
    rw [e, hy] at hu
    cases hu
  have oks : ∀ {r : Ro}, r.ok { S with stacks := S.stacks.set i l } ↔ r.ok S := fun {r} => by cases r <;> simp [Ro.ok]
  have mv : ∀ {r : Ro}, r ≠ .stack i → moveTo ad (.stack i) y r = ad r := fun e => move_off e
  have si : Ro.ok S (.stack i) := hi
  refine ⟨⟨moveTo ad (.stack i) y, ⟨by rw [mv (r := .obj) (by simp)]; exact h1, fun r r' hr hr' e => ?_, dx, dp, fun r hr => ?_⟩, fun b => ?_⟩, ?_⟩
  · have hr := oks.mp hr
    have hr' := oks.mp hr'
    by_cases q : r = .stack i
    · by_cases q' : r' = .stack i
      · rw [q, q']
      · rw [q, move_at, mv q'] at e
        exact absurd e.symm (ny hr')
    · by_cases q' : r' = .stack i
      · rw [q', move_at, mv q] at e
        exact absurd e (ny hr)
      · rw [mv q, mv q'] at e
        exact h2 _ _ hr hr' e
  · have hr := oks.mp hr
    by_cases q : r = .stack i
    · subst q
      rw [move_at, upd_ne (fun e => ny (r := .stacks) trivial e.symm), upd_same]
      show _ = some (HO.lst (((S.stacks.set i l).getD i []).map V.int))
      rw [List.getD_eq_getElem?_getD, List.getElem?_set_self hi]
      rfl
    · rw [mv q]
      by_cases e : r = .stacks
      · subst e
        rw [upd_same]
        show _ = some (HO.lst ((List.range (S.stacks.set i l).length).map fun j => V.ref (moveTo ad (.stack i) y (.stack j))))
        congr 2
        apply List.ext_getElem?
        intro j
        rw [List.length_set, List.getElem?_map]
        by_cases jl : j < S.stacks.length
        · rw [List.getElem?_range jl]
          by_cases ij : i = j
          · subst ij
            rw [List.getElem?_set_self (by simpa using jl)]
            show _ = some (V.ref (moveTo ad (.stack i) y (.stack i)))
            rw [move_at]
          · rw [List.getElem?_set_ne ij, refs_at jl]
            show _ = some (V.ref (moveTo ad (.stack i) y (.stack j)))
            rw [mv (fun e => ij (by simpa using e.symm))]
        · rw [List.getElem?_eq_none (by simp; omega), List.getElem?_eq_none (by simp; omega)]
          rfl
      · rw [upd_ne (fun z => e (h2 _ _ hr trivial z)), upd_ne (ny hr), h3 r hr]
        cases r with
        | obj =>
          show some (HO.ins C dx (fatesO C dx S (ad .work) (ad .states) (ad .stacks) (ad .parts) ++ more)) = some (HO.ins C dx (fatesO C dx _ (moveTo ad (.stack i) y .work) (moveTo ad (.stack i) y .states) (moveTo ad (.stack i) y .stacks) (moveTo ad (.stack i) y .parts) ++ more))
          rw [mv (r := .work) (by simp), mv (r := .states) (by simp), mv (r := .stacks) (by simp), mv (r := .parts) (by simp)]
          rfl
        | stack j =>
          have ij : i ≠ j := fun e => q (by rw [e])
          show some (HO.lst ((S.stacks.getD j []).map V.int)) = some (HO.lst (((S.stacks.set i l).getD j []).map V.int))
          rw [List.getD_eq_getElem?_getD, List.getD_eq_getElem?_getD, List.getElem?_set_ne ij]
        | parts =>
          show some (HO.lst _) = some (HO.lst ((List.range S.parts.length).map fun j => V.ref (moveTo ad (.stack i) y (.part j))))
          congr 2
        | stacks => exact absurd rfl e
        | _ => rfl
  · constructor
    · rintro ⟨hb | rfl, n⟩
      · obtain ⟨r, hr, rfl⟩ := (hF b).mp hb
        exact ⟨r, oks.mpr hr, mv (fun e => n (by rw [e]))⟩
      · exact ⟨.stack i, oks.mpr si, move_at⟩
    · rintro ⟨r, hr, rfl⟩
      have hr := oks.mp hr
      by_cases q : r = .stack i
      · rw [q, move_at]
        exact ⟨.inr rfl, fun e => ny si e.symm⟩
      · rw [mv q]
        exact ⟨.inl (h.foot hF hr), fun e => q (h2 _ _ hr si e)⟩
  · intro b u hb n
    have n1 : b ≠ ad .stacks := fun e => n (by rw [e]; exact h.foot hF (r := .stacks) trivial)
    rw [upd_ne n1, upd_ne (fun e => by rw [e, hy] at hb; cases hb)]
    exact hb
/-! ### fields -/
theorem put_done {dx w s k p : Addr} {i : Int} : putF "_done" (.int i) (fatesO C dx S w s k p ++ more) = fatesO C dx { S with done := i } w s k p ++ more := by
  simp [fatesO, putF]
theorem put_commits {dx w s k p : Addr} {i : Int} : putF "_commits" (.int i) (fatesO C dx S w s k p ++ more) = fatesO C dx { S with moment := i } w s k p ++ more := by
  simp [fatesO, putF, show ¬ (("_done" : Str) = "_commits") by decide +kernel]
end
end Rm
namespace Rm
open PySem PySem.Spec L2
open PyProof.Rows hiding St
/-- the methods' names -/
def FMeth : List Str := ["begin", "save", "release", "back", "prepare", "commit", "abort", "crash", "operations", "moment", "running", "state", "parts", "root", "owner", "fate", "transaction", "around", "joined_at", "ended_at", "is_transaction", "is_part",
  "_count_operation", "_check_known", "_check_running", "_check_free", "_check_part", "_open_part", "_take_innermost", "_end_part", "_end_transaction"]
/-- what a derived class has besides is no method -/
structure MO (more : List (Str × V)) : Prop where
  len : more.length < 900
  no : ∀ m ∈ FMeth, more.lookup m = none
theorem fmeth_six : ∀ m ∈ FMeth, (m == ("_done" : Str)) = false ∧ (m == ("_commits" : Str)) = false ∧ (m == ("_at_work" : Str)) = false ∧ (m == ("_states" : Str)) = false ∧ (m == ("_stacks" : Str)) = false ∧ (m == ("_all_parts" : Str)) = false := by decide +kernel
theorem MO.free {more : List (Str × V)} (mo : MO more) {m : Str} (hm : m ∈ FMeth) {C dx w s k p : Addr} {S : FS} : (fatesO C dx S w s k p ++ more).lookup m = none := by
  obtain ⟨h1, h2, h3, h4, h5, h6⟩ := fmeth_six m hm
  simp only [fatesO, List.cons_append, List.nil_append, List.lookup_cons, h1, h2, h3, h4, h5, h6]
  exact mo.no m hm
theorem MO.size {more : List (Str × V)} (mo : MO more) {C dx w s k p : Addr} {S : FS} : (fatesO C dx S w s k p ++ more).length < 1000 := by
  have := mo.len
  simp [fatesO]
  omega
end Rm
namespace Rm
open PySem PySem.Spec L2
open PyProof.Rows hiding St
/-- a part is opened -/
def FS.opn (S : FS) (i : Nat) (o : Option Int) : FS :=
  { S with parts := S.parts ++ [⟨(i : Int) + 1, o, none, none, "open"⟩], stacks := S.stacks.set i (S.stacks.getD i [] ++ [(S.parts.length : Int) + 1]) }
def spPartI (CP : Addr) : Sp := fun vs H Q _ => ∃ q dx n o, vs = [.ref q, .int n, oI o] ∧ H q = some (.ins CP dx []) ∧ Q .non (upd H q (partO CP dx ⟨n, o, none, none, "open"⟩))
def spOpen (C CP : Addr) (more : List (Str × V)) : Sp := fun vs H Q _ => ∃ a i o S F l, vs = [.ref a, .int ((i : Nat) + 1), oI o] ∧ FsA C CP more H a S F ∧ S.stacks[i]? = some l ∧ S.parts.length ≤ 1000 ∧ l.length ≤ 1000 ∧
  ∀ H' F', FsA C CP more H' a (S.opn i o) F' → Fr F H H' → Grow F F' H → Q (.int ((S.parts.length : Int) + 1)) H'
theorem sz1000 {n : Nat} (h : n ≤ 1000) : n < sizeLine := Nat.lt_of_le_of_lt h (by decide)
end Rm
namespace Rm
open PySem PySem.Spec L2
open PyProof.Rows hiding St
theorem ne_ho : ¬ (("holder" : Str) = "outer") := by decide +kernel
theorem ne_hr : ¬ (("holder" : Str) = "released") := by decide +kernel
theorem ne_he : ¬ (("holder" : Str) = "ended") := by decide +kernel
theorem ne_hc : ¬ (("holder" : Str) = "outcome") := by decide +kernel
theorem ne_or : ¬ (("outer" : Str) = "released") := by decide +kernel
theorem ne_oe : ¬ (("outer" : Str) = "ended") := by decide +kernel
theorem ne_oc : ¬ (("outer" : Str) = "outcome") := by decide +kernel
theorem ne_re : ¬ (("released" : Str) = "ended") := by decide +kernel
theorem ne_rc : ¬ (("released" : Str) = "outcome") := by decide +kernel
theorem ne_ec : ¬ (("ended" : Str) = "outcome") := by decide +kernel
theorem part_new {CP dx : Addr} {n : Int} {o : Option Int} : HO.ins CP dx (putF "outcome" (.str "open") (putF "ended" .non (putF "released" .non (putF "outer" (oI o) (putF "holder" (.int n) []))))) = partO CP dx ⟨n, o, none, none, "open"⟩ := by
  simp [putF, partO, oI, ne_ho, ne_hr, ne_he, ne_hc, ne_or, ne_oe, ne_oc, ne_re, ne_rc, ne_ec]
theorem part_rel {CP dx : Addr} {p : PI} {i : Int} : HO.ins CP dx (putF "released" (.int i) [("holder", .int p.holder), ("outer", oI p.outer), ("released", oI p.released), ("ended", oI p.ended), ("outcome", .str p.outcome)]) = partO CP dx { p with released := some i } := by
  simp [putF, partO, oI, ne_hr, ne_or]
theorem part_end {CP dx : Addr} {p : PI} {i : Int} {z : Str} : HO.ins CP dx (putF "ended" (.int i) (putF "outcome" (.str z) [("holder", .int p.holder), ("outer", oI p.outer), ("released", oI p.released), ("ended", oI p.ended), ("outcome", .str p.outcome)])) = partO CP dx { p with ended := some i, outcome := z } := by
  simp [putF, partO, oI, ne_he, ne_hc, ne_oe, ne_oc, ne_re, ne_rc, ne_ec]
end Rm
namespace Rm
open PySem PySem.Spec L2
open PyProof.Rows hiding St
theorem refs_atI {n i : Nat} {f : Nat → Addr} (h : i < n) : atI ((List.range n).map fun i => V.ref (f i)) ((i : Int) + 1 - 1) = some (.ref (f i)) := by
  rw [Int.add_sub_cancel]
  exact atI_nat (refs_at h)
theorem Fr.then {F F' : Addr → Prop} {H H1 H2 : Hp} (a : Fr F H H1) (g : Grow F F' H) (b : Fr F' H1 H2) : Fr F H H2 := a.trans g b
end Rm
namespace Rm
open PySem PySem.Spec L2
open PyProof.Rows hiding St
/-- the lists fit each other and are short -/
structure FS.Wf (S : FS) : Prop where
  ls : S.stacks.length = S.states.length
  n : S.states.length ≤ 900
  p : S.parts.length ≤ 900
  k : ∀ l ∈ S.stacks, l.length ≤ 900
  w : S.work.length ≤ 900
  ne : ∀ (i : Nat) (z : Str) (l : List Int), S.states[i]? = some z → ¬ (z = "committed" ∨ z = "aborted") → S.stacks[i]? = some l → l ≠ []
  kp : ∀ l ∈ S.stacks, ∀ q ∈ l, 1 ≤ q ∧ q ≤ (S.parts.length : Int)
  wk : ∀ (i : Nat) (z : Str), S.states[i]? = some z → ¬ (z = "committed" ∨ z = "aborted") → ((i : Int) + 1) ∈ S.work
  nd : S.work.Nodup
  wr : ∀ n ∈ S.work, 1 ≤ n ∧ n ≤ (S.states.length : Int)
/-- one transaction more -/
def FS.beg (S : FS) : FS :=
  ({ S with done := S.done + 1, states := S.states ++ [("running" : Str)], stacks := S.stacks ++ [[]], work := S.work ++ [(S.states.length : Int) + 1] } : FS).opn S.states.length none
def spBegin (C CP : Addr) (more : List (Str × V)) (EE : EA) : Sp := fun vs H Q E => ∃ a S F, vs = [.ref a] ∧ FsA C CP more H a S F ∧ S.Wf ∧
  (S.work.length < 8 → ∀ H' F', FsA C CP more H' a S.beg F' → Fr F H H' → Grow F F' H → Q (.int ((S.states.length : Int) + 1)) H') ∧ (8 ≤ S.work.length → Out EE E H .tm (.int 8))
end Rm

set_option maxRecDepth 100000
set_option maxHeartbeats 4000000
namespace Rm
open PySem PySem.Spec L2
open PyProof.Rows hiding St

/-! ### the operations, as plain data -/
def FS.sk (S : FS) : PyData → List Int
  | .int i => S.stacks.getD (i - 1).toNat []
  | _ => []
def FS.savE (S : FS) (d : PyData) : Option Ek := match S.fr d with
  | some k => some k
  | none => if 5 ≤ (S.sk d).length then some .tm else none
def FS.tkE (S : FS) (d : PyData) : Option Ek := match S.fr d with
  | some k => some k
  | none => if (S.sk d).length = 1 then some .fp else none
def FS.prE (S : FS) (d : PyData) : Option Ek := match S.fr d with
  | some k => some k
  | none => if 1 < (S.sk d).length then some .so else none
def lastI (l : List Int) : Int := l.getLast?.getD 0
def FS.sav (S : FS) (i : Nat) : FS := S.cnt.opn i (some (lastI (S.stacks.getD i [])))
def FS.tk (S : FS) (i : Nat) : FS := { S.cnt with stacks := S.stacks.set i (S.stacks.getD i []).dropLast }
def FS.mdP (S : FS) (q : Int) (f : PI → PI) : FS := { S with parts := S.parts.modify (q - 1).toNat f }
def FS.endP (S : FS) (q : Int) (z : Str) : FS := S.mdP q fun p => { p with ended := some S.done, outcome := z }
def FS.rel (S : FS) (i : Nat) : FS := (S.tk i).mdP (lastI (S.stacks.getD i [])) fun p => { p with released := some (S.done + 1) }
def FS.bak (S : FS) (i : Nat) : FS := (S.tk i).endP (lastI (S.stacks.getD i [])) "rolled back"
def FS.prep (S : FS) (i : Nat) : FS := { S.cnt with states := S.states.set i "prepared" }
def FS.endAll (S : FS) (z : Str) (l : List Int) : FS := l.foldl (fun S q => S.endP q z) S
def FS.endT (S : FS) (i : Nat) (st z : Str) : FS :=
  { S.endAll z (S.stacks.getD i []) with stacks := S.stacks.set i [], states := S.states.set i st, work := S.work.erase ((i : Int) + 1) }
def FS.com (S : FS) (i : Nat) : FS := ({ S.cnt with moment := S.moment + 1 } : FS).endT i "committed" "committed"
def FS.abo (S : FS) (i : Nat) : FS := S.cnt.endT i "aborted" "rolled back"
def kv (k : Ek) (x : V) : V := match k with
  | .tm => .int 5
  | _ => x
/-- an operation of a number -/
def spNum (K : PySem.W.Frag) (C CP : Addr) (more : List (Str × V)) (EE : EA) (er : FS → PyData → Option Ek) (op : FS → Nat → FS) (res : FS → Nat → V) : Sp := fun vs H Q E => ∃ a x d S F, vs = [.ref a, x] ∧ FsA C CP more H a S F ∧ Dx K H x d ∧ S.Wf ∧
  (∀ k, er S d = some k → ∀ H', Same H H' → Out EE E H' k (kv k x)) ∧
  ∀ i : Nat, d = .int ((i : Int) + 1) → i < S.states.length → er S d = none → ∀ H' F', FsA C CP more H' a (op S i) F' → Fr F H H' → Grow F F' H → Q (res S i) H'
theorem modify_set {l : List PI} {j : Nat} {p : PI} {f : PI → PI} (h : l[j]? = some p) : l.set j (f p) = l.modify j f := by
  apply List.ext_getElem?
  intro i
  rw [List.getElem?_modify]
  by_cases e : j = i
  · subst e
    have hl := (List.getElem?_eq_some_iff.mp h).1
    rw [List.getElem?_set_self hl, h]
    simp
  · rw [List.getElem?_set_ne e]
    simp [e]
theorem lastI_at {l : List Int} (h : l ≠ []) : atI (l.map V.int) (-1) = some (.int (lastI l)) := by
  have hp : 0 < l.length := List.length_pos_iff.mpr h
  unfold atI ixN
  rw [if_neg (by decide), List.length_map, if_pos (by omega)]
  show (l.map V.int)[((-1 : Int) + l.length).toNat]? = _
  rw [List.getElem?_map, show ((-1 : Int) + l.length).toNat = l.length - 1 by omega]
  unfold lastI
  rw [List.getLast?_eq_getElem?]
  rw [List.getElem?_eq_getElem (by omega)]
  rfl
theorem lastI_get {l : List Int} (h : l ≠ []) : (l.map V.int)[(l.map V.int).length - 1]? = some (.int (lastI l)) := by
  have hp : 0 < l.length := List.length_pos_iff.mpr h
  rw [List.length_map, List.getElem?_map]
  unfold lastI
  rw [List.getLast?_eq_getElem?, List.getElem?_eq_getElem (by omega)]
  rfl
theorem lastI_mem {l : List Int} (h : l ≠ []) : lastI l ∈ l := by
  unfold lastI
  rw [List.getLast?_eq_some_getLast h]
  exact List.getLast_mem h
theorem sk_at {S : FS} {i : Nat} : S.sk (.int ((i : Int) + 1)) = S.stacks.getD i [] := by
  unfold FS.sk
  simp
theorem FS.Wf.stk {S : FS} (wf : S.Wf) {i : Nat} (hi : i < S.states.length) : S.stacks[i]? = some (S.stacks.getD i []) := by
  have h : i < S.stacks.length := by rw [wf.ls]; exact hi
  rw [List.getD_eq_getElem?_getD, List.getElem?_eq_getElem h]
  rfl
theorem FS.Wf.nel {S : FS} (wf : S.Wf) {i : Nat} (hi : i < S.states.length) (h : S.ru (.int ((i : Int) + 1)) = none) : S.stacks.getD i [] ≠ [] :=
  wf.ne i _ _ (FS.st_at hi) (FS.ru_none h).2 (wf.stk hi)
theorem FS.Wf.mem {S : FS} (wf : S.Wf) {i : Nat} (hi : i < S.states.length) : S.stacks.getD i [] ∈ S.stacks := List.mem_of_getElem? (wf.stk hi)
end Rm
namespace Rm
open PySem PySem.Spec L2
open PyProof.Rows hiding St
def spEndP (C CP : Addr) (more : List (Str × V)) : Sp := fun vs H Q _ => ∃ a q z S F, vs = [.ref a, .int q, .str z] ∧ FsA C CP more H a S F ∧ 1 ≤ q ∧ q ≤ S.parts.length ∧
  ∀ H', FsA C CP more H' a (S.endP q z) F → (∀ ad, FsAt C CP more H a S ad → FsAt C CP more H' a (S.endP q z) ad) → Fr F H H' → Q .non H'
end Rm
namespace Rm
open PySem PySem.Spec L2
open PyProof.Rows hiding St
theorem fr_cases {S : FS} {d : PyData} {k : Ek} (h : S.fr d = some k) : k = .ut ∨ k = .en ∨ k = .pr := by
  unfold FS.fr at h
  cases h1 : S.ru d with
  | some k' =>
    rw [h1] at h
    dsimp only at h
    cases h
    unfold FS.ru at h1
    cases h2 : S.kn d with
    | some k2 =>
      rw [h2] at h1
      dsimp only at h1
      cases h1
      unfold FS.kn at h2
      split at h2
      · cases h2
      · cases h2; exact .inl rfl
    | none =>
      rw [h2] at h1
      dsimp only at h1
      split at h1
      · cases h1; exact .inr (.inl rfl)
      · cases h1
  | none =>
    rw [h1] at h
    dsimp only at h
    split at h
    · cases h; exact .inr (.inr rfl)
    · cases h
theorem fr_kv {S : FS} {d : PyData} {k : Ek} {x : V} (h : S.fr d = some k) : kv k x = x := by
  rcases fr_cases h with rfl | rfl | rfl <;> rfl
theorem ru_kv {S : FS} {d : PyData} {k : Ek} {x : V} (h : S.ru d = some k) : kv k x = x := fr_kv (S := S) (d := d) (by unfold FS.fr; rw [h])
end Rm
namespace Rm
open PySem PySem.Spec L2
open PyProof.Rows hiding St
section
variable {S : FS} {d : PyData}
theorem tkE_some (h : S.fr d = none) (c : (S.sk d).length = 1) : S.tkE d = some .fp := by
  unfold FS.tkE; rw [h]; exact if_pos c
theorem tkE_none (h : S.fr d = none) (c : ¬ (S.sk d).length = 1) : S.tkE d = none := by
  unfold FS.tkE; rw [h]; exact if_neg c
theorem tkE_fr {k : Ek} (h : S.fr d = some k) : S.tkE d = some k := by
  unfold FS.tkE; rw [h]
theorem savE_some (h : S.fr d = none) (c : 5 ≤ (S.sk d).length) : S.savE d = some .tm := by
  unfold FS.savE; rw [h]; exact if_pos c
theorem savE_none (h : S.fr d = none) (c : ¬ 5 ≤ (S.sk d).length) : S.savE d = none := by
  unfold FS.savE; rw [h]; exact if_neg c
theorem savE_fr {k : Ek} (h : S.fr d = some k) : S.savE d = some k := by
  unfold FS.savE; rw [h]
theorem prE_some (h : S.fr d = none) (c : 1 < (S.sk d).length) : S.prE d = some .so := by
  unfold FS.prE; rw [h]; exact if_pos c
theorem prE_none (h : S.fr d = none) (c : ¬ 1 < (S.sk d).length) : S.prE d = none := by
  unfold FS.prE; rw [h]; exact if_neg c
theorem prE_fr {k : Ek} (h : S.fr d = some k) : S.prE d = some k := by
  unfold FS.prE; rw [h]
end
end Rm
namespace Rm
open PySem PySem.Spec L2
open PyProof.Rows hiding St
section
variable {C CP : Addr} {more : List (Str × V)} {H H' : Hp} {a : Addr} {S : FS} {ad ad' : Ro → Addr} {F : Addr → Prop}
theorem FsAt.uniq (h : FsAt C CP more H a S ad) (h' : FsAt C CP more H a S ad') : ∀ r : Ro, r.ok S → ad' r = ad r := by
  obtain ⟨dx, lk⟩ := h.look
  obtain ⟨dx', lk'⟩ := h'.look
  have e := Option.some.inj (lk.o.symm.trans lk'.o)
  simp only [HO.ins.injEq, true_and, fatesO, List.cons_append, List.nil_append, List.cons.injEq, Prod.mk.injEq, V.ref.injEq] at e
  obtain ⟨_, ew, es, ek, ep, _⟩ := e
  intro r hr
  cases r with
  | obj => rw [h.at_, h'.at_]
  | work => exact ew.symm
  | states => exact es.symm
  | stacks => exact ek.symm
  | parts => exact ep.symm
  | stack i =>
    have k1 := lk.k
    have k2 := lk'.k
    rw [← ek, k1] at k2
    have e2 : ((List.range S.stacks.length).map fun i => V.ref (ad (.stack i))) = (List.range S.stacks.length).map fun i => V.ref (ad' (.stack i)) := by
      simpa only [Option.some.injEq, HO.lst.injEq] using k2
    have e3 := congrArg (fun l : List V => l[i]?) e2
    rw [refs_at hr, refs_at hr] at e3
    exact (V.ref.inj (Option.some.inj e3)).symm
  | part i =>
    have k1 := lk.p
    have k2 := lk'.p
    rw [← ep, k1] at k2
    have e2 : ((List.range S.parts.length).map fun i => V.ref (ad (.part i))) = (List.range S.parts.length).map fun i => V.ref (ad' (.part i)) := by
      simpa only [Option.some.injEq, HO.lst.injEq] using k2
    have e3 := congrArg (fun l : List V => l[i]?) e2
    rw [refs_at hr, refs_at hr] at e3
    exact (V.ref.inj (Option.some.inj e3)).symm
theorem FsAt.congr (h : FsAt C CP more H a S ad) (e : ∀ r : Ro, r.ok S → ad' r = ad r) : FsAt C CP more H a S ad' := by
  obtain ⟨h1, h2, dx, dp, h3⟩ := h
  refine ⟨(e .obj trivial).trans h1, fun r r' hr hr' q => h2 r r' hr hr' (by rw [← e r hr, ← e r' hr', q]), dx, dp, fun r hr => ?_⟩
  rw [e r hr, h3 r hr]
  cases r with
  | obj => simp only [cont, e .work trivial, e .states trivial, e .stacks trivial, e .parts trivial]
  | stacks =>
    simp only [cont]
    congr 2
    exact List.map_congr_left fun i hi => by rw [e (.stack i) (List.mem_range.mp hi)]
  | parts =>
    simp only [cont]
    congr 2
    exact List.map_congr_left fun i hi => by rw [e (.part i) (List.mem_range.mp hi)]
  | _ => rfl
end
/-- an operation of a number that keeps the places -/
def spNumK (K : PySem.W.Frag) (C CP : Addr) (more : List (Str × V)) (EE : EA) (er : FS → PyData → Option Ek) (op : FS → Nat → FS) (res : FS → Nat → V) : Sp := fun vs H Q E => ∃ a x d S F, vs = [.ref a, x] ∧ FsA C CP more H a S F ∧ Dx K H x d ∧ S.Wf ∧
  (∀ k, er S d = some k → ∀ H', Same H H' → Out EE E H' k (kv k x)) ∧
  ∀ i : Nat, d = .int ((i : Int) + 1) → i < S.states.length → er S d = none → ∀ H', FsA C CP more H' a (op S i) F → (∀ ad, FsAt C CP more H a S ad → FsAt C CP more H' a (op S i) ad) → Fr F H H' → Q (res S i) H'
end Rm
namespace Rm
open PySem PySem.Spec L2
open PyProof.Rows hiding St
theorem FsA.setStackAt {C CP : Addr} {more : List (Str × V)} {H : Hp} {a : Addr} {S : FS} {ad : Ro → Addr} {F : Addr → Prop} {i : Nat} {l : List Int} (h : FsAt C CP more H a S ad) (hF : ∀ b, F b ↔ Foot S ad b) (hi : i < S.stacks.length) :
    (FsAt C CP more (upd H (ad (.stack i)) (.lst (l.map V.int))) a { S with stacks := S.stacks.set i l } ad ∧ True) ∧ Fr F H (upd H (ad (.stack i)) (.lst (l.map V.int))) := by
  obtain ⟨⟨ad', h', _⟩, fr⟩ := FsA.setStack (l := l) h hF hi
  refine ⟨⟨?_, trivial⟩, fr⟩
  refine h.put hi (fun r' => by cases r' <;> simp [Ro.ok]) (fun _ _ _ => ?_) fun dx dp r' hr ne => ?_
  · show _ = HO.lst (((S.stacks.set i l).getD i []).map V.int)
    rw [List.getD_eq_getElem?_getD, List.getElem?_set_self hi]
    rfl
  · cases r' with
    | stack j =>
      have nj : i ≠ j := fun e => ne (by rw [e])
      show HO.lst (((S.stacks.set i l).getD j []).map V.int) = HO.lst ((S.stacks.getD j []).map V.int)
      rw [List.getD_eq_getElem?_getD, List.getElem?_set_ne nj, ← List.getD_eq_getElem?_getD]
    | stacks =>
      show HO.lst ((List.range (S.stacks.set i l).length).map _) = _
      rw [List.length_set]
      rfl
    | _ => rfl
theorem FsAt.same {C CP : Addr} {more : List (Str × V)} {H H' : Hp} {a : Addr} {S : FS} {ad : Ro → Addr} (h : FsAt C CP more H a S ad) (s : Same H H') : FsAt C CP more H' a S ad := h.up fun r hr => by
  obtain ⟨u, hu⟩ := h.has hr
  rw [hu]
  exact s _ _ hu
end Rm
namespace Rm
open PySem PySem.Spec L2
open PyProof.Rows hiding St
def spEndT (C CP : Addr) (more : List (Str × V)) : Sp := fun vs H Q _ => ∃ a i st z S F, vs = [.ref a, .int ((i : Nat) + 1), .str st, .str z] ∧ FsA C CP more H a S F ∧ i < S.states.length ∧ i < S.stacks.length ∧
  (S.stacks.getD i []).length ≤ 900 ∧ (∀ q ∈ S.stacks.getD i [], 1 ≤ q ∧ q ≤ (S.parts.length : Int)) ∧ ((i : Int) + 1) ∈ S.work ∧
  ∀ H' F', FsA C CP more H' a (S.endT i st z) F' → Fr F H H' → Grow F F' H → Q .non H'
end Rm
namespace Rm
open PySem PySem.Spec L2
open PyProof.Rows hiding St
theorem ixN_at {n j : Nat} (h : j < n) : ixN n (j : Int) = some j := by
  unfold ixN
  rw [if_pos (by omega), if_pos (by omega)]
  simp
theorem FsAt.setPartAt {C CP : Addr} {more : List (Str × V)} {H : Hp} {a : Addr} {S : FS} {ad : Ro → Addr} {i : Nat} {p : PI} (h : FsAt C CP more H a S ad) (hi : i < S.parts.length) {dx : Addr} (hd : ∃ p0, H (ad (.part i)) = some (partO CP dx p0)) :
    FsAt C CP more (upd H (ad (.part i)) (partO CP dx p)) a { S with parts := S.parts.set i p } ad := by
  refine h.put (r := .part i) hi (fun r' => by cases r' <;> simp [Ro.ok]) (fun dx0 dp h3 => ?_) fun dx dp r' hr ne => ?_
  · show _ = (match (S.parts.set i p)[i]? with | some p => partO CP (dp i) p | none => HO.lst [])
    rw [List.getElem?_set_self hi]
    obtain ⟨p0, hd⟩ := hd
    have e := h3 (.part i) hi
    rw [hd] at e
    have e2 : partO CP dx p0 = (match S.parts[i]? with | some p => partO CP (dp i) p | none => HO.lst []) := Option.some.inj e
    rw [List.getElem?_eq_getElem hi] at e2
    have e3 : dx = dp i := by
      simp only [partO, HO.ins.injEq] at e2
      exact e2.2.1
    rw [e3]
  · cases r' with
    | part j =>
      have nj : i ≠ j := fun e => ne (by rw [e])
      show (match (S.parts.set i p)[j]? with | some p => partO CP (dp j) p | none => HO.lst []) = (match S.parts[j]? with | some p => partO CP (dp j) p | none => HO.lst [])
      rw [List.getElem?_set_ne nj]
    | parts =>
      show HO.lst ((List.range (S.parts.set i p).length).map _) = _
      rw [List.length_set]
      rfl
    | _ => rfl
theorem endAll_keeps (z : Str) : ∀ (l : List Int) (S : FS), (S.endAll z l).stacks = S.stacks ∧ (S.endAll z l).states = S.states ∧ (S.endAll z l).work = S.work ∧ (S.endAll z l).done = S.done ∧ (S.endAll z l).moment = S.moment ∧
    (S.endAll z l).parts.length = S.parts.length
  | [], S => ⟨rfl, rfl, rfl, rfl, rfl, rfl⟩
  | q :: l, S => by
    obtain ⟨h1, h2, h3, h4, h5, h6⟩ := endAll_keeps z l (S.endP q z)
    exact ⟨h1, h2, h3, h4, h5, h6.trans (by simp [FS.endP, FS.mdP])⟩
theorem endAll_next {z : Str} {l : List Int} {n : Nat} {q : Int} {S : FS} (h : l[n]? = some q) : S.endAll z (l.take (n + 1)) = (S.endAll z (l.take n)).endP q z := by
  rw [List.take_succ, h]
  unfold FS.endAll
  rw [List.foldl_append]
  rfl
theorem erase_at {k : Int} : ∀ {ns : List Int}, k ∈ ns → ∃ j, ns[j]? = some k ∧ (∀ m : Nat, m < j → ns[m]? ≠ some k) ∧ ns.eraseIdx j = ns.erase k
  | x :: ns, h => by
    by_cases e : x = k
    · subst e
      exact ⟨0, rfl, fun m hm => absurd hm (Nat.not_lt_zero _), by simp⟩
    · have h' : k ∈ ns := by
        rcases List.mem_cons.mp h with h | h
        · exact absurd h.symm e
        · exact h
      obtain ⟨j, h1, h2, h3⟩ := erase_at h'
      refine ⟨j + 1, by simpa using h1, fun m hm => ?_, ?_⟩
      · cases m with
        | zero => simpa using e
        | succ m => simpa using h2 m (by omega)
      · rw [List.eraseIdx_cons_succ, h3, List.erase_cons_tail (by simpa using e)]
end Rm
namespace Rm
theorem ok_same {S S' : FS} (e1 : S'.stacks.length = S.stacks.length) (e2 : S'.parts.length = S.parts.length) : ∀ r : Ro, r.ok S' ↔ r.ok S := fun r => by
  cases r <;> simp [Ro.ok, e1, e2]
end Rm
namespace Rm
open PySem PySem.Spec L2
open PyProof.Rows hiding St
def FS.isRun (S : FS) (n : Int) : Bool := decide (S.st (.int n) = "running")
def FS.crs (S : FS) : FS := (S.work.filter S.isRun).foldl (fun S n => S.endT (n - 1).toNat "aborted" "rolled back") S.cnt
def spCrash (C CP : Addr) (more : List (Str × V)) : Sp := fun vs H Q _ => ∃ a S F, vs = [.ref a] ∧ FsA C CP more H a S F ∧ S.Wf ∧ ∀ H' F', FsA C CP more H' a S.crs F' → Fr F H H' → Grow F F' H → Q .non H'
end Rm
namespace Rm
open PySem PySem.Spec L2
open PyProof.Rows hiding St
theorem endT_keeps (S : FS) (i : Nat) (st z : Str) : (S.endT i st z).states.length = S.states.length ∧ (S.endT i st z).stacks.length = S.stacks.length ∧ (S.endT i st z).parts.length = S.parts.length ∧
    (∀ j, j ≠ i → (S.endT i st z).stacks.getD j [] = S.stacks.getD j []) ∧ (S.endT i st z).work = S.work.erase ((i : Int) + 1) := by
  obtain ⟨h1, h2, h3, h4, h5, h6⟩ := endAll_keeps z (S.stacks.getD i []) S
  refine ⟨by simp [FS.endT], by simp [FS.endT], h6, fun j hj => ?_, rfl⟩
  show (S.stacks.set i []).getD j [] = _
  rw [List.getD_eq_getElem?_getD, List.getElem?_set_ne (Ne.symm hj), ← List.getD_eq_getElem?_getD]
/-- one running transaction after the other ends -/
def crF (S : FS) (l : List Int) : FS := l.foldl (fun S n => S.endT (n - 1).toNat "aborted" "rolled back") S
theorem crF_keeps : ∀ (l : List Int) (S : FS), (∀ k ∈ l, 1 ≤ k) → (crF S l).states.length = S.states.length ∧ (crF S l).stacks.length = S.stacks.length ∧ (crF S l).parts.length = S.parts.length ∧
    (∀ j : Nat, ((j : Int) + 1) ∉ l → (crF S l).stacks.getD j [] = S.stacks.getD j []) ∧ ∀ k ∈ S.work, k ∉ l → k ∈ (crF S l).work
  | [], S, _ => ⟨rfl, rfl, rfl, fun _ _ => rfl, fun _ h _ => h⟩
  | n :: l, S, hp => by
    obtain ⟨h1, h2, h3, h4, h5⟩ := crF_keeps l (S.endT (n - 1).toNat "aborted" "rolled back") fun k hk => hp k (.tail _ hk)
    obtain ⟨g1, g2, g3, g4, g5⟩ := endT_keeps S (n - 1).toNat "aborted" "rolled back"
    have hn := hp n (.head _)
    refine ⟨h1.trans g1, h2.trans g2, h3.trans g3, fun j hj => ?_, fun k hk hkl => ?_⟩
    · refine (h4 j fun h => hj (.tail _ h)).trans (g4 j fun e => hj ?_)
      have : (j : Int) + 1 = n := by omega
      rw [this]
      exact .head _
    · refine h5 k ?_ fun h => hkl (.tail _ h)
      rw [g5]
      refine (List.mem_erase_of_ne fun e => hkl ?_).mpr hk
      have : k = n := by omega
      rw [this]
      exact .head _
theorem crF_next {S : FS} {l : List Int} {n : Nat} {k : Int} (h : l[n]? = some k) : crF S (l.take (n + 1)) = (crF S (l.take n)).endT (k - 1).toNat "aborted" "rolled back" := by
  rw [List.take_succ, h]
  unfold crF
  rw [List.foldl_append]
  rfl
theorem not_in_take {l : List Int} {n : Nat} {k : Int} (nd : l.Nodup) (h : l[n]? = some k) : k ∉ l.take n := fun hm => by
  obtain ⟨m, hm⟩ := List.mem_iff_getElem?.mp hm
  rw [List.getElem?_take] at hm
  split at hm
  · rename_i lt
    have P := List.pairwise_iff_getElem.mp nd
    obtain ⟨h1, h2⟩ := List.getElem?_eq_some_iff.mp h
    obtain ⟨h3, h4⟩ := List.getElem?_eq_some_iff.mp hm
    exact P m n h3 h1 lt (h4.trans h2.symm)
  · cases hm
end Rm
namespace Rm
open PySem PySem.Spec L2
open PyProof.Rows hiding St
/-- what is asked without change -/
def spGet (C CP : Addr) (more : List (Str × V)) (g : FS → V) : Sp := fun vs H Q _ => ∃ a S F, vs = [.ref a] ∧ FsA C CP more H a S F ∧ Q (g S) H
def spGetL (C CP : Addr) (more : List (Str × V)) (g : FS → List Int) : Sp := fun vs H Q _ => ∃ a S F, vs = [.ref a] ∧ FsA C CP more H a S F ∧ ∀ p, H p = none → Q (.ref p) (upd H p (.lst ((g S).map V.int)))
def spGetN (K : PySem.W.Frag) (C CP : Addr) (more : List (Str × V)) (EE : EA) (q : FS → Nat → VK → Hp → Prop) : Sp := fun vs H Q E => ∃ a x d S F, vs = [.ref a, x] ∧ FsA C CP more H a S F ∧ Dx K H x d ∧ S.Wf ∧
  (∀ k, S.kn d = some k → ∀ H', Same H H' → Out EE E H' k x) ∧ ∀ i : Nat, d = .int ((i : Int) + 1) → i < S.states.length → ∀ H', Same H H' → q S i Q H'
def qSt : FS → Nat → VK → Hp → Prop := fun S i Q H => Q (.str (S.st (.int ((i : Int) + 1)))) H
def qPt : FS → Nat → VK → Hp → Prop := fun S i Q H => ∀ p, H p = none → Q (.ref p) (upd H p (.lst ((S.stacks.getD i []).map V.int)))
def FS.zero : FS := ⟨0, 0, [], [], [], []⟩
def spFInit (C CP : Addr) : Sp := fun vs H Q _ => ∃ a dx, vs = [.ref a] ∧ H a = some (.ins C dx []) ∧
  ∀ H' F, FsA C CP [] H' a .zero F → Fr (fun b => b = a) H H' → Grow (fun b => b = a) F H → Q .non H'
end Rm
namespace Rm
open PySem PySem.Spec L2
open PyProof.Rows hiding St
theorem pf2 {u v : V} : putF "_commits" u (putF "_done" v []) = [(("_done" : Str), v), ("_commits", u)] := by
  simp [putF, show ¬ (("_done" : Str) = "_commits") by decide +kernel]
theorem pf3 {u v x : V} : putF "_at_work" x [(("_done" : Str), v), ("_commits", u)] = [(("_done" : Str), v), ("_commits", u), ("_at_work", x)] := by
  simp [putF, show ¬ (("_done" : Str) = "_at_work") by decide +kernel, show ¬ (("_commits" : Str) = "_at_work") by decide +kernel]
theorem pf4 {u v x y : V} : putF "_states" y [(("_done" : Str), v), ("_commits", u), ("_at_work", x)] = [(("_done" : Str), v), ("_commits", u), ("_at_work", x), ("_states", y)] := by
  simp [putF, show ¬ (("_done" : Str) = "_states") by decide +kernel, show ¬ (("_commits" : Str) = "_states") by decide +kernel, show ¬ (("_at_work" : Str) = "_states") by decide +kernel]
theorem pf5 {u v x y z : V} : putF "_stacks" z [(("_done" : Str), v), ("_commits", u), ("_at_work", x), ("_states", y)] = [(("_done" : Str), v), ("_commits", u), ("_at_work", x), ("_states", y), ("_stacks", z)] := by
  simp [putF, show ¬ (("_done" : Str) = "_stacks") by decide +kernel, show ¬ (("_commits" : Str) = "_stacks") by decide +kernel, show ¬ (("_at_work" : Str) = "_stacks") by decide +kernel, show ¬ (("_states" : Str) = "_stacks") by decide +kernel]
theorem pf6 {u v x y z t : V} : putF "_all_parts" t [(("_done" : Str), v), ("_commits", u), ("_at_work", x), ("_states", y), ("_stacks", z)] = [(("_done" : Str), v), ("_commits", u), ("_at_work", x), ("_states", y), ("_stacks", z), ("_all_parts", t)] := by
  simp [putF, show ¬ (("_done" : Str) = "_all_parts") by decide +kernel, show ¬ (("_commits" : Str) = "_all_parts") by decide +kernel, show ¬ (("_at_work" : Str) = "_all_parts") by decide +kernel, show ¬ (("_states" : Str) = "_all_parts") by decide +kernel, show ¬ (("_stacks" : Str) = "_all_parts") by decide +kernel]
structure Stp (H Hk : Hp) (a y : Addr) (o : HO) (H' : Hp) : Prop where
  fr : Fr (fun b => b = a) H H'
  oa : H' a = some o
  oy : H' y = some (.lst [])
  k : ∀ b u, Hk b = some u → b ≠ a → H' b = some u
  ne : y ≠ a
  n : H y = none
theorem stp {H Hk : Hp} {a y : Addr} {o u : HO} (fr : Fr (fun b => b = a) H Hk) (ha : Hk a = some u) (ny : Hk y = none) : Stp H Hk a y o (upd (upd Hk y (.lst [])) a o) := by
  have ne : y ≠ a := fun e => by rw [e, ha] at ny; cases ny
  refine ⟨fun b v hb n => ?_, upd_same, by rw [upd_ne ne]; exact upd_same, fun b v hb n => ?_, ne, ?_⟩
  · have z := fr b v hb n
    rw [upd_ne n, upd_ne (fun e => by rw [e, ny] at z; cases z)]
    exact z
  · rw [upd_ne n, upd_ne (fun e => by rw [e, ny] at hb; cases hb)]
    exact hb
  · cases z : H y with
    | none => rfl
    | some v =>
      rw [fr y v z ne] at ny
      cases ny
end Rm

set_option maxRecDepth 100000
set_option maxHeartbeats 4000000
namespace Rm
open PySem PySem.Spec L2
open PyProof.Rows hiding St

/-! ### the root of a part -/
structure FS.Tree (S : FS) : Prop where
  up : ∀ (j : Nat) (p : PI) (q : Int), S.parts[j]? = some p → p.outer = some q → 1 ≤ q ∧ q ≤ (j : Int)
  rl : ∀ (j : Nat) (p : PI), S.parts[j]? = some p → p.released.isSome = true → p.outer.isSome = true
def rootN (S : FS) : Nat → Int → Int
  | 0, q => q
  | n + 1, q => match S.parts[(q - 1).toNat]? with
    | some p => if p.released.isSome then rootN S n (p.outer.getD 0) else q
    | none => q
def FS.root (S : FS) (q : Int) : Int := rootN S q.toNat q
theorem rootN_more {S : FS} (t : S.Tree) : ∀ (n : Nat) (q : Int), 1 ≤ q → q ≤ (n : Int) → ∀ m, n ≤ m → rootN S m q = rootN S n q
  | 0, q, h1, h2, _, _ => by omega
  | n + 1, q, h1, h2, m, hm => by
    obtain ⟨m, rfl⟩ : ∃ k, m = k + 1 := ⟨m - 1, by omega⟩
    show (match S.parts[(q - 1).toNat]? with | some p => if p.released.isSome then rootN S m (p.outer.getD 0) else q | none => q) = (match S.parts[(q - 1).toNat]? with | some p => if p.released.isSome then rootN S n (p.outer.getD 0) else q | none => q)
    cases e : S.parts[(q - 1).toNat]? with
    | none => rfl
    | some p =>
      dsimp only
      by_cases r : p.released.isSome = true
      · rw [if_pos r, if_pos r]
        obtain ⟨o, ho⟩ := Option.isSome_iff_exists.mp (t.rl _ _ e r)
        obtain ⟨u1, u2⟩ := t.up _ _ _ e ho
        rw [ho]
        exact rootN_more t n o u1 (by omega) m (by omega)
      · rw [if_neg r, if_neg r]
theorem root_here {S : FS} {j : Nat} {p : PI} (h : S.parts[j]? = some p) (r : p.released = none) : S.root ((j : Int) + 1) = (j : Int) + 1 := by
  unfold FS.root
  rw [show ((j : Int) + 1).toNat = j + 1 by omega]
  show (match S.parts[((j : Int) + 1 - 1).toNat]? with | some p => if p.released.isSome then rootN S j (p.outer.getD 0) else (j : Int) + 1 | none => (j : Int) + 1) = _
  rw [show ((j : Int) + 1 - 1).toNat = j by omega, h]
  simp [r]
theorem root_up {S : FS} (t : S.Tree) {j : Nat} {p : PI} {o : Int} (h : S.parts[j]? = some p) (r : p.released.isSome = true) (ho : p.outer = some o) : S.root ((j : Int) + 1) = S.root o := by
  obtain ⟨u1, u2⟩ := t.up _ _ _ h ho
  unfold FS.root
  rw [show ((j : Int) + 1).toNat = j + 1 by omega]
  show (match S.parts[((j : Int) + 1 - 1).toNat]? with | some p => if p.released.isSome then rootN S j (p.outer.getD 0) else (j : Int) + 1 | none => (j : Int) + 1) = _
  rw [show ((j : Int) + 1 - 1).toNat = j by omega, h]
  dsimp only
  rw [if_pos r, ho]
  exact rootN_more t o.toNat o u1 (by omega) j (by omega)
def FS.kp (S : FS) (d : PyData) : Option Ek := if isW 1 S.parts.length d then none else some .up
theorem FS.kp_none {S : FS} {d : PyData} (h : S.kp d = none) : ∃ i : Nat, d = .int ((i : Int) + 1) ∧ i < S.parts.length := by
  unfold FS.kp at h
  split at h
  · rename_i hw
    obtain ⟨z, rfl, h1, h2⟩ := isW_intF hw
    exact ⟨(z - 1).toNat, by congr 1; omega, by omega⟩
  · cases h
/-- a part is asked: what it tells, or UnknownPart -/
def spPt (K : PySem.W.Frag) (C CP : Addr) (more : List (Str × V)) (EE : EA) (g : FS → Int → V) : Sp := fun vs H Q E => ∃ a x d S F, vs = [.ref a, x] ∧ FsA C CP more H a S F ∧ Dx K H x d ∧ S.Wf ∧ S.Tree ∧
  (∀ k, S.kp d = some k → ∀ H', Same H H' → Out EE E H' k x) ∧ ∀ i : Nat, d = .int ((i : Int) + 1) → i < S.parts.length → ∀ H', Same H H' → Q (g S ((i : Int) + 1)) H'
/-- the root is a part -/
theorem root_is {S : FS} (t : S.Tree) : ∀ (n j : Nat), j < n → j < S.parts.length → ∃ i : Nat, S.root ((j : Int) + 1) = (i : Int) + 1 ∧ i < S.parts.length
  | 0, j, h, _ => absurd h (Nat.not_lt_zero _)
  | n + 1, j, h, hj => by
    have hp := List.getElem?_eq_getElem hj
    cases r : S.parts[j].released with
    | none => exact ⟨j, root_here hp r, hj⟩
    | some v =>
      have hr : S.parts[j].released.isSome = true := by rw [r]; rfl
      obtain ⟨o, ho⟩ := Option.isSome_iff_exists.mp (t.rl _ _ hp hr)
      obtain ⟨u1, u2⟩ := t.up _ _ _ hp ho
      obtain ⟨i, rfl⟩ : ∃ i : Nat, o = (i : Int) + 1 := ⟨(o - 1).toNat, by omega⟩
      rw [root_up t hp hr ho]
      exact root_is t n i (by omega) (by omega)
def FS.out (S : FS) (q : Int) : Str := ((S.parts[(q - 1).toNat]?).map PI.outcome).getD ""
theorem out_at {S : FS} {i : Nat} (h : i < S.parts.length) : S.out ((i : Int) + 1) = S.parts[i].outcome := by
  unfold FS.out
  rw [Int.add_sub_cancel, Int.toNat_natCast, List.getElem?_eq_getElem h]
  rfl
end Rm

set_option maxRecDepth 100000
set_option maxHeartbeats 4000000
namespace Rm
open PySem PySem.Spec L2
open PyProof.Rows hiding St

/-! ### max(a list of ints, default=d) -/
def maxI (d : Int) : List Int → Int
  | [] => d
  | n :: ns => ns.foldl max n
theorem maxI_mem {d : Int} {ns : List Int} (h : ns ≠ []) : maxI d ns ∈ ns := by
  cases ns with
  | nil => exact absurd rfl h
  | cons n ns =>
    show ns.foldl max n ∈ n :: ns
    clear h
    induction ns generalizing n with
    | nil => exact .head _
    | cons m ms ih =>
      show ms.foldl max (max n m) ∈ _
      have := ih (max n m)
      rcases List.mem_cons.mp this with e | e
      · rw [e]
        rcases Int.le_total n m with c | c
        · rw [Int.max_eq_right c]; exact .tail _ (.head _)
        · rw [Int.max_eq_left c]; exact .head _
      · exact .tail _ (.tail _ e)
theorem foldl_max_le (ns : List Int) (n : Int) : n ≤ ns.foldl max n ∧ ∀ m ∈ ns, m ≤ ns.foldl max n := by
  induction ns generalizing n with
  | nil => exact ⟨Int.le_refl _, fun m h => by cases h⟩
  | cons m ms ih =>
    obtain ⟨h1, h2⟩ := ih (max n m)
    refine ⟨Int.le_trans (Int.le_max_left _ _) h1, fun k hk => ?_⟩
    rcases List.mem_cons.mp hk with e | hk
    · rw [e]; exact Int.le_trans (Int.le_max_right _ _) h1
    · exact h2 k hk
theorem maxI_le {d : Int} {ns : List Int} {m : Int} (h : m ∈ ns) : m ≤ maxI d ns := by
  cases ns with
  | nil => cases h
  | cons n ns =>
    rcases List.mem_cons.mp h with e | h
    · rw [e]; exact (foldl_max_le ns n).1
    · exact (foldl_max_le ns n).2 m h
def rMaxDf (K : PySem.W.Frag) : List V → List V → Hp → VK → Prop := fun vs zs H Q => ∃ l ns d, vs = [.ref l] ∧ zs = [.int d] ∧ SqL K H l (ns.map V.int) ∧ Q (.int (maxI d ns)) H
theorem call_maxDf {X : Cx} (hc : X.calm = true) (hr : Room 2 X.A) : CallRK X (.builtin "max") ["default"] (rMaxDf X.K) := by
  intro pins s σ H vs us zs ws Q I r rz h
  obtain ⟨l, ns, d, rfl, rfl, hl, hQ⟩ := h
  rw [Vals.ref1 r]
  obtain ⟨its, rv, hls, _⟩ := I.list hl
  cases rz with
  | cons r1 rz =>
    cases rz
    rename_i w1
    show wpAny _ X.A (call (.builtin "max") [.ref l] [(Str.ofString "default", w1)]) _ _ s
    have hi : IntsAre its ns := rv.ints
    refine PySem.W.max_list_datum_default (α := Int) (xs := ns) (I.ok.hd hc) hls.isList (PySem.W.HoldAll.of_ints hi) ?_ (fun e h' tk hk => ?_) fun y ys i v h' tk e hi' hv hk => ?_
    · have := hr.un
      show X.A.units + 1 + 0 < cLine
      omega
    · subst e
      exact ⟨_, H, I.kept hk, r1, hQ⟩
    · subst e
      have e2 : PySem.W.maxOf y ys = ys.foldl max y := by
        unfold PySem.W.maxOf
        congr 1
        funext a b
        show (if decide (a < b) = true then b else a) = max a b
        by_cases c : a < b
        · rw [if_pos (decide_eq_true c)]
          omega
        · rw [if_neg (by simpa using c)]
          omega
      rw [e2] at hv
      obtain ⟨bs, r'⟩ := hv
      have r' : Reads h' v (.int (ys.foldl max y)) bs := r'
      cases r'
      exact ⟨.int _, H, I.kept hk, ⟨_, rfl⟩, hQ⟩

/-! ### versions of a row, as plain data -/
structure RV where
  num : Int
  val : V
  part : Option Int
  mode : V
def VsAt (H : Hp) (D : List (Int × V)) (L : List RV) : Prop := D.map (·.1) = L.map RV.num ∧ ∀ r ∈ L, ∃ tp, valD D r.num = some (.ref tp) ∧ H tp = some (.tup [r.val, oI r.part, r.mode])
theorem VsAt.same {H H' : Hp} {D : List (Int × V)} {L : List RV} (h : VsAt H D L) (s : ∀ b xs, H b = some (.tup xs) → H' b = some (.tup xs)) : VsAt H' D L :=
  ⟨h.1, fun r hr => by
    obtain ⟨tp, h1, h2⟩ := h.2 r hr
    exact ⟨tp, h1, s _ _ h2⟩⟩
/-- the parts that made them are there -/
def PKn (S : FS) (L : List RV) : Prop := ∀ r ∈ L, ∀ q, r.part = some q → 1 ≤ q ∧ q ≤ (S.parts.length : Int)
def FS.ftO (S : FS) : Option Int → Str
  | none => "committed"
  | some q => S.out (S.root q)
def FS.stdL (S : FS) (L : List RV) : List Int := (L.filter fun r => decide (¬ S.ftO r.part = "rolled back")).map RV.num
def FS.bseL (S : FS) (L : List RV) : List Int := (L.filter fun r => decide (S.ftO r.part = "committed")).map RV.num
def FS.bse (S : FS) (L : List RV) : Int := maxI 0 (S.bseL L)
def FS.nwst (S : FS) (L : List RV) : Int := maxI 0 (S.stdL L)
theorem std_mem {S : FS} {L : List RV} {n : Int} (h : n ∈ S.stdL L) : ∃ r ∈ L, r.num = n ∧ ¬ S.ftO r.part = "rolled back" := by
  obtain ⟨r, hr, e⟩ := List.mem_map.mp h
  obtain ⟨h1, h2⟩ := List.mem_filter.mp hr
  exact ⟨r, h1, e, of_decide_eq_true h2⟩
theorem bse_mem {S : FS} {L : List RV} {n : Int} (h : n ∈ S.bseL L) : ∃ r ∈ L, r.num = n ∧ S.ftO r.part = "committed" := by
  obtain ⟨r, hr, e⟩ := List.mem_map.mp h
  obtain ⟨h1, h2⟩ := List.mem_filter.mp hr
  exact ⟨r, h1, e, of_decide_eq_true h2⟩
theorem mem_bse {S : FS} {L : List RV} {r : RV} (h : r ∈ L) (e : S.ftO r.part = "committed") : r.num ∈ S.bseL L :=
  List.mem_map.mpr ⟨r, List.mem_filter.mpr ⟨h, decide_eq_true e⟩, rfl⟩
theorem mem_std {S : FS} {L : List RV} {r : RV} (h : r ∈ L) (e : ¬ S.ftO r.part = "rolled back") : r.num ∈ S.stdL L :=
  List.mem_map.mpr ⟨r, List.mem_filter.mpr ⟨h, decide_eq_true e⟩, rfl⟩
theorem bse_std {S : FS} {L : List RV} {n : Int} (h : n ∈ S.bseL L) : n ∈ S.stdL L := by
  obtain ⟨r, hr, rfl, e⟩ := bse_mem h
  exact mem_std hr (by rw [e]; decide)
/-- the newest one is made by a part, if it is not the base -/
theorem newest_part {S : FS} {L : List RV} (h : ¬ S.nwst L = S.bse L) : ∃ r ∈ L, r.num = S.nwst L ∧ ∃ q, r.part = some q := by
  by_cases e : S.stdL L = []
  · have e2 : S.bseL L = [] := by
      cases e3 : S.bseL L with
      | nil => rfl
      | cons n ns =>
        have := bse_std (S := S) (L := L) (n := n) (by rw [e3]; exact .head _)
        rw [e] at this
        cases this
    exact absurd (by rw [FS.nwst, FS.bse, e, e2]) h
  · obtain ⟨r, hr, e1, e2⟩ := std_mem (maxI_mem (d := 0) e)
    refine ⟨r, hr, e1, ?_⟩
    cases e3 : r.part with
    | some q => exact ⟨q, rfl⟩
    | none =>
      have hb := mem_bse (S := S) hr (by rw [e3]; rfl)
      refine absurd (Int.le_antisymm ?_ ?_) h
      · show maxI 0 (S.stdL L) ≤ _
        rw [← e1]
        exact maxI_le hb
      · exact maxI_le (bse_std (maxI_mem (d := 0) fun z => by rw [z] at hb; cases hb))
def FS.hld (S : FS) (q : Int) : Int := (S.parts[(q - 1).toNat]?).map PI.holder |>.getD 0
def FS.chg (S : FS) (L : List RV) : V := if S.nwst L = S.bse L then .non else match L.find? fun r => decide (r.num = S.nwst L) with
  | some r => .int (S.hld (r.part.getD 0))
  | none => .non
end Rm

set_option maxRecDepth 100000
set_option maxHeartbeats 4000000
namespace Rm
open PySem PySem.Spec L2
open PyProof.Rows hiding St

/-! ### sets of tuples of ints and texts: what is asked of one tuple -/
abbrev NK := NestedKey
def Fl : NK → Prop
  | .num _ => True
  | .text _ => True
  | _ => False
def Scal (v : Value) : Prop := (∃ c, v = .bool c) ∨ (∃ i z, v = .int i z) ∨ ∃ x z, v = .str x z
structure FK (h : Heap) (ks : List NK) (b : Addr) : Prop where
  is : NestedIs h (.tup ks) (.ref b)
  fl : ∀ k ∈ ks, Fl k
theorem scal_all {h : Heap} : ∀ {ks : List NK} {vs : List Value}, NestedAll h ks vs → (∀ k ∈ ks, Fl k) → ∀ v ∈ vs, Scal v
  | [], _, .nil, _, v, hv => by cases hv
  | k :: ks, _, .cons h1 h2, f, v, hv => by
    rcases List.mem_cons.mp hv with e | hv
    · subst e
      have f1 := f k (.head _)
      cases h1 with
      | none => exact f1.elim
      | bool => exact .inl ⟨_, rfl⟩
      | int => exact .inr (.inl ⟨_, _, rfl⟩)
      | text => exact .inr (.inr ⟨_, _, rfl⟩)
      | tup => exact f1.elim
    · exact scal_all h2 (fun k hk => f k (.tail _ hk)) v hv
theorem FK.opened {h : Heap} {ks : List NK} {b : Addr} (x : FK h ks b) : ∃ ob vs n, h.get? b = some ob ∧ ob.cls = .type "tuple" ∧ ob.data = .seq vs n ∧ ∀ v ∈ vs.toList, Scal v := by
  obtain ⟨i, f⟩ := x
  cases i with
  | tup h1 h2 h3 h4 => exact ⟨_, _, _, h1, h2, h3, scal_all h4 f⟩
theorem fl_depth : ∀ {ks : List NK}, (∀ k ∈ ks, Fl k) → NestedKey.depthAll ks = 0
  | [], _ => rfl
  | k :: ks, f => by
    have f1 := f k (.head _)
    have e2 := fl_depth fun k hk => f k (.tail _ hk)
    simp only [NestedKey.depthAll, e2]
    cases k with
    | num => rfl
    | text => rfl
    | none => exact f1.elim
    | tup => exact f1.elim
theorem FK.dep {h : Heap} {ks : List NK} {b : Addr} (x : FK h ks b) : (NestedKey.tup ks).depth = 1 := by
  simp only [NestedKey.depth, fl_depth x.fl]
theorem FK.stay {h h' : Heap} {ks : List NK} {b : Addr} (x : FK h ks b) (k : ∀ c ob vs n, h.get? c = some ob → ob.data = .seq vs n → h'.get? c = some ob) : FK h' ks b :=
  ⟨NestedIs.at k _ _ x.is, x.fl⟩
def hsh (w : World) (ks : List NK) : Int := (NestedKey.tup ks).hash w
section
variable {P : Program} {w : World} {A : Around} {E : Value → Shared → Prop} {s : Shared} {ks : List NK} {b : Addr}
theorem fk_hash {Q : Int → Shared → Prop} (x : FK s.heap ks b) (u : A.units + 1 < cLine) (q : Q (hsh w ks) { s with toks := s.toks + (NestedKey.tup ks).draws }) : wpAny (model P w) A (pyHash (.ref b)) Q E s :=
  pyHash_key _ _ _ _ _ x.is (by rw [x.dep]; exact u) q
theorem fk_eq {ls : List NK} {c : Addr} {Q : Bool → Shared → Prop} (x : FK s.heap ks b) (y : FK s.heap ls c) (u : A.units + 1 < cLine) (q : Q (decide (ks = ls)) s) : wpAny (model P w) A (eqBool (.ref b) (.ref c)) Q E s := by
  refine eqAt_key (.tup ks) (.tup ls) A s _ _ x.is y.is (by rw [x.dep, y.dep]; exact u) _ _ _ _ ?_
  rw [← NestedKey.decide_eq]
  have e : decide (NestedKey.tup ks = NestedKey.tup ls) = decide (ks = ls) := by
    by_cases c : ks = ls
    · simp [c]
    · simp [c]
  rw [e]
  exact q
theorem scal_class {v : Value} (h : Scal v) (n : Nat) : ofAClassStatement n v = pure false := by
  rcases h with ⟨_, rfl⟩ | ⟨_, _, rfl⟩ | ⟨_, _, rfl⟩ <;> cases n <;> rfl
theorem scal_hbv {v : Value} (h : Scal v) (n : Nat) : ∃ c, hashByValue n v = pure c := by
  rcases h with ⟨_, rfl⟩ | ⟨_, _, rfl⟩ | ⟨_, _, rfl⟩
  · exact ⟨true, by cases n <;> rfl⟩
  · exact ⟨true, by cases n <;> rfl⟩
  · exact ⟨false, by cases n <;> rfl⟩
theorem fk_class {Q : Bool → Shared → Prop} (x : FK s.heap ks b) (q : Q false s) : wpAny (model P w) A (ofAClassStatement 8 (.ref b)) Q E s := by
  obtain ⟨ob, vs, n, g1, g2, g3, sc⟩ := x.opened
  have ty : s.TypeIs (.ref b) "tuple" := ⟨ob, g1, g2⟩
  unfold ofAClassStatement
  refine wpAny_bind (wpAny_typeOf ty ?_)
  dsimp only
  have e : (("tuple" : String) == "tuple") = true := by decide
  simp only [e, if_true]
  refine wpAny_bind (wpAny_pure ?_)
  simp only [Bool.not_true, Bool.false_eq_true, if_false]
  refine wpAny_bind (wpAny_seqItems g1 g3 ?_)
  dsimp only
  refine wpAny_bind ?_
  rw [← Array.forIn_toList]
  refine wpAny_forIn_list _ (fun todo r s' => r = (none, ()) ∧ s' = s ∧ ∀ v ∈ todo, Scal v) _ (fun v todo r s' hI => ?_) (fun r s' hI => ?_) _ _ ⟨rfl, rfl, sc⟩
  · obtain ⟨rfl, rfl, al⟩ := hI
    rw [scal_class (al v (.head _))]
    exact wpAny_bind (wpAny_pure (wpAny_pure ⟨rfl, rfl, fun z hz => al z (.tail _ hz)⟩))
  · obtain ⟨rfl, rfl, _⟩ := hI
    exact wpAny_pure q
theorem fk_hbv {Q : Bool → Shared → Prop} (x : FK s.heap ks b) (q : ∀ c, Q c s) : wpAny (model P w) A (hashByValue 8 (.ref b)) Q E s := by
  obtain ⟨ob, vs, n, g1, g2, g3, sc⟩ := x.opened
  have ty : s.TypeIs (.ref b) "tuple" := ⟨ob, g1, g2⟩
  unfold hashByValue
  refine wpAny_bind (wpAny_specialOf ty PySem.F.slot_tuple_hash.lookup ?_)
  dsimp only
  refine wpAny_bind (wpAny_seqItems g1 g3 ?_)
  refine wpAny_bind ?_
  show wpAny _ _ (forIn vs _ _) _ _ s
  rw [← Array.forIn_toList]
  refine wpAny_forIn_list _ (fun todo r s' => r = (none, ()) ∧ s' = s ∧ ∀ v ∈ todo, Scal v) _ (fun v todo r s' hI => ?_) (fun r s' hI => ?_) _ _ ⟨rfl, rfl, sc⟩
  · obtain ⟨rfl, rfl, al⟩ := hI
    obtain ⟨c, e⟩ := scal_hbv (al v (.head _)) 7
    rw [e]
    refine wpAny_bind (wpAny_pure ?_)
    cases c with
    | true => exact wpAny_pure ⟨rfl, rfl, fun z hz => al z (.tail _ hz)⟩
    | false => exact wpAny_pure (wpAny_pure (q false))
  · obtain ⟨rfl, rfl, _⟩ := hI
    exact wpAny_pure (q true)
theorem fk_seen {ys : List Value} {Q : Bool → Shared → Prop} (x : FK s.heap ks b) (hy : ∀ y ∈ ys, ∃ ls c, y = .ref c ∧ FK s.heap ls c) (q : Q false s) : wpAny (model P w) A (searchCouldBeSeen (.ref b) ys) Q E s := by
  unfold searchCouldBeSeen
  refine wpAny_bind ?_
  refine wpAny_forIn_list _ (fun todo r s' => r = (none, ()) ∧ s' = s ∧ ∀ y ∈ todo, ∃ ls c, y = .ref c ∧ FK s.heap ls c) _ (fun v todo r s' hI => ?_) (fun r s' hI => ?_) _ _ ⟨rfl, rfl, hy⟩
  · obtain ⟨rfl, rfl, al⟩ := hI
    obtain ⟨ls, c, rfl, y⟩ := al v (.head _)
    have more : ∀ z ∈ todo, ∃ ls c, z = .ref c ∧ FK s'.heap ls c := fun z hz => al z (.tail _ hz)
    dsimp only
    by_cases same : (b == c || (carriedByValue (.ref b) && carriedByValue (.ref c))) = true
    · exact wp_if_pos same (wpAny_pure ⟨rfl, rfl, more⟩)
    · refine wp_if_neg same ?_
      refine wpAny_bind (quiet_key _ _ 8 s' x.is (by rw [x.dep]; decide) A E _ ?_)
      simp only [Bool.not_true, Bool.false_eq_true, if_false]
      refine wpAny_bind (quiet_key _ _ 8 s' y.is (by rw [y.dep]; decide) A E _ ?_)
      simp only [Bool.not_true, Bool.false_eq_true, if_false]
      refine wpAny_bind (fk_class x ?_)
      simp only [Bool.false_eq_true, if_false]
      refine wpAny_bind (fk_class y ?_)
      simp only [Bool.false_eq_true, if_false]
      exact wpAny_pure ⟨rfl, rfl, more⟩
  · obtain ⟨rfl, rfl, _⟩ := hI
    exact wpAny_pure q
end
end Rm

set_option maxRecDepth 100000
set_option maxHeartbeats 4000000
namespace Rm
open PySem PySem.Spec L2
open PyProof.Rows hiding St

/-! ### a set of tuples of ints and texts -/
structure NS (w : World) (h : Heap) (a : Addr) (L : List (Addr × List NK)) (es : Array (Int × Value)) (ep : Nat) (t : SetTable) : Prop where
  ob : ∃ o, h.get? a = some o ∧ o.ExactSet ∧ o.data = .set es ep t
  row : es.toList = L.map fun p => (hsh w p.2, Value.ref p.1)
  tab : TabOk t (L.map fun p => hsh w p.2)
  nd : (L.map (·.2)).Nodup
  fk : ∀ p ∈ L, FK h p.2 p.1
  led : w.params.followText "set-order" = true ∨ t.led = true
  rm : L.length * 5 < t.mask * 3
  few : L.length < 64
/-- the c-th step of a way -/
def stepAt (m : Nat) (g : Int) (c : Nat) : SetTable.Probe := nth m (runAt m (SetTable.bits g % (m + 1)) (SetTable.bits g)) c
theorem step_way (m : Nat) (g : Int) (c : Nat) : (stepAt m g c).j = way m g c := rfl
theorem step_on (m : Nat) (g : Int) (c q : Nat) : nth m (stepAt m g c) q = stepAt m g (c + q) := (nth_add m c _ q).symm
theorem nth_plain (m : Nat) : ∀ (c : Nat) (p : SetTable.Probe), p.dummy = none → (nth m p c).dummy = none
  | 0, _, e => e
  | c + 1, p, e => nth_plain m c (adv m p) (by unfold adv; split <;> exact e)
theorem step_plain (m : Nat) (g : Int) (c : Nat) : (stepAt m g c).dummy = none := nth_plain m c _ rfl
section
variable {P : Program} {w : World} {A : Around} {E : Value → Shared → Prop} {s : Shared} {a : Addr} {L : List (Addr × List NK)} {es : Array (Int × Value)} {ep : Nat} {t : SetTable}
theorem NS.sz {h : Heap} (R : NS w h a L es ep t) : es.size = L.length := by
  have e := congrArg List.length R.row
  rwa [Array.length_toList, List.length_map] at e
theorem NS.pl {h : Heap} (R : NS w h a L es ep t) : t.place.size = L.length := by
  have e := R.tab.sz
  rwa [List.length_map] at e
theorem NS.fits {h : Heap} (R : NS w h a L es ep t) : t.fits es.size = true := by
  have e1 := R.pl
  have e2 := R.sz
  have e3 := R.rm
  unfold SetTable.fits SetTable.fill
  rw [R.tab.dm, Bool.and_eq_true]
  exact ⟨beq_iff_eq.mpr (by rw [e1, e2]), decide_eq_true (show t.place.size + 0 ≤ t.mask by omega)⟩
theorem NS.at_ {h : Heap} (R : NS w h a L es ep t) {i : Nat} {p : Addr × List NK} (e : L[i]? = some p) : es[i]? = some (hsh w p.2, Value.ref p.1) := by
  have e2 : es.toList[i]? = some (hsh w p.2, Value.ref p.1) := by rw [R.row, List.getElem?_map, e]; rfl
  rwa [Array.getElem?_toList] at e2
theorem NS.firm {h : Heap} (R : NS w h a L es ep t) : ¬ t.gaveWay = true := by
  unfold SetTable.gaveWay
  rw [mask_odd R.tab.mok]
  decide
/-- behind a candidate that may be the one: what is left to ask -/
theorem srch {x : Addr} {ks : List NK} (R : NS w s.heap a L es ep t) (hx : FK s.heap ks x) (u : A.units + 1 < cLine) {N : Nat} (b1 : N < 10 * SetTable.turns t.mask)
    (b2 : way t.mask (hsh w ks) N ∉ t.place.toList) (b3 : ∀ c, c < N → way t.mask (hsh w ks) c ∈ t.place.toList) {Q : SetFound → Shared → Prop}
    (yes : ks ∈ L.map (·.2) → Q (.there none) s) (no : ks ∉ L.map (·.2) → Q (.free (way t.mask (hsh w ks) N) false) s) :
    ∀ (f c : Nat) (st : Option SetTable.Probe), c ≤ N → N - c < f → st.getD (t.probeStart (hsh w ks)) = stepAt t.mask (hsh w ks) c →
      (∀ (i : Nat) p, L[i]? = some p → p.2 = ks → ∃ d, c ≤ d ∧ d < N ∧ t.place.toList[i]? = some (way t.mask (hsh w ks) d)) →
      wpAny (model P w) A (setSearchFrom a (.ref x) (hsh w ks) true f st) Q E s := by
  intro f
  induction f with
  | zero => exact fun c st _ h => absurd h (Nat.not_lt_zero _)
  | succ f ih =>
    intro c st cN cf est left
    obtain ⟨ob, o1, o2, o3⟩ := R.ob
    have look : ∀ {B : Type} {F : Array (Int × Value) × Nat × SetTable → Sem B} {Q' : B → Shared → Prop}, wpAny (model P w) A (F (es, ep, t)) Q' E s → wpAny (model P w) A (setState a >>= F) Q' E s := fun h => wpAny_bind (wpAny_setState_of o1 o3 R.fits h)
    have hh : ∀ {i : Nat} {p}, L[i]? = some p → (es[i]?.map (·.1)).getD 0 = hsh w p.2 := fun e => by rw [R.at_ e]; rfl
    have way_on : ∀ q, (nth t.mask (stepAt t.mask (hsh w ks) c) q).j = way t.mask (hsh w ks) (c + q) := fun q => by rw [step_on]; rfl
    rw [setSearchFrom_succ]
    refine look ?_
    dsimp only
    refine wp_if_neg R.firm ?_
    rcases go_spec t R.tab.ris R.tab.dm (fun i => (es[i]?.map (·.1)).getD 0) (hsh w ks) (10 * SetTable.turns t.mask) (N - c) (stepAt t.mask (hsh w ks) c) (step_plain _ _ _) (by omega)
      (fun q hq => by rw [way_on]; exact b3 _ (by omega)) (by rw [way_on, Nat.add_sub_cancel' cN]; exact b2) with ⟨q, i, q1, q2, q3, q4, q5⟩ | ⟨q4, q5⟩
    · have met : t.probe (fun i => (es[i]?.map (·.1)).getD 0) (hsh w ks) (st.getD (t.probeStart (hsh w ks))) = some (.candidate (way t.mask (hsh w ks) (c + q)) i (stepAt t.mask (hsh w ks) (c + (q + 1)))) := by
        rw [est, ← way_on, ← step_on]
        exact q5
      rw [met]
      dsimp only
      rw [way_on] at q2
      have iL : i < L.length := by
        have := (List.getElem?_eq_some_iff.mp q2).1
        rw [Array.length_toList, R.pl] at this
        exact this
      obtain ⟨p, ep'⟩ : ∃ p, L[i]? = some p := ⟨_, List.getElem?_eq_getElem iL⟩
      have pm := List.mem_of_getElem? ep'
      have go : wpAny (model P w) A (searchRest a (.ref x) (hsh w ks) true f es t (way t.mask (hsh w ks) (c + q)) i (stepAt t.mask (hsh w ks) (c + (q + 1)))) Q E s := by
        unfold searchRest
        rw [R.at_ ep']
        dsimp only
        refine wpAny_bind (wpAny_holding (fk_eq (R.fk p pm) hx u (look ?_)))
        dsimp only
        by_cases same : p.2 = ks
        · refine wp_if_pos (by simp [same]) (wpAny_pure (yes ?_))
          rw [← same]
          exact List.mem_map_of_mem pm
        · refine wp_if_neg (by simp [same]) ?_
          rw [sameMem]
          dsimp only
          have live := slot_live R.tab.ris q2
          simp only [if_true, live, R.at_ ep']
          refine wpAny_bind (wpAny_isSame_ref_self (wpAny_bind (wpAny_pure ?_)))
          simp only [if_true]
          refine wp_if_neg (by simp [same]) ?_
          refine ih (c + (q + 1)) _ (by omega) (by omega) rfl fun i' p' e' k' => ?_
          obtain ⟨d, d1, d2, d3⟩ := left i' p' e' k'
          refine ⟨d, Classical.byContradiction fun bad => ?_, d2, d3⟩
          by_cases dq : d = c + q
          · subst dq
            have live2 := slot_live R.tab.ris d3
            rw [live] at live2
            injection live2 with e
            rw [← e, ep'] at e'
            exact same ((congrArg Prod.snd (Option.some.inj e')).trans k')
          · refine q4 (d - c) i' (by omega) (by rw [way_on, Nat.add_sub_cancel' d1]; exact d3) ?_
            rw [hh e', k']
      by_cases tl : t.led = true
      · exact wp_if_neg (by simp [tl]) go
      · refine wp_if_pos (by simp [tl]) (wpAny_bind (fk_seen hx (fun y hy => ?_) (wp_if_neg (by decide) go)))
        obtain ⟨z, z1, rfl⟩ := List.mem_map.mp hy
        have z2 : z ∈ es.toList := by
          have z3 : z ∈ es ∧ z.1 = hsh w ks := by simpa using z1
          simpa using z3.1
        rw [R.row] at z2
        obtain ⟨p2, m2, rfl⟩ := List.mem_map.mp z2
        exact ⟨_, _, rfl, R.fk p2 m2⟩
    · have met : t.probe (fun i => (es[i]?.map (·.1)).getD 0) (hsh w ks) (st.getD (t.probeStart (hsh w ks))) = some (.empty (way t.mask (hsh w ks) N) none) := by
        have e : way t.mask (hsh w ks) N = (nth t.mask (stepAt t.mask (hsh w ks) c) (N - c)).j := by rw [way_on, Nat.add_sub_cancel' cN]
        rw [est, e]
        exact q5
      rw [met]
      dsimp only
      refine wpAny_pure (no fun mem => ?_)
      obtain ⟨p, pm, pk⟩ := List.mem_map.mp mem
      obtain ⟨i, hi, ei⟩ := List.getElem_of_mem pm
      have e : L[i]? = some p := by rw [List.getElem?_eq_getElem hi, ei]
      obtain ⟨d, d1, d2, d3⟩ := left i p e pk
      refine q4 (d - c) i (by omega) (by rw [way_on, Nat.add_sub_cancel' d1]; exact d3) ?_
      rw [hh e, pk]
theorem srch0 {x : Addr} {ks : List NK} (R : NS w s.heap a L es ep t) (hx : FK s.heap ks x) (u : A.units + 1 < cLine) {Q : SetFound → Shared → Prop} (yes : ks ∈ L.map (·.2) → Q (.there none) s)
    (no : ∀ N, ks ∉ L.map (·.2) → way t.mask (hsh w ks) N ∉ t.place.toList → (∀ c, c < N → way t.mask (hsh w ks) c ∈ t.place.toList) → Q (.free (way t.mask (hsh w ks) N) false) s) :
    wpAny (model P w) A (setSearch a (.ref x) (hsh w ks) true) Q E s := by
  have rm := R.rm
  obtain ⟨N, b1, b2, b3⟩ := R.tab.first (by rw [List.length_map]; omega) (hsh w ks)
  have big : N < 100000 := by
    unfold SetTable.turns at b1
    rcases R.tab.mok with e | e | e <;> omega
  unfold setSearch
  refine srch R hx u b1 b2 b3 yes (fun h => no N h b2 b3) 100000 0 none (Nat.zero_le _) (by omega) rfl fun i p e k => ?_
  have iL := (List.getElem?_eq_some_iff.mp e).1
  have il : i < t.place.toList.length := by rw [Array.length_toList, R.pl]; exact iL
  have ej := List.getElem?_eq_getElem il
  obtain ⟨d, d1, d2⟩ := R.tab.before b2 (i := i) (h := hsh w ks) (by rw [List.getElem?_map, e, ← k]; rfl) ej
  exact ⟨d, Nat.zero_le _, d1, by rw [ej, d2]⟩
end
end Rm

set_option maxRecDepth 100000
set_option maxHeartbeats 4000000
namespace Rm
open PySem PySem.Spec L2
open PyProof.Rows hiding St

theorem pick_all {α : Type} (l : List α) : (List.range l.length).filterMap (fun i => l[i]?) = l := by
  have key : ∀ n, n ≤ l.length → (List.range n).filterMap (fun i => l[i]?) = l.take n := by
    intro n
    induction n with
    | zero => exact fun _ => rfl
    | succ n ih =>
      intro hn
      rw [List.range_succ, List.filterMap_append, ih (by omega), List.take_succ]
      congr 1
  rw [key _ (Nat.le_refl _), List.take_length]
theorem ins_perm {α : Type} (l : List α) (p : Nat) (x : α) : (l.take p ++ x :: l.drop p).Perm (x :: l) := by
  have e := List.perm_middle (a := x) (l₁ := l.take p) (l₂ := l.drop p)
  rwa [List.take_append_drop] at e
theorem tab_as {t t' : SetTable} {gs : List Int} (T : TabOk t gs) (e1 : t'.place = t.place) (e2 : t'.dummies = t.dummies) (e3 : t'.mask = t.mask) : TabOk t' gs := by
  obtain ⟨a, b, c, d, f, g⟩ := T
  refine ⟨by rw [e1]; exact a, by rw [e2]; exact b, by rw [e1]; exact c, by rw [e3]; exact d, by rw [e1, e3]; exact f, ?_⟩
  rw [e1, e3]
  exact g
section
variable {P : Program} {w : World} {A : Around} {E : Value → Shared → Prop} {s : Shared} {a : Addr} {L : List (Addr × List NK)} {es : Array (Int × Value)} {ep : Nat} {t : SetTable}
theorem FK.put {h h' : Heap} {ks : List NK} {b : Addr} {o : Obj} (x : FK h ks b) (ho : h.get? a = some o) (hd : o.data = .set es ep t) (sb : Heap.SameBut a h h') : FK h' ks b :=
  x.stay fun c ob vs n e ed => (sb.2 c fun z => by
    rw [z, ho] at e
    cases e
    rw [hd] at ed
    cases ed).trans e
/-- the table is laid anew -/
theorem relay {o : Obj} (ho : s.heap.get? a = some o) (xs : o.ExactSet) (hd : o.data = .set es ep t) (row : es.toList = L.map fun p => (hsh w p.2, Value.ref p.1)) (T : TabOk t (L.map fun p => hsh w p.2))
    (fit : L.length ≤ t.mask) (nd : (L.map (·.2)).Nodup) (fk : ∀ p ∈ L, FK s.heap p.2 p.1) (led : w.params.followText "set-order" = true ∨ t.led = true) (few : L.length < 64) {want M : Nat}
    (w1 : SetTable.sizeAbove want - 1 = M) (w2 : MaskOk M) (w3 : SetTable.sizeAbove want ≤ 128) (w4 : L.length * 5 < M * 3) {Q : Unit → Shared → Prop}
    (q : ∀ h' L' es' ep' t', Heap.SameBut a s.heap h' → NS w h' a L' es' ep' t' → L'.Perm L → Q () { s with heap := h' }) : wpAny (model P w) A (setRelay a want) Q E s := by
  have z1 : es.size = L.length := by
    have e := congrArg List.length row
    rwa [Array.length_toList, List.length_map] at e
  have z2 : t.place.size = L.length := by
    have e := T.sz
    rwa [List.length_map] at e
  have ft : t.fits es.size = true := by
    unfold SetTable.fits SetTable.fill
    rw [T.dm, Bool.and_eq_true]
    exact ⟨beq_iff_eq.mpr (by rw [z1, z2]), decide_eq_true (show t.place.size + 0 ≤ t.mask by omega)⟩
  have ent : ∀ i, es[i]? = (L[i]?).map fun p : Addr × List NK => (hsh w p.2, Value.ref p.1) := fun i => by rw [← Array.getElem?_toList, row, List.getElem?_map]
  obtain ⟨t', order, e, pm, T', em, el, _, ed⟩ := relaid_ok t (hs := es.map (·.1)) (wanted := want) w1 w2 (by rw [Array.size_map, z1]; omega)
  rw [Array.size_map, z1] at pm
  let L2 := order.toList.filterMap fun i => L[i]?
  have p2 : L2.Perm L := by
    have := pm.filterMap fun i => L[i]?
    rwa [pick_all] at this
  have r2 : (order.filterMap (es[·]?)).toList = L2.map fun p => (hsh w p.2, Value.ref p.1) := by
    rw [Array.toList_filterMap, List.map_filterMap]
    exact congrFun (congrArg _ (funext ent)) _
  have g2 : (order.toList.map fun i => (es.map (·.1)).getD i 0) = L2.map fun p => hsh w p.2 := by
    rw [List.map_filterMap]
    have key : ∀ l : List Nat, (∀ i ∈ l, i < L.length) → (l.map fun i => (es.map (·.1)).getD i 0) = l.filterMap fun i => (L[i]?).map fun p => hsh w p.2 := by
      intro l
      induction l with
      | nil => exact fun _ => rfl
      | cons i l ih =>
        intro hl
        have hi := hl i (.head _)
        have e1 : (es.map (·.1)).getD i 0 = hsh w (L[i]).2 := by
          rw [Array.getD_eq_getD_getElem?, Array.getElem?_map, ent, List.getElem?_eq_getElem hi]
          rfl
        rw [List.map_cons, List.filterMap_cons, ih fun j hj => hl j (.tail _ hj), List.getElem?_eq_getElem hi, e1]
        rfl
    exact key _ fun i hi => List.mem_range.mp (pm.mem_iff.mp hi)
  rw [g2] at T'
  have z3 : (order.filterMap (es[·]?)).size = L.length := by
    have e := congrArg List.length r2
    rw [Array.length_toList, List.length_map, p2.length_eq] at e
    exact e
  rw [setRelay_eq]
  refine wpAny_bind (wpAny_setState_of ho hd ft ?_)
  dsimp only
  refine wp_if_neg (by rw [sizeLine_eq]; omega) ?_
  rw [e]
  dsimp only
  refine wpAny_bind (wp_if_neg (by simp [z3, z1]) (wpAny_pure ?_))
  dsimp only
  refine wpAny_storeSet_of ho hd ?_ (by rw [z3, sizeLine_eq]; omega)
  have sb : Heap.SameBut a s.heap (s.heap.update a (Obj.putSet (order.filterMap (es[·]?)) t')) := Heap.SameBut.update ..
  refine q _ L2 _ (ep + 1) t' sb ⟨⟨_, store_at ho hd, ⟨xs.1, xs.2.1, xs.2.2⟩, rfl⟩, r2, T', (p2.map (·.2)).nodup_iff.mpr nd, fun p hp => (fk p (p2.mem_iff.mp hp)).put ho hd sb, by rw [el]; exact led, by rw [p2.length_eq, em]; exact w4, by rw [p2.length_eq]; exact few⟩ p2
/-- one more -/
theorem add1 {x : Addr} {ks : List NK} (R : NS w s.heap a L es ep t) (hx : FK s.heap ks x) (u : A.units + 1 < cLine) (few : L.length + 1 < 64) {Q : Bool → Shared → Prop}
    (q : ∀ c h' L' es' ep' t', Heap.SameBut a s.heap h' → NS w h' a L' es' ep' t' → (ks ∈ L.map (·.2) → L' = L) → (ks ∉ L.map (·.2) → L'.Perm ((x, ks) :: L)) → Q c { s with heap := h' }) :
    wpAny (model P w) A (setAddHashed a (.ref x) (hsh w ks)) Q E s := by
  obtain ⟨ob, o1, o2, o3⟩ := R.ob
  have rm := R.rm
  unfold setAddHashed
  refine wpAny_holding ?_
  rw [show (100000 : Nat) = 99999 + 1 from rfl, setAddHashedIn_succ]
  refine wpAny_bind (wpAny_setState_of o1 o3 R.fits ?_)
  dsimp only
  refine wp_if_neg (by simp [byScan, Value.scannable]) ?_
  refine wpAny_bind (srch0 R hx u (fun mem => ?_) fun N new c1 c2 => ?_)
  · exact wpAny_pure (q false s.heap L es ep t (Heap.SameBut.refl a s.heap) R (fun _ => rfl) fun z => absurd mem z)
  · dsimp only
    refine wpAny_bind (wpAny_setState_of o1 o3 R.fits ?_)
    dsimp only
    obtain ⟨d1, d2, d3, d4, d5, d6, d7, d8, d9⟩ := R.tab.put c1 c2
    rw [d1]
    generalize t.put (way t.mask (hsh w ks) N) = tp at d3 d4 d5 d9 ⊢
    obtain ⟨t1, pz⟩ := tp
    dsimp only at d3 d4 d5 d9 ⊢
    generalize SetTable.below t.place (way t.mask (hsh w ks) N) = p at d3 ⊢
    have pm := ins_perm L p (x, ks)
    have row1 : (SetTable.insertAt es p (hsh w ks, Value.ref x)).toList = (L.take p ++ (x, ks) :: L.drop p).map fun p => (hsh w p.2, Value.ref p.1) := by
      rw [SetTable.toList_insertAt, R.row, List.map_append, List.map_cons, List.map_take, List.map_drop]
    rw [← List.map_take, ← List.map_drop, ← List.map_cons (f := fun p : Addr × List NK => hsh w p.2) (a := (x, ks)), ← List.map_append] at d3
    have sz1 : (SetTable.insertAt es p (hsh w ks, Value.ref x)).size = L.length + 1 := by
      have e := congrArg List.length row1
      rwa [Array.length_toList, List.length_map, pm.length_eq] at e
    generalize SetTable.insertAt es p (hsh w ks, Value.ref x) = es1 at row1 sz1 ⊢
    generalize L.take p ++ (x, ks) :: L.drop p = L1 at pm row1 d3
    have l1 : L1.length = L.length + 1 := pm.length_eq
    have nd1 : (L1.map (·.2)).Nodup := by
      refine (pm.map (·.2)).nodup_iff.mpr ?_
      exact List.nodup_cons.mpr ⟨new, R.nd⟩
    have rest : ∀ t2 : SetTable, TabOk t2 (L1.map fun p => hsh w p.2) → t2.mask = t.mask → t2.led = t.led → t2.fill = L.length + 1 →
        wpAny (model P w) A (do
          storeSet a es1 t2
          if (!false && t2.tooFull) = true then do
            setRelay a (SetTable.grown (es.size + 1))
            pure true
          else pure true) Q E s := fun t2 T2 m2 e2 f2 => by
      refine wpAny_bind (wpAny_storeSet_of o1 o3 ?_ (by rw [sz1, sizeLine_eq]; omega))
      have sb : Heap.SameBut a s.heap (s.heap.update a (Obj.putSet es1 t2)) := Heap.SameBut.update ..
      have g1 := store_at (es' := es1) (t' := t2) o1 o3
      generalize s.heap.update a (Obj.putSet es1 t2) = h1 at sb g1 ⊢
      have fk1 : ∀ p ∈ L1, FK h1 p.2 p.1 := fun p hp => by
        rcases List.mem_cons.mp (pm.mem_iff.mp hp) with e | hp
        · rw [e]; exact hx.put o1 o3 sb
        · exact (R.fk p hp).put o1 o3 sb
      have led1 : w.params.followText "set-order" = true ∨ t2.led = true := by rw [e2]; exact R.led
      by_cases full : t2.tooFull = true
      · refine wp_if_pos (by simp [full]) (wpAny_bind ?_)
        have big : (L.length + 1) * 5 ≥ t2.mask * 3 := by
          unfold SetTable.tooFull at full
          rw [decide_eq_true_eq, f2] at full
          exact full
        have go : ∀ M, SetTable.sizeAbove (SetTable.grown (L.length + 1)) - 1 = M → MaskOk M → SetTable.sizeAbove (SetTable.grown (L.length + 1)) ≤ 128 → (L.length + 1) * 5 < M * 3 → L.length + 1 ≤ t.mask →
            wpAny (model P w) A (setRelay a (SetTable.grown (es.size + 1))) (fun _ s' => wpAny (model P w) A (pure true) Q E s') E { s with heap := h1 } := fun M m1 m3 m4 m5 m6 => by
          rw [R.sz]
          refine relay (s := { s with heap := h1 }) g1 ⟨o2.1, o2.2.1, o2.2.2⟩ rfl row1 T2 (by rw [l1, m2]; exact m6) nd1 fk1 led1 (by rw [l1]; exact few) m1 m3 m4 (by rw [l1]; exact m5) fun h2 L2 es2 ep2 t3 sb2 R2 pm2 => ?_
          exact wpAny_pure (q true h2 L2 es2 ep2 t3 (sb.trans sb2) R2 (fun z => absurd z new) fun _ => pm2.trans pm)
        rw [m2] at big
        rcases R.tab.mok with e | e | e
        · have l4 : L.length = 4 := by omega
          exact go 31 (by rw [l4, size_20]) (.inr (.inl rfl)) (by rw [l4, size_20]; decide) (by omega) (by omega)
        · have l18 : L.length = 18 := by omega
          exact go 127 (by rw [l18, size_76]) (.inr (.inr rfl)) (by rw [l18, size_76]; decide) (by omega) (by omega)
        · omega
      · refine wp_if_neg (by simp [full]) (wpAny_pure (q true h1 L1 es1 (ep + 1) t2 sb ⟨⟨_, g1, ⟨o2.1, o2.2.1, o2.2.2⟩, rfl⟩, row1, T2, nd1, fk1, led1, ?_, by rw [l1]; exact few⟩ (fun z => absurd z new) fun _ => pm))
        unfold SetTable.tooFull at full
        rw [decide_eq_true_eq, f2] at full
        rw [l1]
        omega
    have f1 : t1.fill = L.length + 1 := by rw [d9, List.length_map]
    by_cases pl : t1.plain = true
    · refine wp_if_pos pl (wpAny_bind (fk_hbv hx fun c => ?_))
      cases c with
      | true => exact rest t1 d3 d4 d5 f1
      | false => exact rest { t1 with plain := false } (tab_as d3 rfl rfl rfl) d4 d5 f1
    · exact wp_if_neg pl (wpAny_bind (wpAny_pure (rest t1 d3 d4 d5 f1)))
end
end Rm

set_option maxRecDepth 100000
set_option maxHeartbeats 4000000
namespace Rm
open PySem PySem.Spec L2
open PyProof.Rows hiding St

/-- what a set has got of the first i ones -/
structure Gt (ks : List (Addr × List NK)) (i : Nat) (L : List (Addr × List NK)) : Prop where
  sub : ∀ p ∈ L, p ∈ ks.take i
  all : ∀ p ∈ ks.take i, p.2 ∈ L.map (·.2)
  few : L.length ≤ i
theorem Gt.next {ks L L' : List (Addr × List NK)} {i : Nat} {x : Addr × List NK} (g : Gt ks i L) (e : ks[i]? = some x) (c1 : x.2 ∈ L.map (·.2) → L' = L) (c2 : x.2 ∉ L.map (·.2) → L'.Perm (x :: L)) : Gt ks (i + 1) L' := by
  have tk : ks.take (i + 1) = ks.take i ++ [x] := by rw [List.take_succ, e]; rfl
  by_cases c : x.2 ∈ L.map (·.2)
  · rw [c1 c]
    refine ⟨fun p hp => by rw [tk]; exact List.mem_append_left _ (g.sub p hp), fun p hp => ?_, Nat.le_succ_of_le g.few⟩
    rw [tk] at hp
    rcases List.mem_append.mp hp with z | z
    · exact g.all p z
    · rw [List.mem_singleton.mp z]; exact c
  · have pm := c2 c
    refine ⟨fun p hp => ?_, fun p hp => (pm.map (·.2)).mem_iff.mpr ?_, by rw [pm.length_eq]; exact Nat.succ_le_succ g.few⟩
    · rw [tk]
      rcases List.mem_cons.mp (pm.mem_iff.mp hp) with z | z
      · rw [z]; exact List.mem_append_right _ (.head _)
      · exact List.mem_append_left _ (g.sub p z)
    · rw [tk] at hp
      rcases List.mem_append.mp hp with z | z
      · exact .tail _ (g.all p z)
      · rw [List.mem_singleton.mp z]; exact .head _
section
variable {P : Program} {w : World} {A : Around} {E : Value → Shared → Prop} {s : Shared}
theorem NS.carry {h h' : Heap} {a : Addr} {L : List (Addr × List NK)} {es : Array (Int × Value)} {ep : Nat} {t : SetTable} (R : NS w h a L es ep t) (k : ∀ o, h.get? a = some o → h'.get? a = some o) (f : ∀ p ∈ L, FK h' p.2 p.1) : NS w h' a L es ep t := by
  obtain ⟨o, g, r⟩ := R.ob
  exact ⟨⟨o, k _ g, r⟩, R.row, R.tab, R.nd, f, R.led, R.rm, R.few⟩
def newSet (w : World) : Obj := { cls := .type "set", dict := none, data := .set #[] 0 (.fresh 0 0 (!w.params.followText "set-order")) }
theorem NS.fresh {h : Heap} {a : Addr} (g : h.get? a = some (newSet w)) : NS w h a [] #[] 0 (.fresh 0 0 (!w.params.followText "set-order")) := by
  refine ⟨⟨_, g, ⟨rfl, rfl, rfl⟩, rfl⟩, rfl, ⟨List.Pairwise.nil, rfl, rfl, .inl rfl, fun x hx => (by cases hx), fun i g j hi => (by simp at hi)⟩, List.nodup_nil, fun p hp => (by cases hp), ?_, (by show 0 * 5 < 7 * 3; decide), (by show 0 < 64; decide)⟩
  show _ ∨ (!w.params.followText "set-order") = true
  cases w.params.followText "set-order"
  · exact .inr rfl
  · exact .inl rfl
theorem upd_loop {l I S : Addr} {its : Array Value} {ks : List (Addr × List NK)} {R : Result → Shared → Prop} (hh : A.in1.handled = none) (u : A.in1.units + 1 < cLine) (ei : its.toList = ks.map fun p => Value.ref p.1) (few : ks.length < 64)
    (n1 : I ≠ S) (n2 : l ≠ S) (n3 : l ≠ I) :
    ∀ (r i : Nat) (s : Shared), ks.length - i = r → i ≤ ks.length → s.heap.IsListIter I l i → s.heap.IsList l its → (∀ p ∈ ks, FK s.heap p.2 p.1) → (∃ L es ep t, NS w s.heap S L es ep t ∧ Gt ks i L) →
      (∀ h' tk L es ep t, NS w h' S L es ep t → Gt ks ks.length L → (∀ b o, b ≠ S → b ≠ I → s.heap.get? b = some o → h'.get? b = some o) → R (.ok (.ret .none)) { s with heap := h', toks := tk }) →
      codeAny (model P w) A (.builtin "set.update.loop" ⟨[.ref S, .ref I], []⟩) R s := by
  have sz : its.size = ks.length := by
    have e := congrArg List.length ei
    rwa [Array.length_toList, List.length_map] at e
  intro r
  induction r with
  | zero =>
    intro i s hr hi it ls fk ⟨L, es, ep, t, N, g⟩ hR
    have e : i = ks.length := by omega
    subst e
    refine codeAny_builtin F.entry_set_update_loop ?_
    rw [Around.under_plainId F.plain_set_update_loop _]
    show wpAny _ A.in1 (pyNext (.ref I) >>= _) _ _ s
    refine wpAny_bind (wpAny_pyNext_list_end hh it ls (by rw [← sz]; simp) fun h' hk => ?_)
    show wpAny _ A.in1 (ret Value.none) _ _ _
    obtain ⟨oI, hI, _, dI⟩ := id it
    have st : ∀ {js c}, FK s.heap js c → FK h' js c := fun x => x.stay fun c ob vs n e ed => hk c ob (fun z => by
      rw [z, hI] at e
      cases e
      rw [dI] at ed
      cases ed) e
    exact wpAny_pure (hR h' s.toks L es ep t (N.carry (fun o e => hk S o (Ne.symm n1) e) fun p hp => st (N.fk p hp)) g fun b o _ b2 e => hk b o b2 e)
  | succ r ih =>
    intro i s hr hi it ls fk ⟨L, es, ep, t, N, g⟩ hR
    have lt : i < ks.length := by omega
    obtain ⟨p, ep'⟩ : ∃ p, ks[i]? = some p := ⟨_, List.getElem?_eq_getElem lt⟩
    have ex : its[i]? = some (Value.ref p.1) := by rw [← Array.getElem?_toList, ei, List.getElem?_map, ep']; rfl
    refine codeAny_builtin F.entry_set_update_loop ?_
    rw [Around.under_plainId F.plain_set_update_loop _]
    show wpAny _ A.in1 (pyNext (.ref I) >>= _) _ _ s
    refine wpAny_bind (wpAny_pyNext_list_item it ls ex fun h' it' sb => ?_)
    obtain ⟨oI, hI, _, dI⟩ := id it
    have st : ∀ {js c}, FK s.heap js c → FK h' js c := fun x => x.stay fun c ob vs n e ed => (sb.2 c fun z => by
      rw [z, hI] at e
      cases e
      rw [dI] at ed
      cases ed).trans e
    have N' : NS w h' S L es ep t := N.carry (fun o e => (sb.2 S (Ne.symm n1)).trans e) fun p hp => st (N.fk p hp)
    have x := st (fk p (List.mem_of_getElem? ep'))
    have ls' : h'.IsList l its := by
      obtain ⟨o, q1, q2⟩ := ls
      exact ⟨o, (sb.2 l n3).trans q1, q2⟩
    show wpAny _ A.in1 (holding [Value.ref p.1] (setAdd S (.ref p.1)) >>= _) _ _ _
    refine wpAny_bind (wpAny_holding ?_)
    unfold setAdd
    refine wpAny_holding (wpAny_bind (fk_hash (s := { s with heap := h' }) x u ?_))
    refine add1 (s := { s with heap := h', toks := s.toks + (NestedKey.tup p.2).draws }) N' x u (by have := g.few; omega) fun c h2 L2 es2 ep2 t2 sb2 N2 c1 c2 => ?_
    have g2 := g.next ep' c1 c2
    obtain ⟨oS, hS, _, dS⟩ := N'.ob
    have st2 : ∀ {js c}, FK h' js c → FK h2 js c := fun x => x.put hS dS sb2
    refine wpAny_pure ⟨plainId_quiet F.plain_set_update_loop _, ih (i + 1) _ (by omega) lt ?_ ?_ (fun p hp => st2 (st (fk p hp))) ⟨L2, es2, ep2, t2, N2, g2⟩ fun h3 tk L3 es3 ep3 t3 N3 g3 k3 => ?_⟩
    · obtain ⟨o, q1, q2⟩ := it'
      exact ⟨o, (sb2.2 I n1).trans q1, q2⟩
    · obtain ⟨o, q1, q2⟩ := ls'
      exact ⟨o, (sb2.2 l n2).trans q1, q2⟩
    · exact hR h3 tk L3 es3 ep3 t3 N3 g3 fun b o b1 b2 e => k3 b o b1 b2 ((sb2.2 b b1).trans ((sb.2 b b2).trans e))
end
end Rm

set_option maxRecDepth 100000
set_option maxHeartbeats 4000000
namespace Rm
open PySem PySem.Spec L2
open PyProof.Rows hiding St

/-! ### set(a list of tuples) -/
section
variable {P : Program} {w : World} {A : Around} {E : Value → Shared → Prop} {s : Shared}
theorem call_setN {l : Addr} {its : Array Value} (ks : List (Addr × List NK)) {Q : Value → Shared → Prop} (hh : A.handled = none) (ls : s.heap.IsList l its) (ei : its.toList = ks.map fun p => Value.ref p.1) (fk : ∀ p ∈ ks, FK s.heap p.2 p.1) (few : ks.length < 64) (u : A.units + 4 < cLine)
    (q : ∀ h' tk L es ep t, NS w h' s.heap.objs.size L es ep t → Gt ks ks.length L → (∀ b o, s.heap.get? b = some o → h'.get? b = some o) → Q (.ref s.heap.objs.size) { s with heap := h', toks := tk }) :
    wpAny (model P w) A (call (.type "set") [.ref l]) Q E s := by
  obtain ⟨z0, z1, mro⟩ := F.called_set.mro
  have f1 := F.called_set.made; have f2 := F.called_set.sub; have f3 := F.called_set.notType; have f4 := F.called_set.canCreate; have f5 := F.typeCall_set_1 (.ref l)
  refine wpAny_call (codeAny_of_tree (show wpAny _ _ (callAny (.type "set") _) _ _ _ from
    wpAny_pure ⟨Code.quiet_builtin _ (by decide +kernel), codeAny_builtin F.entry_type_call ?_⟩))
  rw [Around.under_plain (weight_type_call_type "set" [Value.ref l] []) rfl]
  repeat (any_goals (first | assumption | wp_step))
  have eN : s.heap.objs.size = s.heap.objs.size := rfl
  refine codeAny_mono (code_set_led1 (.ref l) (E := E) (Q₁ := fun x s1 => x = .ref s.heap.objs.size ∧ s1 = { s with heap := s.heap.push (newSet w) }) ⟨rfl, rfl⟩) fun rr s1 hr => ?_
  match rr, hr with
  | .error _, hr => exact hr
  | .ok .next, hr => exact hr.elim
  | .ok .brk, hr => exact hr.elim
  | .ok .cont, hr => exact hr.elim
  | .ok (.ret x), hr =>
    obtain ⟨rfl, rfl⟩ := hr
    have gS : (s.heap.push (newSet w)).get? s.heap.objs.size = some (newSet w) := Heap.get?_push_size _ rfl
    have ty : Shared.TypeIs { s with heap := s.heap.push (newSet w) } (.ref s.heap.objs.size) "set" := ⟨_, gS, rfl⟩
    have f6 := F.called_set.init.lookup; have f7 := F.called_set.init.bind (.ref s.heap.objs.size)
    repeat (any_goals (first | assumption | wp_step))
    have base : ∀ b o, s.heap.get? b = some o → (s.heap.push (newSet w)).get? b = some o := fun b o e => Heap.get?_push_of_some _ e
    have zS : (s.heap.push (newSet w)).objs.size = s.heap.objs.size + 1 := Heap.size_push ..
    refine codeAny_mono (codeAny_call_builtin (R := wants (fun r s2 => r = Value.none ∧ ∃ h' tk L es ep t, s2 = { s with heap := h', toks := tk } ∧ NS w h' s.heap.objs.size L es ep t ∧ Gt ks ks.length L ∧ ∀ b o, s.heap.get? b = some o → h'.get? b = some o) E) F.called_set.init.plain F.entry_set_init (check_set_init_1 ty ?_)) fun r2 s2 h2 => ?_
    · obtain ⟨ob, g1, g2, nl, g3⟩ := id ls
      obtain ⟨oc, od, oda, os⟩ := ob
      dsimp only at g2 g3
      subst g2 g3
      have g1' := base _ _ g1
      have a1 := F.sub_list_set; have a2 := F.sub_list_frozenset
      have a3 : (Value.type "list" == Value.type "dict") = false := by decide
      have ls1 : (s.heap.push (newSet w)).IsList l its := ⟨_, g1', rfl, nl, rfl⟩
      unfold Builtin.«set.__init__» noKeywords Builtin.Frozenset.updateFrom
      generalize eP : pyIter = PI
      wp_walk
      subst eP
      refine wpAny_pyIter_list ls1 (wpAny_bind (wpAny_runValue ?_))
      have lS : l < s.heap.objs.size := Heap.lt_size g1
      have nI : (s.heap.push (newSet w)).objs.size ≠ s.heap.objs.size := by rw [zS]; exact Nat.succ_ne_self _
      have nlS : l ≠ s.heap.objs.size := Nat.ne_of_lt lS
      have nlI : l ≠ (s.heap.push (newSet w)).objs.size := by rw [zS]; exact Nat.ne_of_lt (Nat.lt_succ_of_lt lS)
      let it : Obj := { cls := .type "list_iterator", data := .fields #[.ref l, .int 0 0] }
      have up2 : ∀ b o, s.heap.get? b = some o → ((s.heap.push (newSet w)).push it).get? b = some o := fun b o e => Heap.get?_push_of_some _ (base b o e)
      refine upd_loop (A := A.in1.in1) (I := (s.heap.push (newSet w)).objs.size) (by simp [hh]) (by have e : A.in1.in1.in1.units = A.units + 3 := rfl; omega) ei few nI nlS nlI (ks.length - 0) 0 { s with heap := (s.heap.push (newSet w)).push it } rfl (Nat.zero_le _) ⟨it, Heap.get?_push_size _ rfl, rfl, rfl⟩ (ls1.push _) (fun p hp => (fk p hp).stay fun c o vs n e _ => up2 c o e)
        ⟨[], #[], 0, _, NS.fresh (Heap.get?_push_of_some _ gS), ⟨fun p h => (by cases h), fun p h => (by simp at h), Nat.le_refl _⟩⟩ fun h' tk L es ep t N g k => ?_
      refine wpAny_pure (wpAny_pure ⟨rfl, h', tk, L, es, ep, t, rfl, N, g, fun b o e => k b o (fun z => ?_) (fun z => ?_) (up2 b o e)⟩)
      · have := Heap.lt_size e
        rw [z] at this
        exact absurd this (Nat.lt_irrefl _)
      · have := Heap.lt_size e
        rw [z, zS] at this
        exact absurd this (Nat.not_lt_of_le (Nat.le_succ _))
    · match r2, h2 with
      | .error _, h2 => exact h2
      | .ok .next, h2 => exact h2.elim
      | .ok .brk, h2 => exact h2.elim
      | .ok .cont, h2 => exact h2.elim
      | .ok (.ret _), h2 =>
        obtain ⟨rfl, h', tk, L, es, ep, t, rfl, N, g, k⟩ := h2
        repeat (any_goals (first | assumption | wp_step))
        exact q _ _ _ _ _ _ N g k
end
end Rm

set_option maxRecDepth 100000
set_option maxHeartbeats 4000000
namespace Rm
open PySem PySem.Spec L2
open PyProof.Rows hiding St

/-! ### how many different ones a list of tuples has -/
theorem nodup_len {α : Type} [DecidableEq α] : ∀ {M N : List α}, M.Nodup → (∀ x ∈ M, x ∈ N) → M.length ≤ N.length
  | [], _, _, _ => Nat.zero_le _
  | m :: M, N, nd, h => by
    obtain ⟨n1, n2⟩ := List.nodup_cons.mp nd
    have mN := h m (.head _)
    have e := nodup_len (M := M) (N := N.erase m) n2 fun x hx => (List.mem_erase_of_ne fun z => n1 (by rw [← z]; exact hx)).mpr (h x (.tail _ hx))
    rw [List.length_erase_of_mem mN] at e
    have := List.length_pos_of_mem mN
    rw [List.length_cons]
    omega
theorem nodup_of_len {α : Type} [DecidableEq α] : ∀ {N : List α} (M : List α), (∀ x ∈ M, x ∈ N) → M.Nodup → N.length ≤ M.length → N.Nodup
  | [], _, _, _, _ => List.nodup_nil
  | n :: N, M, h, nd, le => by
    by_cases c : n ∈ N
    · have := nodup_len nd fun x hx => (List.mem_cons.mp (h x hx)).elim (fun e => (by rw [e]; exact c : x ∈ N)) id
      rw [List.length_cons] at le
      omega
    · refine List.nodup_cons.mpr ⟨c, nodup_of_len (M.erase n) (fun x hx => ?_) (nd.erase n) ?_⟩
      · have h1 := List.mem_of_mem_erase hx
        refine (List.mem_cons.mp (h x h1)).resolve_left fun e => ?_
        rw [e] at hx
        exact nd.not_mem_erase hx
      · rw [List.length_cons] at le
        have := List.length_erase_le (a := n) (l := M)
        rw [List.length_erase]
        split <;> omega
def toNK : PyData → NK
  | .int i => .num i
  | .str x => .text x
  | _ => .none
def flD : PyData → Bool
  | .int _ => true
  | .str _ => true
  | _ => false
def tupNK : PyData → List NK
  | .tuple es => es.map toNK
  | _ => []
def isFT (d : PyData) : Prop := ∃ es, d = .tuple es ∧ ∀ e ∈ es, flD e = true
theorem toNK_inj {d e : PyData} (h1 : flD d = true) (h2 : flD e = true) (h : toNK d = toNK e) : d = e := by
  cases d with
  | int i => cases e with
    | int j => rw [show i = j by injection h]
    | str y => cases h
    | _ => cases h2
  | str x => cases e with
    | int j => cases h
    | str y => rw [show x = y by injection h]
    | _ => cases h2
  | _ => cases h1
theorem toNKs_inj : ∀ {ds es : List PyData}, (∀ d ∈ ds, flD d = true) → (∀ d ∈ es, flD d = true) → ds.map toNK = es.map toNK → ds = es
  | [], [], _, _, _ => rfl
  | [], e :: es, _, _, h => by cases h
  | d :: ds, [], _, _, h => by cases h
  | d :: ds, e :: es, h1, h2, h => by
    rw [List.map_cons, List.map_cons] at h
    obtain ⟨a, b⟩ := List.cons.inj h
    rw [toNK_inj (h1 d (.head _)) (h2 e (.head _)) a, toNKs_inj (fun x hx => h1 x (.tail _ hx)) (fun x hx => h2 x (.tail _ hx)) b]
theorem tupNK_inj {d e : PyData} (h1 : isFT d) (h2 : isFT e) (h : tupNK d = tupNK e) : d = e := by
  obtain ⟨ds, rfl, a⟩ := h1
  obtain ⟨es, rfl, b⟩ := h2
  rw [toNKs_inj a b h]
theorem nd_keys : ∀ {ds : List PyData}, (∀ d ∈ ds, isFT d) → ((ds.map tupNK).Nodup ↔ ds.Nodup)
  | [], _ => by simp
  | d :: ds, h => by
    rw [List.map_cons, List.nodup_cons, List.nodup_cons, nd_keys fun x hx => h x (.tail _ hx)]
    refine and_congr_left fun _ => not_congr ⟨fun m => ?_, fun m => List.mem_map_of_mem m⟩
    obtain ⟨e, he, eq⟩ := List.mem_map.mp m
    rw [← tupNK_inj (h e (.tail _ he)) (h d (.head _)) eq]
    exact he
theorem nest_of {K : PySem.W.Frag} {H : Hp} {h : Heap} : ∀ {es : List PyData} {xs : List V} {us : List Value}, DxAll K H xs es → (∀ e ∈ es, flD e = true) → Vals xs us → NestedAll h (es.map toNK) us
  | [], _, _, .nil, _, .nil => .nil
  | e :: es, _, _, .cons a b, f, .cons r rs => by
    refine .cons ?_ (nest_of b (fun x hx => f x (.tail _ hx)) rs)
    have f1 := f e (.head _)
    cases e with
    | int i =>
      cases a
      obtain ⟨z, rfl⟩ := r
      exact .int i z
    | str x =>
      cases a
      obtain ⟨z, rfl⟩ := r
      exact .text x z
    | _ => cases f1
section
variable {X : Cx} {pins : List (Addr × Obj)} {σ : L2.St} {H : Hp} {s : Shared}
theorem keys_of (I : Inv X pins σ H s) : ∀ {ds : List PyData} {xs : List V} {us : List Value}, DxAll X.K H xs ds → (∀ d ∈ ds, isFT d) → Vals xs us →
    ∃ ks : List (Addr × List NK), us = ks.map (fun p => Value.ref p.1) ∧ ks.map (·.2) = ds.map tupNK ∧ ∀ p ∈ ks, FK s.heap p.2 p.1
  | [], _, _, .nil, _, .nil => ⟨[], rfl, rfl, fun p h => by cases h⟩
  | d :: ds, _, _, .cons a b, f, .cons r rs => by
    obtain ⟨ks, e1, e2, e3⟩ := keys_of I b (fun x hx => f x (.tail _ hx)) rs
    obtain ⟨es, rfl, fl⟩ := f d (.head _)
    cases a with
    | tup sq da =>
      cases r
      rename_i b' xs'
      obtain ⟨its, rv, ⟨o, g1, g2, n, g3⟩, _⟩ := I.tuple sq
      refine ⟨(b', es.map toNK) :: ks, by rw [e1]; rfl, by rw [List.map_cons, e2]; rfl, fun p hp => ?_⟩
      rcases List.mem_cons.mp hp with e | hp
      · subst e
        refine ⟨.tup g1 g2 g3 (by simpa using nest_of da fl rv), fun k hk => ?_⟩
        obtain ⟨e, he, rfl⟩ := List.mem_map.mp hk
        have := fl e he
        cases e <;> first | trivial | cases this
      · exact e3 p hp
end
def tCard (K : PySem.W.Frag) (ta : TE) : TE := fun σ H Q => ta σ H fun x H1 => ∃ l xs ds, x = V.ref l ∧ SqL K H1 l xs ∧ DxAll K H1 xs ds ∧ (∀ d ∈ ds, isFT d) ∧ xs.length < 64 ∧ ∀ n : Nat, n ≤ ds.length → (n = ds.length ↔ ds.Nodup) → Q (.int n) H1
theorem pe_card {X : Cx} {a : PySem.Expr} {ta : TE} {p p2 q pos : Pos} (hr : Room 1 X.A) (hc : X.calm = true) (g1 : Gl X "len") (m1 : X.mg "len" = none) (g2 : Gl X "set") (m2 : X.mg "set" = none) (ha : PE X a ta)
    (na : starEach [a] X.env = (false, eval a X.env) :: starEach [] X.env := by rfl) : PE X (.Call (.Name "len" p) [.Call (.Name "set" p2) [a] [] q] [] pos) (tCard X.K ta) := by
  refine ⟨fun pins s σ H Q I h => Call_ (ld_blt I g1 m1 PySem.boot_len (PyProof.Rows.callWith_builtin1 (PyProof.Rows.args_cons ?_ rfl) rfl rfl))⟩
  refine Call_ (ld_blt I g2 m2 PyProof.Rows.boot_set (PyProof.Rows.callWith_type1 (PyProof.Rows.args_cons (thn (ha.run pins s σ H _ I h) fun v s1 ⟨x, H1, I1, r1, q1⟩ => PyProof.Rows.args_nil ?_) na) na rfl))
  obtain ⟨l, xs, ds, rfl, sq, da, ft, few, q1⟩ := q1
  cases r1
  obtain ⟨its, rv, pl, _⟩ := I1.list sq
  obtain ⟨ks, e1, e2, fk⟩ := keys_of I1 da ft rv
  have l1 : ks.length = ds.length := by
    have e := congrArg List.length e2
    rwa [List.length_map, List.length_map] at e
  have l2 : xs.length = ds.length := dxa_len da
  have un := hr.un
  refine call_setN (P := X.prog) (w := X.w) ks (I1.ok.hd hc) pl.isList (by simpa using e1) fk (by omega) (by omega) fun h' tk L es ep t N g k => PyProof.Rows.args_nil ?_
  obtain ⟨o, o1, o2, o3⟩ := N.ob
  have I2 : Inv X pins σ H1 { s1 with heap := h', toks := tk } := I1.kept fun b o e => k b o e
  have sz := N.sz
  have few2 := N.few
  refine call_len_set o1 o2 o3 N.fits (by omega) ⟨.int es.size, H1, I2.tok _, ⟨_, rfl⟩, ?_⟩
  rw [sz]
  have gle := g.few
  refine q1 L.length (by omega) ⟨fun e => ?_, fun nd => ?_⟩
  · refine (nd_keys ft).mp ?_
    rw [← e2]
    refine nodup_of_len (L.map (·.2)) (fun x hx => ?_) N.nd (by rw [List.length_map, List.length_map]; omega)
    obtain ⟨p, hp, rfl⟩ := List.mem_map.mp hx
    have := g.sub p hp
    rw [List.take_length] at this
    exact List.mem_map_of_mem this
  · have nk := (nd_keys ft).mpr nd
    rw [← e2] at nk
    have := nodup_len nk fun x hx => by
      obtain ⟨p, hp, rfl⟩ := List.mem_map.mp hx
      exact g.all p (by rw [List.take_length]; exact hp)
    rw [List.length_map, List.length_map] at this
    omega
end Rm

set_option maxRecDepth 100000
set_option maxHeartbeats 4000000
namespace Rm
open PySem PySem.Spec L2
open PyProof.Rows hiding St

/-! ### x in a list or a tuple of data -/
def anyB (d : PyData) (ds : List PyData) : Bool := ds.any fun e => PyData.eqv e d
def rInD (K : PySem.W.Frag) (neg : Bool) : R2 := fun x y H Q => ∃ d p xs ds, Dp K H x d ∧ y = V.ref p ∧ (SqL K H p xs ∨ SqT K H p xs) ∧ DpAll K H xs ds ∧ d.canLay0 = true ∧ PyData.canLayAll0 ds = true ∧ d.depth ≤ 8 ∧ Q (.bl (if neg then !anyB d ds else anyB d ds)) H
section
variable {X : Cx} {pins : List (Addr × Obj)} {σ : L2.St} {H : Hp} {s : Shared}
theorem each_at (I : Inv X pins σ H s) (hu : X.A.units + 64 < cLine) {v : Value} {d : PyData} {as : List Addr} (r : Reads s.heap v d as) (c : d.canLay0 = true) (dd : d.depth ≤ 8) (f : Value → Bool) :
    ∀ {xs : List V} {us : List Value} {ds : List PyData}, Vals xs us → DpAll X.K H xs ds → PyData.canLayAll0 ds = true → (∀ u ∈ us, ∀ e bs, Reads s.heap u e bs → f u = PyData.eqv e d) →
      (∀ u ∈ us, SeqAt.EqAt X.A.in1 s u v (f u)) ∧ us.any f = anyB d ds
  | [], _, _, .nil, .nil, _, _ => ⟨fun u h => (by cases h), rfl⟩
  | x :: xs, u :: us, _, .cons r1 rs, .cons h1 hs, cs, hf => by
    rename_i e es
    simp only [PyData.canLayAll0, Bool.and_eq_true] at cs
    obtain ⟨i1, i2⟩ := each_at I hu r c dd f rs hs cs.2 fun w hw => hf w (.tail _ hw)
    obtain ⟨bs, r2⟩ := Dp.reads I e x u h1 r1
    have ef := hf u (.head _) e bs r2
    refine ⟨fun w hw => ?_, by rw [List.any_cons, ef, i2]; rfl⟩
    rcases List.mem_cons.mp hw with z | hw
    · rw [z, ef]
      refine SeqAt.eqAt_reads e d X.A.in1 s u v bs as r2 r cs.1 c ?_
      have hu2 : X.A.in1.units ≤ X.A.units + 1 := by simp
      omega
    · exact i1 w hw
open Classical in
theorem op_inD (neg : Bool) (hu : X.A.units + 64 < cLine) : OpR X (compareOp (if neg then .NotIn else .In)) (rInD X.K neg) := by
  intro pins s σ H x y v u Q I rx ry h
  obtain ⟨d, p, xs, ds, hd, rfl, hp, ha, c, cs, dd, q⟩ := h
  obtain ⟨as, r⟩ := Dp.reads I d x v hd rx
  cases ry
  let f : Value → Bool := fun z => decide (∃ e bs, Reads s.heap z e bs ∧ PyData.eqv e d = true)
  have hf : ∀ z e bs, Reads s.heap z e bs → f z = PyData.eqv e d := fun z e bs rz => by
    cases h : PyData.eqv e d with
    | true => exact decide_eq_true ⟨e, bs, rz, h⟩
    | false =>
      refine decide_eq_false fun ⟨e', bs', rz', h'⟩ => ?_
      obtain ⟨ee, _⟩ := PyProof.Rows.reads_det (fun _ _ e _ => e) rz rz'
      rw [ee, h] at h'
      cases h'
  rcases hp with hp | hp
  · obtain ⟨its, rv, pl, _⟩ := I.list hp
    obtain ⟨i1, i2⟩ := each_at I hu r c dd f rv ha cs fun z _ => hf z
    have e2 : its.toArray.any f = anyB d ds := by rw [List.any_toArray]; exact i2
    cases neg with
    | false => exact SeqAt.in_listAt f pl.isList (fun z hz => i1 z (by simpa using hz)) ⟨.bl _, H, I, rfl, by rw [e2]; exact q⟩
    | true => exact SeqAt.notIn_listAt f pl.isList (fun z hz => i1 z (by simpa using hz)) ⟨.bl _, H, I, rfl, by rw [e2]; exact q⟩
  · obtain ⟨its, rv, pl, _⟩ := I.tuple hp
    obtain ⟨i1, i2⟩ := each_at I hu r c dd f rv ha cs fun z _ => hf z
    have e2 : its.toArray.any f = anyB d ds := by rw [List.any_toArray]; exact i2
    cases neg with
    | false => exact SeqAt.in_tupleAt f pl (fun z hz => i1 z (by simpa using hz)) ⟨.bl _, H, I, rfl, by rw [e2]; exact q⟩
    | true => exact SeqAt.notIn_tupleAt f pl (fun z hz => i1 z (by simpa using hz)) ⟨.bl _, H, I, rfl, by rw [e2]; exact q⟩
theorem op_inDt (hu : X.A.units + 64 < cLine) : OpR X (compareOp .In) (rInD X.K false) := op_inD false hu
theorem op_notInDt (hu : X.A.units + 64 < cLine) : OpR X (compareOp .NotIn) (rInD X.K true) := op_inD true hu
end
end Rm

set_option maxRecDepth 100000
set_option maxHeartbeats 4000000
namespace Rm
open PySem PySem.Spec L2
open PyProof.Rows hiding St

/-! ### markings as plain data -/
structure MB where
  part : Int
  word : Str
  mode : Str
  deriving DecidableEq
def mbL (m : MB) : List PyData := [.int m.part, .str m.word, .str m.mode]
def mbD (m : MB) : PyData := .tuple (mbL m)
def mbT (m : MB) : Str := lnT (mbL m)
inductive MK where
  | none
  | num (n : Int)
  | mem (m : MB)
def mkD : MK → PyData
  | .none => .none
  | .num n => .int n
  | .mem m => mbD m
def mkW : MK → List Str
  | .none => ["none"]
  | .num n => ["set", sI n]
  | .mem m => (mbL m).map wD
def mkT (k : MK) : Str := Txt.join " " (mkW k)
inductive WR where
  | set (n : Int) (ms : List MB)
  | mark (nm : Str) (v : Int) (k : MK)
def wrD : WR → PyData
  | .set n ms => .tuple [.str "set", .int n, .tuple (ms.map mbD)]
  | .mark nm v k => .tuple [.str "mark", .str nm, .int v, mkD k]
def wrT : WR → Str
  | .set n ms => Txt.join ", " (Txt.join " " [("set" : Str), sI n] :: ms.map mbT)
  | .mark nm v k => Txt.join " " ([("mark" : Str), nm, sI v] ++ mkW k)
def okM (m : MB) : Bool := memD (mbD m)
def okK : MK → Bool
  | .none => true
  | .num n => isW 1 1000000 (.int n)
  | .mem m => okM m
def okR : WR → Bool
  | .set n ms => isW 1 1000000 (.int n) && (decide (ms.length ≤ 40) && (decide ms.Nodup && ms.all okM))
  | .mark nm v k => lnZ nm && (isW 0 1000000 (.int v) && okK k)
/-! ### what is read -/
def mbZ : List Str → Option MB
  | [a, b, c] => (numZ a).bind fun p => if okM ⟨p, b, c⟩ = true then some ⟨p, b, c⟩ else none
  | _ => none
def rng (lo hi : Int) (o : Option Int) : Option Int := o.bind fun n => if isW lo hi (.int n) = true then some n else none
def mkZ (ws : List Str) : Option MK :=
  if ws = [("none" : Str)] then some .none else if ws[0]? = some ("set" : Str) ∧ ws.length = 2 then (rng 1 1000000 (numZ (ws.getD 1 ""))).map .num else (mbZ ws).map .mem
def allS {α : Type} : List (Option α) → Option (List α)
  | [] => some []
  | none :: _ => none
  | some a :: r => (allS r).map (a :: ·)
def setZ (o : Option Int) (ms : List (Option MB)) : Option WR :=
  (rng 1 1000000 o).bind fun n => (allS ms).bind fun l => if decide (l.length ≤ 40) && decide l.Nodup then some (.set n l) else none
def markZ (nm : Str) (o : Option Int) (ws : List Str) : Option WR :=
  if lnZ nm = true then (rng 0 1000000 o).bind fun v => (mkZ ws).map fun k => .mark nm v k else none
def wrZ (z : Str) : Option WR := match Txt.split z ", " with
  | [] => none
  | hd :: ms => match Txt.split hd " " with
    | [] => none
    | w :: rest => if w = "set" ∧ rest.length = 1 then setZ (numZ (rest.getD 0 "")) (ms.map fun m => mbZ (Txt.split m " "))
      else if w = "mark" ∧ rest.length > 2 ∧ ms.length = 0 then markZ (rest.getD 0 "") (numZ (rest.getD 1 "")) (rest.drop 2) else none
/-! ### words without commas -/
structure Wk2 (z : Str) : Prop where
  wk : Wk1 z
  co : 44 ∉ z.cps.toList
def wk2B (z : Str) : Bool := wkB z && decide (44 ∉ z.cps.toList)
theorem Wk2.of {z : Str} (h : wk2B z = true) : Wk2 z := by
  unfold wk2B at h
  rw [Bool.and_eq_true] at h
  exact ⟨.of h.1, of_decide_eq_true h.2⟩
theorem wk2_num {i : Int} (h : i.natAbs < 10 ^ 30) : Wk2 (sI i) := ⟨wk_num h, sI_free (by decide)⟩
theorem wk2_name {z : Str} (h : lnZ z = true) : Wk2 z := ⟨wk_name h, fun m => by
  unfold lnZ at h
  simp only [Bool.and_eq_true, decide_eq_true_eq, List.all_eq_true] at h
  have := (h.2.2 _ m).1
  omega⟩
theorem isW_i {lo hi i : Int} (h : isW lo hi (.int i) = true) : lo ≤ i ∧ i ≤ hi := by
  unfold isW at h
  rw [Bool.and_eq_true] at h
  exact ⟨of_decide_eq_true h.1, of_decide_eq_true h.2⟩
theorem isT_str {a b : Str} (h : isT a (.str b) = true) : b = a := by
  unfold isT at h
  first
    | exact (of_decide_eq_true h)
    | exact (of_decide_eq_true h).symm
    | simpa using h
theorem okM_is {m : MB} (h : okM m = true) : 1 ≤ m.part ∧ m.part ≤ 1000000 ∧ (m.word = "locks" ∨ m.word = "changes") ∧ (m.mode = "hold" ∨ m.mode = "keep" ∨ m.mode = "change" ∨ m.mode = "replace") := by
  have h : (isW 1 1000000 (.int m.part) && ((isT "locks" (.str m.word) && (rkD (.str m.mode)).isSome) || (isT "changes" (.str m.word) && isCh (.str m.mode)))) = true := h
  rw [Bool.and_eq_true, Bool.or_eq_true, Bool.and_eq_true, Bool.and_eq_true] at h
  obtain ⟨h1, h2⟩ := h
  obtain ⟨a, b⟩ := isW_i h1
  refine ⟨a, b, ?_⟩
  rcases h2 with ⟨c, d⟩ | ⟨c, d⟩
  · refine ⟨.inl (isT_str c), ?_⟩
    have d : (rkS m.mode).isSome = true := d
    unfold rkS at d
    split at d
    · rename_i e; exact .inl e
    split at d
    · rename_i e; exact .inr (.inl e)
    split at d
    · rename_i e; exact .inr (.inr (.inl e))
    split at d
    · rename_i e; exact .inr (.inr (.inr e))
    · cases d
  · refine ⟨.inr (isT_str c), ?_⟩
    unfold isCh at d
    rw [Bool.or_eq_true] at d
    rcases d with d | d
    · exact .inr (.inr (.inl (isT_str d)))
    · exact .inr (.inr (.inr (isT_str d)))
theorem mb_words {m : MB} (h : okM m = true) : ∀ w ∈ (mbL m).map wD, Wk2 w := by
  obtain ⟨a, b, c, d⟩ := okM_is h
  intro w hw
  have hw : w = sI m.part ∨ w = m.word ∨ w = m.mode := by simpa [mbL, wD] using hw
  rcases hw with rfl | rfl | rfl
  · exact wk2_num (by omega)
  · rcases c with e | e <;> rw [e] <;> exact Wk2.of (by decide +kernel)
  · rcases d with e | e | e | e <;> rw [e] <;> exact Wk2.of (by decide +kernel)
theorem mk_words {k : MK} (h : okK k = true) : ∀ w ∈ mkW k, Wk2 w := by
  cases k with
  | none =>
    intro w hw
    rw [List.mem_singleton.mp hw]
    exact Wk2.of (by decide +kernel)
  | num n =>
    obtain ⟨a, b⟩ := isW_i h
    intro w hw
    have hw : w = "set" ∨ w = sI n := by simpa [mkW] using hw
    rcases hw with rfl | rfl
    · exact Wk2.of (by decide +kernel)
    · exact wk2_num (by omega)
  | mem m => exact mb_words h
theorem co_sep : ∃ S, TL.tl (", " : Str) = 44 :: S := ⟨[32], by decide +kernel⟩
theorem sp_join {ws : List Str} (ne : ws ≠ []) (h : ∀ w ∈ ws, Wk2 w) : Txt.split (Txt.join " " ws) " " = ws := by
  obtain ⟨S, e⟩ := sp_sep
  exact TL.split_join e (by decide +kernel) ne fun p hp => (h p hp).wk.sp
theorem join_co {ws : List Str} (h : ∀ w ∈ ws, Wk2 w) : 44 ∉ (Txt.join " " ws).cps.toList := fun m => by
  rcases join_mem m with m | ⟨p, hp, m⟩
  · have := sp_of m
    omega
  · exact (h p hp).co m
theorem co_join {ps : List Str} (ne : ps ≠ []) (h : ∀ p ∈ ps, 44 ∉ p.cps.toList) : Txt.split (Txt.join ", " ps) ", " = ps := by
  obtain ⟨S, e⟩ := co_sep
  exact TL.split_join e (by decide +kernel) ne h
theorem join_one (y p : Str) : Txt.join y [p] = p := by
  rw [TL.join_eq]
  rfl
theorem co_one {p : Str} (h : 44 ∉ p.cps.toList) : Txt.split p ", " = [p] := by
  have := co_join (ps := [p]) (by simp) fun q hq => by rw [List.mem_singleton.mp hq]; exact h
  rwa [join_one] at this
theorem mbZ_back {m : MB} (h : okM m = true) : mbZ (Txt.split (mbT m) " ") = some m := by
  have e : Txt.split (mbT m) " " = (mbL m).map wD := sp_join (by simp [mbL]) (mb_words h)
  obtain ⟨a, b, _⟩ := okM_is h
  rw [e]
  show (numZ (sI m.part)).bind _ = _
  rw [sI_read (by omega)]
  exact if_pos h
theorem rng_ok {lo hi n : Int} (h : isW lo hi (.int n) = true) : rng lo hi (some n) = some n := if_pos h
theorem allS_some {α : Type} : ∀ l : List α, allS (l.map some) = some l
  | [] => rfl
  | a :: l => by
    show (allS (l.map some)).map (a :: ·) = _
    rw [allS_some l]
    rfl
theorem mkZ_back {k : MK} (h : okK k = true) : mkZ (mkW k) = some k := by
  cases k with
  | none => exact if_pos rfl
  | num n =>
    have hn : isW 1 1000000 (.int n) = true := h
    obtain ⟨a, b⟩ := isW_i hn
    unfold mkZ
    rw [if_neg (by simp [mkW]), if_pos (by simp [mkW])]
    show (rng 1 1000000 (numZ (sI n))).map MK.num = _
    rw [sI_read (by omega), rng_ok hn]
    rfl
  | mem m =>
    have hm : okM m = true := h
    have e := mbZ_back hm
    have e2 : Txt.split (mbT m) " " = (mbL m).map wD := sp_join (by simp [mbL]) (mb_words hm)
    rw [e2] at e
    unfold mkZ
    rw [if_neg (by simp [mkW, mbL]), if_neg (by simp [mkW, mbL])]
    show (mbZ ((mbL m).map wD)).map MK.mem = _
    rw [e]
    rfl
theorem mkW_len {k : MK} : 1 ≤ (mkW k).length ∧ (mkW k).length ≤ 3 := by cases k <;> simp [mkW, mbL]
theorem wrZ_back {w : WR} (h : okR w = true) : wrZ (wrT w) = some w := by
  cases w with
  | set n ms =>
    have h : (isW 1 1000000 (.int n) && (decide (ms.length ≤ 40) && (decide ms.Nodup && ms.all okM))) = true := h
    rw [Bool.and_eq_true, Bool.and_eq_true, Bool.and_eq_true] at h
    obtain ⟨h1, h2, h3, h4⟩ := h
    obtain ⟨a, b⟩ := isW_i h1
    have hw : ∀ w ∈ [("set" : Str), sI n], Wk2 w := fun w hw => mk_words (k := .num n) h1 w hw
    have ok : ∀ m ∈ ms, okM m = true := List.all_eq_true.mp h4
    have e1 : Txt.split (wrT (.set n ms)) ", " = Txt.join " " [("set" : Str), sI n] :: ms.map mbT := co_join (by simp) fun p hp => by
      rcases List.mem_cons.mp hp with e | hp
      · rw [e]; exact join_co hw
      · obtain ⟨m, hm, rfl⟩ := List.mem_map.mp hp
        exact join_co (mb_words (ok m hm))
    have e2 : Txt.split (Txt.join " " [("set" : Str), sI n]) " " = [("set" : Str), sI n] := sp_join (by simp) hw
    unfold wrZ
    rw [e1]
    dsimp only
    rw [e2]
    dsimp only
    rw [if_pos ⟨rfl, rfl⟩]
    have e3 : ((ms.map mbT).map fun m => mbZ (Txt.split m " ")) = ms.map some := by
      rw [List.map_map]
      exact List.map_congr_left fun m hm => mbZ_back (ok m hm)
    rw [e3]
    show setZ (numZ (sI n)) _ = _
    rw [sI_read (by omega)]
    unfold setZ
    rw [rng_ok h1, allS_some]
    show (if (decide (ms.length ≤ 40) && decide ms.Nodup) = true then _ else _) = _
    rw [h2, h3]
    rfl
  | mark nm v k =>
    have h : (lnZ nm && (isW 0 1000000 (.int v) && okK k)) = true := h
    rw [Bool.and_eq_true, Bool.and_eq_true] at h
    obtain ⟨h1, h2, h3⟩ := h
    obtain ⟨a, b⟩ := isW_i h2
    have hw : ∀ w ∈ [("mark" : Str), nm, sI v] ++ mkW k, Wk2 w := fun w hw => by
      rcases List.mem_append.mp hw with hw | hw
      · have hw : w = "mark" ∨ w = nm ∨ w = sI v := by simpa using hw
        rcases hw with e | e | e
        · rw [e]; exact Wk2.of (by decide +kernel)
        · rw [e]; exact wk2_name h1
        · rw [e]; exact wk2_num (by omega)
      · exact mk_words h3 w hw
    have e1 : Txt.split (wrT (.mark nm v k)) ", " = [wrT (.mark nm v k)] := co_one (join_co hw)
    have e2 : Txt.split (wrT (.mark nm v k)) " " = [("mark" : Str), nm, sI v] ++ mkW k := sp_join (by simp) hw
    unfold wrZ
    rw [e1]
    dsimp only
    rw [e2]
    dsimp only [List.cons_append, List.nil_append]
    have l := (mkW_len (k := k)).1
    rw [if_neg fun z => by
      have : ("mark" : Str) ≠ "set" := by decide +kernel
      exact this z.1, if_pos ⟨rfl, by rw [List.length_cons, List.length_cons]; omega, rfl⟩]
    show markZ nm (numZ (sI v)) (mkW k) = _
    rw [sI_read (by omega)]
    unfold markZ
    rw [if_pos h1, rng_ok h2]
    show (mkZ (mkW k)).map _ = _
    rw [mkZ_back h3]
    rfl
def atT (i : Int) : Str := Txt.join " " [("at" : Str), sI i]
theorem at_words {i : Int} (h : i.natAbs < 10 ^ 30) : ∀ w ∈ [("at" : Str), sI i], Wk2 w := fun w hw => by
  have hw : w = "at" ∨ w = sI i := by simpa using hw
  rcases hw with e | e
  · rw [e]; exact Wk2.of (by decide +kernel)
  · rw [e]; exact wk2_num h
theorem wrZ_at {i : Int} (h : i.natAbs < 10 ^ 30) : wrZ (atT i) = none := by
  have hw := at_words h
  have e1 : Txt.split (atT i) ", " = [atT i] := co_one (join_co hw)
  have e2 : Txt.split (atT i) " " = [("at" : Str), sI i] := sp_join (by simp) hw
  unfold wrZ
  rw [e1]
  dsimp only
  rw [e2]
  dsimp only
  rw [if_neg fun z => by
    have : ("at" : Str) ≠ "set" := by decide +kernel
    exact this z.1, if_neg fun z => by
    have : ("at" : Str) ≠ "mark" := by decide +kernel
    exact this z.1]
end Rm

set_option maxRecDepth 100000
set_option maxHeartbeats 4000000
namespace Rm
open PySem PySem.Spec L2
open PyProof.Rows hiding St

/-! ### repr of longer data -/
structure SmB (d : PyData) : Prop where
  sh : d.showable = true
  ln : d.shown.length ≤ sizeLine
  dp : d.depth ≤ 50
def rRepB (K : PySem.W.Frag) : List V → Hp → VK → Prop := fun xs H Q =>
  ∃ x d, xs = [x] ∧ Dx K H x d ∧ SmB d ∧ Q (.str d.shown) H
theorem call_repB {X : Cx} (hG : Gd X.A) (hu : X.A.units + 64 < cLine) : CallR X (.builtin "repr") (rRepB X.K) := by
  intro pins s σ H xs us Q I r h
  obtain ⟨x, d, rfl, hd, hs, q⟩ := h
  obtain ⟨u, rfl, ru⟩ := vals1 r
  have hz := hs.ln
  have hdp := hs.dp
  have S := Dx.shw I d x u hd ru hs.sh hz
  have fin : ∀ h' t tk, (∀ b o, s.heap.get? b = some o → h'.get? b = some o) →
      EP X pins σ Q (.str d.shown t) { s with heap := h', toks := tk } := fun h' t tk k =>
    ⟨.str d.shown, H, I.kept k, ⟨t, rfl⟩, q⟩
  cases hd with
  | non =>
    cases ru
    simp only [PyData.shown] at fin
    exact PySem.P.repr_of_none (fin s.heap _ _ fun _ _ e => e)
  | bl b =>
    cases ru
    simp only [PyData.shown] at fin
    exact PySem.P.repr_of_bool (fin s.heap _ _ fun _ _ e => e)
  | int i =>
    obtain ⟨t, rfl⟩ := ru
    simp only [PyData.shown] at fin
    exact PySem.P.repr_of_int (by simpa [PyData.showable] using hs.sh) (fin s.heap _ _ fun _ _ e => e)
  | str z =>
    obtain ⟨t, rfl⟩ := ru
    simp only [PyData.shown] at fin hz
    exact PySem.P.repr_of_str (fin s.heap _ _ fun _ _ e => e) hz
  | lst hl ha =>
    cases ru
    rename_i a xs ds
    obtain ⟨its, rv, ⟨o, n, ho, hc, _, hdt⟩, _⟩ := I.list hl
    simp only [PyData.shown] at hz fin
    simp only [PyData.depth] at hdp
    have ss : PyData.showableAll ds = true := by simpa [PyData.showable] using hs.sh
    obtain ⟨⟨as, ra⟩, bs, mb, kb⟩ := Dx.shwAll I ds _ its ha rv ss
      fun t ht => Nat.le_trans (listText_mem_le ht) hz
    have rr := Reads.list ho hc hdt ra
    refine call_repr_slot (by omega) ⟨o, ho, hc⟩ F.slot_list_repr.toG ?_
    cases its with
    | nil =>
      cases ra
      simp only [PyData.shownAll, listText_nil] at fin
      exact call_list_repr_empty ⟨o, ho, hc⟩ ho hdt ⟨_, _, rfl, fin s.heap _ _ fun _ _ e => e⟩
    | cons y l =>
      exact call_list_reprK ho hc hdt (not_mem_of_deeper rr (by simp only [PyData.depth]; omega) mb)
        (by simpa using kb.length_eq) (fun i z e => kb.item i z (by simpa using e)) hG
        (fun b _ => Clear.nil b) (by show X.A.units + 1 + _ < cLine; omega) (fun _ _ e => e)
        (fun h' t tk k => ⟨_, _, rfl, fin h' t tk k⟩) hz
  | tup hl ha =>
    cases ru
    rename_i a xs ds
    obtain ⟨its, rv, ⟨o, ho, hc, n, hdt⟩, _⟩ := I.tuple hl
    simp only [PyData.shown] at hz fin
    simp only [PyData.depth] at hdp
    have ss : PyData.showableAll ds = true := by simpa [PyData.showable] using hs.sh
    obtain ⟨⟨as, ra⟩, bs, mb, kb⟩ := Dx.shwAll I ds _ its ha rv ss
      fun t ht => Nat.le_trans (tupleText_mem_le ht) hz
    have rr := Reads.tuple ho hc hdt ra
    refine call_repr_slot (by omega) ⟨o, ho, hc⟩ F.slot_tuple_repr ?_
    exact call_tuple_reprK ho hc hdt (not_mem_of_deeper rr (by simp only [PyData.depth]; omega) mb) kb hG
      (fun b _ => Clear.nil b) (by show X.A.units + 1 + _ < cLine; omega) (fun _ _ e => e)
      (fun h' t tk k => ⟨_, _, rfl, fin h' t tk k⟩) hz
  | dic hl ha =>
    cases ru
    rename_i a kvs es
    obtain ⟨hsz, hsys, vs, kv, o, ents, ep, ho, hx, hdt, _, hp, _⟩ := dk_rd I.hok hl
    obtain ⟨hs1, hs2⟩ := PyData.showableKv_split es (by simpa [PyData.showable] using hs.sh)
    simp only [PyData.shown] at hz fin
    simp only [PyData.depth] at hdp
    obtain ⟨kr, vr⟩ := kv_read kv hp
    have ek := DxKv.keys ha
    obtain ⟨⟨_, r1⟩, b1, m1, k1⟩ := kr s.heap _ ek hs1 fun t ht =>
      let ⟨p, hp, hl⟩ := PyData.shownKv_key_le es t ht
      Nat.le_trans hl (Nat.le_trans (dictText_mem_le hp) hz)
    obtain ⟨⟨_, r2⟩, b2, m2, k2⟩ := Dx.shwAll2 I es _ _ ha vr hs2 fun t ht =>
      let ⟨p, hp, hl⟩ := PyData.shownKv_val_le es t ht
      Nat.le_trans hl (Nat.le_trans (dictText_mem_le hp) hz)
    have rr : Reads s.heap (.ref _) (.dict es) _ := Reads.dict ho hx.1 hdt r1 r2
    have mb := (m1.mono (PyData.depthAll_keys_le es)).append (m2.mono (PyData.depthAll_vals_le es))
    rw [PyData.shownKv_eq] at fin hz
    refine call_repr_slot (by omega) ⟨o, ho, hx.1⟩ F.slot_dict_repr ?_
    exact call_dict_reprK ho hx.1 hdt hsys (not_mem_of_deeper rr (by simp only [PyData.depth]; omega) mb)
      (ReprEntriesK.of_two ents.toList _ _
        (k1.more_le (fun _ z => List.mem_append_left _ z) (PyData.depthAll_keys_le es))
        (k2.more_le (fun _ z => List.mem_append_right _ z) (PyData.depthAll_vals_le es))) hG
      (fun b _ => Clear.nil b) (by show X.A.units + 1 + _ < cLine; omega) (fun _ _ e => e)
      (fun h' t tk k => ⟨_, _, rfl, fin h' t tk k⟩) hz

end Rm

set_option maxRecDepth 100000
set_option maxHeartbeats 4000000
namespace PySem
open Sem (wp)
set_option maxHeartbeats 1000000 in
theorem meets_enumerate_new0 {v : Value} {o : Obj} {H : Heap → Prop} (B : Begins v o H) :
    Meets (Builtin.«enumerate.__new__» ⟨[.type "enumerate", v], []⟩) (fun _ R s => H s.heap ∧
      R (.ok (.ret (.ref (s.heap.push o).objs.size))) { s with heap := (s.heap.push o).push { cls := .type "enumerate", data := .fields #[.none, .bool false, .ref s.heap.objs.size, rawInt 0, .none, .none] } }) :=
  .of_wp fun prog w A R s h => by
    obtain ⟨hp, g, d, tk, os⟩ := s; obtain ⟨h1, h⟩ := h
    have hsub := sub_enumerate
    have q1 : ∀ {A' : Around} {E : Value → Shared → Prop} {Q : Value → Shared → Prop}, Q (.ref hp.objs.size) ⟨hp.push o, g, d, tk, os⟩ → wpAny (model prog w) A' (pyIter v) Q E ⟨hp, g, d, tk, os⟩ :=
      fun q => B.iter prog w _ _ ⟨hp, g, d, tk, os⟩ _ h1 q
    wp_walk using q1
    refine wpAny_stack_any fun st => wpAny_pure ?_
    split
    · rename_i c _ _ _ _ _
      cases (c == Value.type "enumerate")
      · wp_walk using q1
        exact ⟨_, rfl, h⟩
      · wp_walk using q1
        exact ⟨_, rfl, h⟩
    · wp_walk using q1
      exact ⟨_, rfl, h⟩
section
variable {prog : Program} {w : World} {A : Around} {E : Value → Shared → Prop} {s : Shared}
theorem enum_begins0 {v : Value} {o : Obj} {H : Heap → Prop} {Q : Value → Shared → Prop} (B : Begins v o H) (h1 : H s.heap)
    (h : ∀ h', IsEnum h' (s.heap.objs.size + 1) s.heap.objs.size 0 .none → h'.get? s.heap.objs.size = some o → h'.objs.size = s.heap.objs.size + 2 →
      (∀ b o, s.heap.get? b = some o → h'.get? b = some o) → Q (.ref (s.heap.objs.size + 1)) { s with heap := h' }) :
    wpAny (model prog w) A (call (.type "enumerate") [v]) Q E s := by
  refine callType_new F.called_enumerate (by decide) (F.typeCall_enumerate_1 _) (F.newCall_enumerate_1 _) (fun obj => F.args_object_init_2 obj _) F.entry_enumerate_new
    (meets_enumerate_new0 B) ⟨h1, ?_⟩
  have hz : (s.heap.push o).objs.size = s.heap.objs.size + 1 := Heap.size_push ..
  show _ ∧ _
  rw [hz]
  have he : IsEnum ((s.heap.push o).push { cls := .type "enumerate", data := .fields #[.none, .bool false, .ref s.heap.objs.size, rawInt 0, .none, .none] }) (s.heap.objs.size + 1) s.heap.objs.size 0 .none := by
    have := Heap.get?_push_size (s.heap.push o) (o := { cls := .type "enumerate", data := .fields #[.none, .bool false, .ref s.heap.objs.size, rawInt 0, .none, .none] }) rfl
    rw [hz] at this
    exact this
  exact ⟨⟨_, he, rfl⟩, h _ he (Heap.get?_push_of_some _ (Heap.get?_push_size _ B.free)) (by rw [Heap.size_push, hz]) fun b o y => Heap.get?_push_of_some _ (Heap.get?_push_of_some _ y)⟩
end
end PySem
namespace Rm
open PySem PySem.Spec L2
open PyProof.Rows hiding St

/-! ### enumerate(tuple, c), enumerate(tuple) -/
def IteT (K : PySem.W.Frag) (c : Int) (a : Addr) : It where
  go := fun i H => ∃ (xs : List V) (x : V), SqT K H a xs ∧ xs[i]? = some x
  yld := fun i H v H' => ∃ T x, v = .ref T ∧ H T = none ∧ H' = upd H T (.tup [.int (c + ((i : Nat) : Int)), x]) ∧ ∀ xs, SqT K H a xs → xs[i]? = some x
  stop := fun i H => ∃ xs : List V, SqT K H a xs ∧ xs.length ≤ i
theorem turn_enumT {P : Program} {w : World} {K : PySem.W.Frag} {elts : List Expr} {kk : Nat} {tpos : Pos} {c : Int} (a e it : Addr) :
    Turn P w K (.Tuple elts kk tpos) (IteT K c a) [e, it] e (fun i h => (∃ old, IsEnum h e it (c + ((i : Nat) : Int)) old) ∧ h.IsTupleIter it a i ∧ e ≠ it ∧ e ≠ a ∧ it ≠ a) where
  mem := .head _
  obj := fun i h st b hb => by
    obtain ⟨⟨old, he⟩, ⟨o, ho, hc, hd⟩, _⟩ := st
    rcases List.mem_cons.mp hb with z | hb
    · subst z
      exact ⟨_, he, fun v q => nomatch q⟩
    · rw [List.mem_singleton.mp hb]
      exact ⟨o, ho, fun v q => by rw [hd] at q; cases q⟩
  keep := fun i h h' st k => by
    obtain ⟨⟨old, he⟩, hi, r⟩ := st
    exact ⟨⟨old, k e (.head _) _ he⟩, hi.at fun o q => k it (.tail _ (.head _)) o q, r⟩
  item := by
    intro X hP hw hK hc i pins s σ H E I hf st hg
    subst hP hw hK
    obtain ⟨⟨old, he⟩, hit, hne, hea, hia⟩ := st
    obtain ⟨xs, x, hq, hx⟩ := hg
    obtain ⟨its, rv, p, hz⟩ := I.tuple hq
    obtain ⟨u, hu, ru⟩ := rv.get hx
    have hu' : its.toArray[i]? = some u := by simpa using hu
    have hel : e < s.heap.objs.size := Heap.lt_size he
    have hil : it < s.heap.objs.size := by
      obtain ⟨_, q, _⟩ := hit
      exact Heap.lt_size q
    have lt : i < its.toArray.size := by
      rcases Nat.lt_or_ge i its.toArray.size with h | h
      · exact h
      · rw [Array.getElem?_eq_none h] at hu'
        cases hu'
    refine wpAny_pyNext_enum_itemC (Draws.tuple (A := X.A.in1) (show X.A.handled = none from I.ok.hd hc) it a (Ne.symm hia) its.toArray) he ⟨hit, p⟩ lt hne (fun m => ?_) fun y h' tk hy ho hst hT hsz hk => ?_
    · rcases List.mem_cons.mp m with z | m
      · exact hne z
      · exact hea (List.mem_singleton.mp m)
    rw [hu'] at hy
    obtain rfl := Option.some.inj hy
    refine ⟨_, rfl, wpAny_letOwnedTupleGo_enum (s := { s with heap := h', toks := tk + 1 }) ho fun h'' he' sb => ?_⟩
    have hT2 : h''.get? s.heap.objs.size = some { cls := .type "tuple", data := .seq #[.int (c + (i : Int)) tk, u] } := (sb.2 _ (Nat.ne_of_gt hel)).trans hT
    have new : ObjOk X.prog X.w (upd H s.heap.objs.size (.tup [.int (c + ((i : Nat) : Int)), x])) h'' s.heap.objs.size (.tup [.int (c + ((i : Nat) : Int)), x]) :=
      ⟨show 2 ≤ sizeLine by decide, [.int (c + (i : Int)) tk, u], .cons ⟨_, rfl⟩ (.cons ru .nil), ⟨_, hT2, rfl, _, rfl⟩⟩
    have I1 : Inv X pins σ (upd H s.heap.objs.size (.tup [.int (c + ((i : Nat) : Int)), x])) { s with heap := h'', toks := tk + 1 } :=
      I.turnedNew (ch := [e, it]) (fun b ob hb q => by
        have nb : b ≠ e ∧ b ≠ it := ⟨fun z => hb (z ▸ .head _), fun z => hb (z ▸ .tail _ (.head _))⟩
        exact (sb.2 b nb.1).trans (hk b ob nb.1 nb.2 q)) hf (Nat.le_refl _) new
    refine ⟨.ref s.heap.objs.size, _, I1, rfl, ⟨_, x, rfl, I.hok.fresh (Nat.le_refl _), rfl, fun ys hy => by rw [I.tuple_inj hy hq]; exact hx⟩, ⟨⟨u, ?_⟩, hst.1.at fun o q => (sb.2 it (Ne.symm hne)).trans q, hne, hea, hia⟩, fun b hb => ?_⟩
    · have e1 : c + ((i + 1 : Nat) : Int) = c + (i : Int) + 1 := by omega
      rw [e1]
      exact he'
    · have hb' : b < s.heap.objs.size := by
        rcases List.mem_cons.mp hb with z | m
        · rw [z]; exact hel
        · rw [List.mem_singleton.mp m]; exact hil
      rw [upd_ne (Nat.ne_of_lt hb')]
      exact (hf b hb).1
  done := by
    intro X hP hw hK hc i pins s σ H E I hf st hg
    subst hP hw hK
    obtain ⟨⟨old, he⟩, hit, hne, hea, hia⟩ := st
    obtain ⟨xs, hq, hx⟩ := hg
    obtain ⟨its, rv, p, hz⟩ := I.tuple hq
    obtain ⟨f0, f1, f2, f3, f4, f5⟩ := hf it (.tail _ (.head _))
    have hl := rv.length
    refine wpAny_pyNext_enum_endD (P := fun _ _ => True) (n := i) (fp := [it, a]) (St := fun j h => j = i ∧ h.IsTupleIter it a i ∧ h.IsTuple a its.toArray) ⟨?_, ?_, ?_, ?_⟩ he ⟨rfl, hit, p⟩ fun h' eb => ⟨rfl, I.turned (t' := s.toks) (fun b o hb q => eb b o hb q) f0 f1 f3 f4 f5⟩
    · exact fun _ _ st => let ⟨o, ho, _⟩ := st.2.1; ⟨o, ho⟩
    · exact fun _ _ _ st hk => ⟨st.1, st.2.1.at fun o e => hk it (.head _) o e, st.2.2.at fun o e => hk a (.tail _ (.head _)) o e⟩
    · exact fun j s Q E hi st hQ => absurd st.1 (Nat.ne_of_lt hi)
    · exact fun s Q E st hE => wpAny_nextOf_tuple_end (I.ok.hd hc) st.2.1 st.2.2 (by simp; omega) hE
  self := fun A i s Q E st h => let ⟨⟨_, he⟩, _⟩ := st; wpAny_pyIter_enum he h
def iEnumT (K : PySem.W.Frag) (c : Int) (ta : TA) : TI := fun σ H R => ta σ H fun vs H1 => ∃ a xs, vs = [.ref a, .int c] ∧ SqT K H1 a xs ∧ R (IteT K c a) H1
theorem pi_enumT {X : Cx} {c : Int} {e d : Expr} {ta : TA} {p pos tpos : Pos} {elts : List Expr} {kk : Nat} (hg : Gl X "enumerate") (hm : X.mg "enumerate" = none) (ha : PA X [e, d] ta) (c0 : -(2 ^ 63) ≤ c) (c1 : c < 2 ^ 63)
    (hs : starEach [e, d] X.env = (false, eval e X.env) :: starEach [d] X.env := by rfl) (hn : (backTo pos (starEach [d] X.env)).any (·.1) = false := by rfl) :
    L2.PI X (.Tuple elts kk tpos) (.Call (.Name "enumerate" p) [e, d] [] pos) (iEnumT X.K c ta) := by
  refine ⟨fun pins s σ H R I h => ?_⟩
  refine Call_ (ld_blt I hg hm boot_enumerate (PyProof.Rows.callWith_type1 (thn (ha.run pos pins s σ H _ I h) fun us s1 ⟨vs, H1, I1, r1, q1⟩ => ?_) hs hn))
  obtain ⟨a, xs, ex, hq, q⟩ := q1
  subst ex
  obtain ⟨u1, u2, rfl, ra, rc⟩ := vals2 r1
  cases ra
  obtain ⟨t, rfl⟩ := rc
  obtain ⟨its, rv, p', hz⟩ := I1.tuple hq
  refine enum_begins (begins_tuple a its.toArray) p' c0 c1 fun h' he hit hsz hk => wpAny_pyIter_enum he ?_
  have I2 : Inv X pins σ H1 { s1 with heap := h' } := I1.kept (t' := s1.toks) hk
  have al : a < s1.heap.objs.size := by
    obtain ⟨o, ho, _⟩ := p'
    exact Heap.lt_size ho
  refine ⟨s1.heap.objs.size + 1, [s1.heap.objs.size + 1, s1.heap.objs.size], _, _, H1, rfl, I2, turn_enumT a (s1.heap.objs.size + 1) s1.heap.objs.size, ⟨⟨.none, by simpa using he⟩, ⟨_, hit, rfl, rfl⟩, Nat.succ_ne_self _, (Nat.ne_of_lt (Nat.lt_succ_of_lt al)).symm, (Nat.ne_of_lt al).symm⟩, fun b hb => ?_, q⟩
  have hle : s1.heap.objs.size ≤ b := by
    rcases List.mem_cons.mp hb with z | m
    · rw [z]; exact Nat.le_add_right _ _
    · rw [List.mem_singleton.mp m]; exact Nat.le_refl _
  exact I1.fpOk hle (I1.hok.fresh hle)
theorem walk_enumT {K : PySem.W.Frag} {a : Addr} {xs : List V} {c : Int} : Walk (IteT K c a) xs.length (fun H => SqT K H a xs) (YPair (fun i => some (.int (c + ((i : Nat) : Int)))) (fun i => xs[i]?)) := by
  refine ⟨fun i _ hi q => ⟨xs, xs[i], q, List.getElem?_eq_getElem hi⟩, fun _ q => ⟨xs, q, Nat.le_refl _⟩, fun i H v H' _ q y => ?_⟩
  obtain ⟨T, x, h1, h2, h3, h4⟩ := y
  exact ⟨T, _, x, h1, h2, h3, rfl, h4 xs q⟩

def iEnumT0 (K : PySem.W.Frag) (ta : TA) : TI := fun σ H R => ta σ H fun vs H1 => ∃ a xs, vs = [.ref a] ∧ SqT K H1 a xs ∧ R (IteT K 0 a) H1
theorem pi_enumT0 {X : Cx} {e : Expr} {ta : TA} {p pos tpos : Pos} {elts : List Expr} {kk : Nat} (hg : Gl X "enumerate") (hm : X.mg "enumerate" = none) (ha : PA X [e] ta)
    (hs : starEach [e] X.env = [(false, eval e X.env)] := by rfl) :
    L2.PI X (.Tuple elts kk tpos) (.Call (.Name "enumerate" p) [e] [] pos) (iEnumT0 X.K ta) := by
  refine ⟨fun pins s σ H R I h => ?_⟩
  refine Call_ (ld_blt I hg hm boot_enumerate (PyProof.Rows.callWith_type1 (thn (ha.run pos pins s σ H _ I h) fun us s1 ⟨vs, H1, I1, r1, q1⟩ => ?_) hs rfl))
  obtain ⟨a, xs, ex, hq, q⟩ := q1
  subst ex
  cases r1 with
  | cons r rr =>
  cases rr
  cases r
  obtain ⟨its, rv, p', hz⟩ := I1.tuple hq
  refine enum_begins0 (begins_tuple a its.toArray) p' fun h' he hit hsz hk => wpAny_pyIter_enum he ?_
  have I2 : Inv X pins σ H1 { s1 with heap := h' } := I1.kept (t' := s1.toks) hk
  have al : a < s1.heap.objs.size := by
    obtain ⟨o, ho, _⟩ := p'
    exact Heap.lt_size ho
  refine ⟨s1.heap.objs.size + 1, [s1.heap.objs.size + 1, s1.heap.objs.size], _, _, H1, rfl, I2, turn_enumT a (s1.heap.objs.size + 1) s1.heap.objs.size, ⟨⟨.none, by simpa using he⟩, ⟨_, hit, rfl, rfl⟩, Nat.succ_ne_self _, (Nat.ne_of_lt (Nat.lt_succ_of_lt al)).symm, (Nat.ne_of_lt al).symm⟩, fun b hb => ?_, q⟩
  have hle : s1.heap.objs.size ≤ b := by
    rcases List.mem_cons.mp hb with z | m
    · rw [z]; exact Nat.le_add_right _ _
    · rw [List.mem_singleton.mp m]; exact Nat.le_refl _
  exact I1.fpOk hle (I1.hok.fresh hle)
end Rm

set_option maxRecDepth 100000
set_option maxHeartbeats 4000000
namespace Rm
open PySem PySem.Spec L2
open PyProof.Rows hiding St

/-! ### the text of a marking, and what is read of it -/
abbrev MG := List (List WR)
def wsD (ws : List WR) : PyData := .tuple (ws.map wrD)
def mgD (g : MG) : PyData := .tuple (g.map wsD)
structure okG (g : MG) : Prop where
  l : g.length ≤ 60
  w : ∀ ws ∈ g, ws.length ≤ 10 ∧ ∀ w ∈ ws, okR w = true
def mgL : Nat → MG → List Str
  | _, [] => []
  | i, ws :: r => atT ((i : Nat) : Int) :: (ws.map wrT ++ mgL (i + 1) r)
def mgT (g : MG) : Str := Txt.join "\n" (mgL 1 g)
theorem mgL_snoc : ∀ (i : Nat) (g : MG) (ws : List WR), mgL i (g ++ [ws]) = mgL i g ++ (atT ((i + g.length : Nat) : Int) :: ws.map wrT)
  | i, [], ws => by simp [mgL]
  | i, a :: g, ws => by
    rw [List.cons_append]
    simp only [mgL]
    rw [mgL_snoc (i + 1) g ws, List.length_cons, show i + 1 + g.length = i + (g.length + 1) by omega]
    simp
theorem okG.of {g : MG} (h : okG g) {ws : List WR} (m : ws ∈ g) {w : WR} (mw : w ∈ ws) : okR w = true := (h.w ws m).2 w mw
/-- a line that holds no more than words -/
structure Ln (z : Str) : Prop where
  l1 : 1 ≤ z.length
  lz : z.length ≤ 4100
  nl : 10 ∉ z.cps.toList
  sm : asA z = true
theorem join_asc {y : Str} {ps : List Str} (hy : asA y = true) (h : ∀ p ∈ ps, asA p = true) : asA (Txt.join y ps) = true := by
  unfold asA at hy h ⊢
  rw [List.all_eq_true] at hy ⊢
  intro c hc
  rcases join_mem hc with m | ⟨p, hp, m⟩
  · exact hy c m
  · exact List.all_eq_true.mp (h p hp) c m
theorem join_nl {y : Str} {ps : List Str} (hy : 10 ∉ y.cps.toList) (h : ∀ p ∈ ps, 10 ∉ p.cps.toList) : 10 ∉ (Txt.join y ps).cps.toList := fun m => by
  rcases join_mem m with m | ⟨p, hp, m⟩
  · exact hy m
  · exact h p hp m
theorem ln_words {ws : List Str} (ne : ws ≠ []) (l : ws.length ≤ 6) (h : ∀ w ∈ ws, Wk2 w) : Ln (Txt.join " " ws) ∧ (Txt.join " " ws).length ≤ 192 := by
  have e1 : (" " : Str).length = 1 := by decide +kernel
  have b := join_len (y := " ") fun w hw => (h w hw).wk.l31
  rw [e1] at b
  have b2 : (Txt.join " " ws).length ≤ 192 := Nat.le_trans b (Nat.le_trans (Nat.mul_le_mul_right _ l) (by decide))
  refine ⟨⟨?_, by omega, join_nl (by decide +kernel) fun p hp => (h p hp).wk.nl, join_asc (by decide +kernel) fun p hp => (h p hp).wk.sm⟩, b2⟩
  cases ws with
  | nil => exact (ne rfl).elim
  | cons w r => exact Nat.le_trans (h w (.head _)).wk.l1 join_len1
theorem mb_line {m : MB} (h : okM m = true) : Ln (mbT m) ∧ (mbT m).length ≤ 96 := by
  obtain ⟨a, _⟩ := ln_words (ws := (mbL m).map wD) (by simp [mbL]) (by simp [mbL]) (mb_words h)
  have b := join_len (y := " ") fun w hw => (mb_words h w hw).wk.l31
  have e1 : (" " : Str).length = 1 := by decide +kernel
  rw [e1] at b
  exact ⟨a, Nat.le_trans b (by simp [mbL])⟩
theorem wr_line {w : WR} (h : okR w = true) : Ln (wrT w) := by
  cases w with
  | set n ms =>
    have h : (isW 1 1000000 (.int n) && (decide (ms.length ≤ 40) && (decide ms.Nodup && ms.all okM))) = true := h
    rw [Bool.and_eq_true, Bool.and_eq_true, Bool.and_eq_true] at h
    obtain ⟨h1, h2, h3, h4⟩ := h
    have h2 := of_decide_eq_true h2
    have ok : ∀ m ∈ ms, okM m = true := List.all_eq_true.mp h4
    have hd := ln_words (ws := [("set" : Str), sI n]) (by simp) (by simp) fun w hw => mk_words (k := .num n) h1 w hw
    have hd2 : (Txt.join " " [("set" : Str), sI n]).length ≤ 64 := by
      have b := join_len (y := " ") (ps := [("set" : Str), sI n]) fun w hw => (mk_words (k := .num n) h1 w hw).wk.l31
      have e1 : (" " : Str).length = 1 := by decide +kernel
      rw [e1] at b
      exact Nat.le_trans b (by simp)
    have pc : ∀ p ∈ Txt.join " " [("set" : Str), sI n] :: ms.map mbT, Ln p ∧ p.length ≤ 96 := fun p hp => by
      rcases List.mem_cons.mp hp with e | hp
      · rw [e]; exact ⟨hd.1, by omega⟩
      · obtain ⟨m, hm, rfl⟩ := List.mem_map.mp hp
        exact mb_line (ok m hm)
    have b := join_len (y := ", ") fun p hp => (pc p hp).2
    have e1 : (", " : Str).length = 2 := by decide +kernel
    rw [e1, List.length_cons, List.length_map] at b
    refine ⟨Nat.le_trans hd.1.l1 join_len1, Nat.le_trans b ?_, join_nl (by decide +kernel) fun p hp => (pc p hp).1.nl, join_asc (by decide +kernel) fun p hp => (pc p hp).1.sm⟩
    omega
  | mark nm v k =>
    have h : (lnZ nm && (isW 0 1000000 (.int v) && okK k)) = true := h
    rw [Bool.and_eq_true, Bool.and_eq_true] at h
    obtain ⟨h1, h2, h3⟩ := h
    obtain ⟨a, b⟩ := isW_i h2
    have l := (mkW_len (k := k)).2
    refine (ln_words (ws := [("mark" : Str), nm, sI v] ++ mkW k) (by simp) (by simp; omega) fun w hw => ?_).1
    rcases List.mem_append.mp hw with hw | hw
    · have hw : w = "mark" ∨ w = nm ∨ w = sI v := by simpa using hw
      rcases hw with e | e | e
      · rw [e]; exact Wk2.of (by decide +kernel)
      · rw [e]; exact wk2_name h1
      · rw [e]; exact wk2_num (by omega)
    · exact mk_words h3 w hw
theorem at_line {i : Int} (h : i.natAbs < 10 ^ 30) : Ln (atT i) ∧ (atT i).length ≤ 192 := ln_words (by simp) (by simp) (at_words h)
theorem mg_lines : ∀ {g : MG} {i : Nat}, i + g.length ≤ 1000 → (∀ ws ∈ g, ∀ w ∈ ws, okR w = true) → ∀ z ∈ mgL i g, Ln z
  | [], _, _, _, z, hz => by cases hz
  | ws :: g, i, hi, h, z, hz => by
    have hz : z = atT ((i : Nat) : Int) ∨ z ∈ ws.map wrT ∨ z ∈ mgL (i + 1) g := by simpa [mgL] using hz
    rcases hz with e | hz | hz
    · rw [e]
      exact (at_line (by omega)).1
    · obtain ⟨w, hw, rfl⟩ := List.mem_map.mp hz
      exact wr_line (h ws (.head _) w hw)
    · rw [List.length_cons] at hi
      exact mg_lines (i := i + 1) (by omega) (fun x hx => h x (.tail _ hx)) z hz
theorem okG.lines {g : MG} (h : okG g) : ∀ z ∈ mgL 1 g, Ln z := mg_lines (by have := h.l; omega) fun ws hw => (h.w ws hw).2
theorem mgL_len : ∀ {g : MG} {i : Nat}, (∀ ws ∈ g, ws.length ≤ 10) → (mgL i g).length ≤ 11 * g.length
  | [], _, _ => Nat.le_refl _
  | ws :: g, i, h => by
    have a := h ws (.head _)
    have b := mgL_len (g := g) (i := i + 1) fun x hx => h x (.tail _ hx)
    simp only [mgL, List.length_cons, List.length_append, List.length_map]
    omega
theorem okG.len {g : MG} (h : okG g) : (mgL 1 g).length ≤ 660 := by
  have a := mgL_len (g := g) (i := 1) fun ws hw => (h.w ws hw).1
  have := h.l
  omega
theorem okG.tlen {g : MG} (h : okG g) : (mgT g).length ≤ 2710000 := by
  have b := join_len (y := "\n") fun p hp => (h.lines p hp).lz
  have e1 : ("\n" : Str).length = 1 := by decide +kernel
  rw [e1] at b
  exact Nat.le_trans b (Nat.le_trans (Nat.mul_le_mul_right _ h.len) (by decide))
theorem okG.asc {g : MG} (h : okG g) : asA (mgT g) = true := join_asc (by decide +kernel) fun p hp => (h.lines p hp).sm
theorem okG.back {g : MG} (h : okG g) : linesZ (mgT g) = mgL 1 g := by
  unfold linesZ
  have hl := h.lines
  unfold mgT
  cases e : mgL 1 g with
  | nil => exact if_neg (by decide +kernel)
  | cons z r =>
    rw [e] at hl
    have h1 : 0 < (Txt.join "\n" (z :: r)).length := Nat.lt_of_lt_of_le (hl z (.head _)).l1 join_len1
    rw [if_pos h1]
    obtain ⟨S, e⟩ := nl_sep
    exact TL.split_join e (by decide +kernel) (by simp) fun p hp => (hl p hp).nl
/-! ### reading, line by line -/
def addW (g : MG) (w : WR) : MG := g.dropLast ++ [g.getLastD [] ++ [w]]
def stG (g : MG) (z : Str) : Option MG :=
  if (wrZ z).isSome ∧ g ≠ [] then (wrZ z).map (addW g) else if z = atT ((g.length + 1 : Nat) : Int) ∧ g.length < 60 then some (g ++ [[]]) else none
def rdG : MG → List Str → Option MG
  | g, [] => some g
  | g, z :: zs => (stG g z).bind fun g' => rdG g' zs
theorem rdG_app : ∀ (g : MG) (xs ys : List Str), rdG g (xs ++ ys) = (rdG g xs).bind fun g' => rdG g' ys
  | g, [], ys => rfl
  | g, x :: xs, ys => by
    show (stG g x).bind (fun g' => rdG g' (xs ++ ys)) = ((stG g x).bind fun g' => rdG g' xs).bind fun g' => rdG g' ys
    cases stG g x with
    | none => rfl
    | some g1 => exact rdG_app g1 xs ys
theorem addW_snoc (g : MG) (ws : List WR) (w : WR) : addW (g ++ [ws]) w = g ++ [ws ++ [w]] := by
  unfold addW
  simp
theorem rd_writes : ∀ (g : MG) (ws us : List WR) (zs : List Str), (∀ u ∈ us, okR u = true) → rdG (g ++ [ws]) (us.map wrT ++ zs) = rdG (g ++ [ws ++ us]) zs
  | g, ws, [], zs, _ => by simp
  | g, ws, u :: us, zs, h => by
    have e := wrZ_back (h u (.head _))
    have s : stG (g ++ [ws]) (wrT u) = some (g ++ [ws ++ [u]]) := by
      unfold stG
      rw [e, if_pos ⟨rfl, by simp⟩]
      show some (addW (g ++ [ws]) u) = _
      rw [addW_snoc]
    show (stG (g ++ [ws]) (wrT u)).bind (fun g' => rdG g' (us.map wrT ++ zs)) = _
    rw [s]
    show rdG (g ++ [ws ++ [u]]) (us.map wrT ++ zs) = _
    rw [rd_writes g (ws ++ [u]) us zs fun x hx => h x (.tail _ hx)]
    simp
theorem rd_all : ∀ (r g : MG), g.length + r.length ≤ 60 → (∀ ws ∈ r, ∀ w ∈ ws, okR w = true) → rdG g (mgL (g.length + 1) r) = some (g ++ r)
  | [], g, _, _ => by simp [mgL, rdG]
  | ws :: r, g, hl, h => by
    rw [List.length_cons] at hl
    have s : stG g (atT ((g.length + 1 : Nat) : Int)) = some (g ++ [[]]) := by
      unfold stG
      rw [wrZ_at (by omega), if_neg (fun x => by cases x.1), if_pos ⟨rfl, by omega⟩]
    show (stG g (atT ((g.length + 1 : Nat) : Int))).bind (fun g' => rdG g' (ws.map wrT ++ mgL (g.length + 1 + 1) r)) = _
    rw [s]
    show rdG (g ++ [[]]) (ws.map wrT ++ mgL (g.length + 1 + 1) r) = _
    rw [rd_writes g [] ws _ (h ws (.head _)), List.nil_append]
    have e : (g ++ [ws]).length = g.length + 1 := by simp
    have ih := rd_all r (g ++ [ws]) (by rw [e]; omega) fun x hx => h x (.tail _ hx)
    rw [e] at ih
    rw [ih]
    simp
theorem okG.read {g : MG} (h : okG g) : rdG [] (mgL 1 g) = some g := rd_all g [] (by have := h.l; simpa using this) fun ws hw => (h.w ws hw).2
/-- every step on the way is one -/
theorem rd_steps {g : MG} {ls : List Str} {e : MG} (h : rdG g ls = some e) {i : Nat} {z : Str} (hz : ls[i]? = some z) {gi : MG} (hi : rdG g (ls.take i) = some gi) :
    ∃ g', stG gi z = some g' ∧ rdG g (ls.take (i + 1)) = some g' := by
  have t : ls.take (i + 1) = ls.take i ++ [z] := by
    rw [List.take_succ, hz]
    rfl
  have e2 : rdG g (ls.take (i + 1)) = stG gi z := by
    rw [t, rdG_app, hi]
    show (stG gi z).bind (fun g' => some g') = _
    cases stG gi z <;> rfl
  have e3 : ls = ls.take (i + 1) ++ ls.drop (i + 1) := (List.take_append_drop _ _).symm
  rw [e3, rdG_app, e2] at h
  cases s : stG gi z with
  | none => rw [s] at h; cases h
  | some g' => exact ⟨g', rfl, by rw [e2, s]⟩
/-- unlike markings have unlike texts -/
theorem mgT_inj {g g' : MG} (h : okG g) (h' : okG g') (e : mgT g = mgT g') : g = g' := by
  have a := h.back
  rw [e, h'.back] at a
  have b := h.read
  rw [← a, h'.read] at b
  exact (Option.some.inj b).symm
def rTupOf (K : PySem.W.Frag) : List V → Hp → VK → Prop := fun xs H Q => ∃ p ys, xs = [.ref p] ∧ ((SqL K H p ys ∧ ∀ l, H l = none → Q (.ref l) (upd H l (.tup ys))) ∨ (SqT K H p ys ∧ Q (.ref p) H))
theorem call_tupOf {X : Cx} : CallR X (.type "tuple") (rTupOf X.K) := call_tuple_of
/-! ### all of tuples -/
theorem tO_mbs : ∀ ms : List MB, tOA (ms.map mbD) = true
  | [] => rfl
  | m :: ms => tO_mbs ms
theorem tO_wr (w : WR) : tO (wrD w) = true := by
  cases w with
  | set n ms =>
    show (true && (true && (tOA (ms.map mbD) && true))) = true
    rw [tO_mbs]
    rfl
  | mark nm v k => cases k <;> rfl
theorem tO_wrs : ∀ ws : List WR, tOA (ws.map wrD) = true
  | [] => rfl
  | w :: ws => by
    show (tO (wrD w) && tOA (ws.map wrD)) = true
    rw [tO_wr, tO_wrs]
    rfl
theorem tO_mgs : ∀ g : MG, tOA (g.map wsD) = true
  | [] => rfl
  | ws :: g => by
    show (tOA (ws.map wrD) && tOA (g.map wsD)) = true
    rw [tO_wrs, tO_mgs]
    rfl
theorem tO_mg (g : MG) : tO (mgD g) = true := tO_mgs g
end Rm

set_option maxRecDepth 100000
set_option maxHeartbeats 1000000
namespace Rm
open PySem PySem.Spec L2
open PyProof.Rows hiding St

/-! ### lists in a list, while a marking is read -/
def RdSt (K : PySem.W.Frag) (H0 : Hp) (p : Addr) (g : MG) (H : Hp) : Prop :=
  (∀ b u, H0 b = some u → b ≠ p → H b = some u) ∧ H0 p ≠ none ∧ ∃ ys : List Addr, H p = some (.lst (ys.map V.ref)) ∧ ys.Nodup ∧ ys.length = g.length ∧ (∀ y ∈ ys, H0 y = none) ∧
    ∀ (j : Nat) (y : Addr) (ws : List WR), ys[j]? = some y → g[j]? = some ws → ∃ vs, H y = some (.lst vs) ∧ DxAll K H vs (ws.map wrD)
theorem RdSt.up {K : PySem.W.Frag} {H0 H H' : Hp} {p : Addr} {g : MG} (h : RdSt K H0 p g H) (s : Same H H') : RdSt K H0 p g H' := by
  obtain ⟨fr, np, ys, hp, nd, ly, ny, hy⟩ := h
  refine ⟨fun b u e n => s _ _ (fr b u e n), np, ys, s _ _ hp, nd, ly, ny, fun j y ws a b => ?_⟩
  obtain ⟨vs, c, d⟩ := hy j y ws a b
  exact ⟨vs, s _ _ c, d.upR (.of s)⟩
theorem RdSt.new {K : PySem.W.Frag} {H0 H : Hp} {p nl : Addr} {g : MG} (h : RdSt K H0 p g H) (nn : H nl = none) :
    ∃ zs : List V, H p = some (.lst zs) ∧ zs.length = g.length ∧ p ≠ nl ∧ RdSt K H0 p (g ++ [[]]) (upd (upd H nl (.lst [])) p (.lst (zs ++ [.ref nl]))) := by
  obtain ⟨fr, np, ys, hp, nd, ly, ny, hy⟩ := h
  have pn : p ≠ nl := fun e => by rw [e, nn] at hp; cases hp
  have n0 : H0 nl = none := by
    cases e : H0 nl with
    | none => rfl
    | some u =>
      have := fr nl u e (Ne.symm pn)
      rw [nn] at this
      cases this
  have yp : ∀ y ∈ ys, y ≠ p := fun y m e => np (e ▸ ny y m)
  have yn : ∀ y ∈ ys, y ≠ nl := fun y m e => by
    obtain ⟨j, hj⟩ := List.getElem?_of_mem m
    obtain ⟨ws, hw⟩ : ∃ ws, g[j]? = some ws := by
      have := (List.getElem?_eq_some_iff.mp hj).1
      exact ⟨_, List.getElem?_eq_getElem (by omega)⟩
    obtain ⟨vs, c, _⟩ := hy j y ws hj hw
    rw [e, nn] at c
    cases c
  refine ⟨ys.map V.ref, hp, by rw [List.length_map, ly], pn, fun b u e n => ?_, np, ys ++ [nl], ?_, ?_, by rw [List.length_append, List.length_append, ly]; rfl, fun y m => ?_, fun j y ws a b => ?_⟩
  · rw [upd_ne n, upd_ne (fun e' => by rw [e', n0] at e; cases e)]
    exact fr b u e n
  · rw [upd_same, List.map_append]
    rfl
  · rw [List.nodup_append]
    exact ⟨nd, by simp, fun a ha b hb => by rw [List.mem_singleton.mp hb]; exact yn a ha⟩
  · rcases List.mem_append.mp m with m | m
    · exact ny y m
    · rw [List.mem_singleton.mp m]; exact n0
  · have k1 : TupK H (upd H nl (.lst [])) := .of (same_new nn)
    have hp2 : upd H nl (.lst []) p = some (.lst (ys.map V.ref)) := (upd_ne pn).trans hp
    have k2 : TupK (upd H nl (.lst [])) (upd (upd H nl (.lst [])) p (.lst (ys.map V.ref ++ [.ref nl]))) := TupK.put hp2 (fun _ e => by cases e) fun _ _ e => by cases e
    by_cases hj : j < ys.length
    · rw [List.getElem?_append_left hj] at a
      rw [List.getElem?_append_left (by omega)] at b
      obtain ⟨vs, c, d⟩ := hy j y ws a b
      have m := List.mem_of_getElem? a
      exact ⟨vs, by rw [upd_ne (yp y m), upd_ne (yn y m)]; exact c, dxa_keepT (k1.trans k2) (tO_wrs ws) d⟩
    · rw [List.getElem?_append_right (by omega)] at a
      rw [List.getElem?_append_right (by omega)] at b
      have ej : j - ys.length = 0 := by
        have := (List.getElem?_eq_some_iff.mp a).1
        simp at this
        omega
      rw [ej] at a
      rw [show j - g.length = 0 by omega] at b
      obtain rfl : nl = y := by simpa using a
      obtain rfl : ([] : List WR) = ws := by simpa using b
      exact ⟨[], by rw [upd_ne (Ne.symm pn), upd_same], .nil⟩
theorem RdSt.wr {K : PySem.W.Frag} {H0 H : Hp} {p : Addr} {g : MG} {ws : List WR} {w : WR} {x : V} (h : RdSt K H0 p (g ++ [ws]) H) (hx : Dx K H x (wrD w)) :
    ∃ (zs : List V) (y : Addr) (vs : List V), H p = some (.lst zs) ∧ zs.length = g.length + 1 ∧ atI zs (-1) = some (.ref y) ∧ H y = some (.lst vs) ∧ vs.length = ws.length ∧ RdSt K H0 p (g ++ [ws ++ [w]]) (upd H y (.lst (vs ++ [x]))) := by
  obtain ⟨fr, np, ys, hp, nd, ly, ny, hy⟩ := h
  rw [List.length_append, List.length_singleton] at ly
  obtain ⟨ys, y, rfl⟩ : ∃ a b, ys = a ++ [b] := by
    rcases List.eq_nil_or_concat ys with e | ⟨a, b, e⟩
    · rw [e] at ly; simp at ly
    · exact ⟨a, b, by rw [e, List.concat_eq_append]⟩
  rw [List.length_append, List.length_singleton] at ly
  have ly : ys.length = g.length := by omega
  obtain ⟨vs, hv, hd⟩ := hy ys.length y ws (by simp) (by rw [ly]; simp)
  have lv := dxa_len hd
  rw [List.length_map] at lv
  have yp : y ≠ p := fun e => np (e ▸ ny y (by simp))
  have k : TupK H (upd H y (.lst (vs ++ [x]))) := TupK.put hv (fun _ e => by cases e) fun _ _ e => by cases e
  refine ⟨_, y, vs, hp, by simp [ly], by rw [List.map_append]; exact atI_last _ _, hv, lv, fun b u e n => ?_, np, ys ++ [y], (upd_ne (Ne.symm yp)).trans hp, nd, by simp [ly], ny, fun j z us a b => ?_⟩
  · rw [upd_ne (fun e' => by rw [e', ny y (by simp)] at e; cases e)]
    exact fr b u e n
  · by_cases hj : j < ys.length
    · have a' := a
      rw [List.getElem?_append_left hj] at a'
      rw [List.getElem?_append_left (by omega)] at b
      obtain ⟨vs', c, d⟩ := hy j z us a (by rw [List.getElem?_append_left (by omega)]; exact b)
      have ne : z ≠ y := fun e => by
        rw [List.nodup_append] at nd
        exact nd.2.2 z (List.mem_of_getElem? a') y (by simp) e
      exact ⟨vs', by rw [upd_ne ne]; exact c, dxa_keepT k (tO_wrs us) d⟩
    · rw [List.getElem?_append_right (by omega)] at a
      rw [List.getElem?_append_right (by omega)] at b
      have ej : j - ys.length = 0 := by
        have := (List.getElem?_eq_some_iff.mp a).1
        simp at this
        omega
      rw [ej] at a
      rw [show j - g.length = 0 by omega] at b
      obtain rfl : y = z := by simpa using a
      obtain rfl : ws ++ [w] = us := by simpa using b
      refine ⟨_, upd_same, ?_⟩
      rw [List.map_append]
      refine dxa_keepT k ?_ (dxa_snoc hd hx)
      have := tO_wrs (ws ++ [w])
      rwa [List.map_append] at this
/-- one step: a write goes to the last list, or a new list begins -/
theorem st_cases {g g' : MG} {z : Str} (h : stG g z = some g') : (∃ w r ws, wrZ z = some w ∧ g = r ++ [ws] ∧ g' = r ++ [ws ++ [w]]) ∨ (¬ ((wrZ z).isSome ∧ g ≠ []) ∧ z = atT ((g.length + 1 : Nat) : Int) ∧ g.length < 60 ∧ g' = g ++ [[]]) := by
  unfold stG at h
  by_cases c : (wrZ z).isSome ∧ g ≠ []
  · rw [if_pos c] at h
    obtain ⟨w, ew⟩ := Option.isSome_iff_exists.mp c.1
    rw [ew] at h
    rcases List.eq_nil_or_concat g with e | ⟨r, ws, e⟩
    · exact (c.2 e).elim
    · subst e
      refine .inl ⟨w, r, ws, ew, by simp, ?_⟩
      rw [List.concat_eq_append] at h
      have h : some (addW (r ++ [ws]) w) = some g' := h
      rw [addW_snoc] at h
      exact (Option.some.inj h).symm
  · rw [if_neg c] at h
    by_cases d : z = atT ((g.length + 1 : Nat) : Int) ∧ g.length < 60
    · rw [if_pos d] at h
      exact .inr ⟨c, d.1, d.2, (Option.some.inj h).symm⟩
    · rw [if_neg d] at h
      cases h
end Rm

set_option maxRecDepth 100000
set_option maxHeartbeats 1000000
namespace Rm
open PySem PySem.Spec L2
open PyProof.Rows hiding St

/-! ### how large markings are -/
structure Wt (n k : Nat) (d : PyData) : Prop where
  sh : d.showable = true
  lv : d.leavesShort 31 = true
  wt : d.weight ≤ n
  dp : d.depth ≤ k
theorem Wt.mono {n k n' k' : Nat} {d : PyData} (h : Wt n k d) (a : n ≤ n') (b : k ≤ k') : Wt n' k' d := ⟨h.sh, h.lv, Nat.le_trans h.wt a, Nat.le_trans h.dp b⟩
theorem wt_all {n k : Nat} : ∀ {ds : List PyData}, (∀ d ∈ ds, Wt n k d) → PyData.showableAll ds = true ∧ PyData.leavesShortAll 31 ds = true ∧ PyData.weightAll ds ≤ (n + 1) * ds.length ∧ PyData.depthAll ds ≤ k
  | [], _ => ⟨by simp [PyData.showableAll], by simp [PyData.leavesShortAll], by simp [PyData.weightAll], by simp [PyData.depthAll]⟩
  | d :: ds, h => by
    obtain ⟨a, b, c, e⟩ := h d (.head _)
    obtain ⟨a', b', c', e'⟩ := wt_all (ds := ds) fun x m => h x (.tail _ m)
    simp only [PyData.showableAll, PyData.leavesShortAll, PyData.weightAll, PyData.depthAll, List.length_cons, a, b, a', b', Bool.and_self, true_and]
    rw [Nat.mul_add, Nat.mul_one]
    omega
theorem Wt.tup {n k : Nat} {ds : List PyData} (h : ∀ d ∈ ds, Wt n k d) : Wt ((n + 1) * ds.length) (k + 1) (.tuple ds) := by
  obtain ⟨a, b, c, e⟩ := wt_all h
  refine ⟨by simpa [PyData.showable] using a, by simpa [PyData.leavesShort] using b, ?_, ?_⟩
  · simp only [PyData.weight]; exact c
  · simp only [PyData.depth]; omega
theorem wt_int {i : Int} (h : i.natAbs ≤ 1000000) : Wt 20 0 (.int i) := by
  have hl : i.natAbs.log2 < 20 := by
    by_cases e : i.natAbs = 0
    · rw [e]; decide
    · exact (Nat.log2_lt e).2 (Nat.lt_of_le_of_lt h (by decide))
  have hi : i.natAbs < 10 ^ 30 := by omega
  refine ⟨?_, ?_, ?_, ?_⟩
  · simp only [PyData.showable]
    exact decide_eq_true (by omega)
  · simp only [PyData.leavesShort]
    refine decide_eq_true ?_
    have := (sI_len hi).2
    have e : (PyData.shown (.int i)) = sI i := by
      simp only [PyData.shown]
      rfl
    rw [e]
    omega
  · simp only [PyData.weight]
    split <;> omega
  · simp [PyData.depth]
theorem wt_str {z : Str} {n : Nat} (h : asA z = true) (hl : z.length ≤ n) : Wt n 0 (.str z) := by
  have e : z.cps.size = z.length := rfl
  refine ⟨rfl, asA_smC h, ?_, by simp [PyData.depth]⟩
  simp only [PyData.weight]
  omega
theorem wt_mb {m : MB} (h : okM m = true) : Wt 40 1 (mbD m) := by
  obtain ⟨a, b, c, d⟩ := okM_is h
  have l1 : m.word.length ≤ 7 ∧ asA m.word = true := by rcases c with e | e <;> rw [e] <;> decide +kernel
  have l2 : m.mode.length ≤ 7 ∧ asA m.mode = true := by rcases d with e | e | e | e <;> rw [e] <;> decide +kernel
  have w1 := wt_int (i := m.part) (by omega)
  have w2 := wt_str l1.2 l1.1
  have w3 := wt_str l2.2 l2.1
  refine ⟨?_, ?_, ?_, ?_⟩
  · simp [mbD, mbL, PyData.showable, PyData.showableAll, w1.sh, w2.sh, w3.sh]
    simpa [PyData.showable] using w1.sh
  · simp only [mbD, mbL, PyData.leavesShort, PyData.leavesShortAll, Bool.and_true, Bool.and_eq_true]
    exact ⟨by simpa only [PyData.leavesShort] using w1.lv, by simpa only [PyData.leavesShort] using w2.lv, by simpa only [PyData.leavesShort] using w3.lv⟩
  · have a1 := w1.wt
    have a2 := w2.wt
    have a3 := w3.wt
    simp only [mbD, mbL, PyData.weight, PyData.weightAll] at a1 a2 a3 ⊢
    omega
  · simp [mbD, mbL, PyData.depth, PyData.depthAll]
theorem wt_mbs {ms : List MB} (h : ∀ m ∈ ms, okM m = true) (l : ms.length ≤ 40) : Wt 1640 2 (.tuple (ms.map mbD)) := by
  have w := Wt.tup (ds := ms.map mbD) (n := 40) (k := 1) fun d hd => by
    obtain ⟨m, hm, rfl⟩ := List.mem_map.mp hd
    exact wt_mb (h m hm)
  rw [List.length_map] at w
  exact w.mono (Nat.le_trans (Nat.mul_le_mul_left _ l) (by decide)) (by decide)
theorem wt_tup3 {a b c : PyData} {x y z k : Nat} (ha : Wt x k a) (hb : Wt y k b) (hc : Wt z k c) : Wt (x + y + z + 3) (k + 1) (.tuple [a, b, c]) := by
  obtain ⟨a1, a2, a3, a4⟩ := ha
  obtain ⟨b1, b2, b3, b4⟩ := hb
  obtain ⟨c1, c2, c3, c4⟩ := hc
  refine ⟨?_, ?_, ?_, ?_⟩
  · simp only [PyData.showable, PyData.showableAll, a1, b1, c1, Bool.and_self]
  · simp only [PyData.leavesShort, PyData.leavesShortAll, a2, b2, c2, Bool.and_self]
  · simp only [PyData.weight, PyData.weightAll]; omega
  · simp only [PyData.depth, PyData.depthAll]; omega
theorem wt_tup4 {a b c d : PyData} {x y z u k : Nat} (ha : Wt x k a) (hb : Wt y k b) (hc : Wt z k c) (hd : Wt u k d) : Wt (x + y + z + u + 4) (k + 1) (.tuple [a, b, c, d]) := by
  obtain ⟨a1, a2, a3, a4⟩ := ha
  obtain ⟨b1, b2, b3, b4⟩ := hb
  obtain ⟨c1, c2, c3, c4⟩ := hc
  obtain ⟨d1, d2, d3, d4⟩ := hd
  refine ⟨?_, ?_, ?_, ?_⟩
  · simp only [PyData.showable, PyData.showableAll, a1, b1, c1, d1, Bool.and_self]
  · simp only [PyData.leavesShort, PyData.leavesShortAll, a2, b2, c2, d2, Bool.and_self]
  · simp only [PyData.weight, PyData.weightAll]; omega
  · simp only [PyData.depth, PyData.depthAll]; omega
theorem wt_mk {k : MK} (h : okK k = true) : Wt 40 1 (mkD k) := by
  cases k with
  | none => exact ⟨rfl, rfl, by simp [mkD, PyData.weight], by simp [mkD, PyData.depth]⟩
  | num n =>
    obtain ⟨a, b⟩ := isW_i h
    exact (wt_int (i := n) (by omega)).mono (by decide) (by decide)
  | mem m => exact wt_mb h
theorem wt_wr {w : WR} (h : okR w = true) : Wt 1670 3 (wrD w) := by
  cases w with
  | set n ms =>
    have h : (isW 1 1000000 (.int n) && (decide (ms.length ≤ 40) && (decide ms.Nodup && ms.all okM))) = true := h
    rw [Bool.and_eq_true, Bool.and_eq_true, Bool.and_eq_true] at h
    obtain ⟨h1, h2, _, h4⟩ := h
    obtain ⟨a, b⟩ := isW_i h1
    have w1 : Wt 3 2 (.str "set") := (wt_str (n := 3) (by decide +kernel) (by decide +kernel)).mono (by decide) (by decide)
    exact (wt_tup3 w1 ((wt_int (i := n) (by omega)).mono (Nat.le_refl _) (by decide)) (wt_mbs (List.all_eq_true.mp h4) (of_decide_eq_true h2))).mono (by decide) (by decide)
  | mark nm v k =>
    have h : (lnZ nm && (isW 0 1000000 (.int v) && okK k)) = true := h
    rw [Bool.and_eq_true, Bool.and_eq_true] at h
    obtain ⟨h1, h2, h3⟩ := h
    obtain ⟨a, b⟩ := isW_i h2
    have w1 : Wt 4 1 (.str "mark") := (wt_str (n := 4) (by decide +kernel) (by decide +kernel)).mono (by decide) (by decide)
    have w2 : Wt 31 1 (.str nm) := (wt_str (wk_name h1).sm (wk_name h1).l31).mono (by decide) (by decide)
    exact (wt_tup4 w1 w2 ((wt_int (i := v) (by omega)).mono (Nat.le_refl _) (by decide)) (wt_mk h3)).mono (by decide) (by decide)
theorem wt_ws {ws : List WR} {n : Nat} (h : ∀ w ∈ ws, okR w = true) (l : ws.length ≤ n) : Wt (1671 * n) 4 (wsD ws) := by
  have w := Wt.tup (ds := ws.map wrD) (n := 1670) (k := 3) fun d hd => by
    obtain ⟨m, hm, rfl⟩ := List.mem_map.mp hd
    exact wt_wr (h m hm)
  rw [List.length_map] at w
  exact w.mono (Nat.mul_le_mul_left _ l) (Nat.le_refl _)
theorem smB_mg {g : MG} (h : okG g) (l : ∀ ws ∈ g, ws.length ≤ 3) : SmB (mgD g) := by
  have w := Wt.tup (ds := g.map wsD) (n := 1671 * 3) (k := 4) fun d hd => by
    obtain ⟨m, hm, rfl⟩ := List.mem_map.mp hd
    exact wt_ws (h.w m hm).2 (l m hm)
  rw [List.length_map] at w
  have w2 := w.mono (Nat.mul_le_mul_left _ h.l) (Nat.le_refl _)
  have h1 := PyData.shown_le 31 (by decide) (mgD g) w2.lv
  have h2 := w2.wt
  refine ⟨w2.sh, ?_, Nat.le_trans w2.dp (by decide)⟩
  rw [sizeLine_eq]
  unfold mgD at h1 ⊢
  omega
theorem smB_text {z : Str} (h : asA z = true) (l : z.length ≤ 1000000) : SmB (.str z) := by
  have e : z.cps.size = z.length := rfl
  have h1 := PyData.shown_le 8 (by decide) (.str z) (asA_smC h)
  have h2 : PyData.weight (.str z) ≤ 1000000 := by
    simp only [PyData.weight]
    omega
  refine ⟨rfl, ?_, by simp [PyData.depth]⟩
  rw [sizeLine_eq]
  omega
theorem mgL_len3 : ∀ {g : MG} {i : Nat}, (∀ ws ∈ g, ws.length ≤ 3) → (mgL i g).length ≤ 4 * g.length
  | [], _, _ => Nat.le_refl _
  | ws :: g, i, h => by
    have a := h ws (.head _)
    have b := mgL_len3 (g := g) (i := i + 1) fun x hx => h x (.tail _ hx)
    simp only [mgL, List.length_cons, List.length_append, List.length_map]
    omega
theorem okG.tlen3 {g : MG} (h : okG g) (l : ∀ ws ∈ g, ws.length ≤ 3) : (mgT g).length ≤ 1000000 := by
  have b := join_len (y := "\n") fun p hp => (h.lines p hp).lz
  have e1 : ("\n" : Str).length = 1 := by decide +kernel
  rw [e1] at b
  have c := mgL_len3 (g := g) (i := 1) l
  have d := h.l
  exact Nat.le_trans b (Nat.le_trans (Nat.mul_le_mul_right _ (show (mgL 1 g).length ≤ 240 by omega)) (by decide))
theorem smB_mgT {g : MG} (h : okG g) (l : ∀ ws ∈ g, ws.length ≤ 3) : SmB (.str (mgT g)) := smB_text h.asc (h.tlen3 l)
end Rm

set_option maxRecDepth 100000
set_option maxHeartbeats 1000000
namespace Rm
open PySem PySem.Spec L2
open PyProof.Rows hiding St

/-! ### a write, read from the front -/
theorem spl_pre (s : Nat) (S : List Nat) : ∀ (a acc r : List Nat), s ∉ a → TL.spl (s :: S) 0 acc (a ++ r) = TL.spl (s :: S) 0 (acc ++ a) r
  | [], acc, r, _ => by simp
  | c :: a, acc, r, h => by
    have hc : c ≠ s := fun e => h (by simp [e])
    have m : TL.pre (s :: S) (c :: (a ++ r)) = false := TL.pre_of_head S _ hc
    rw [List.cons_append, TL.spl_miss m, spl_pre s S a (acc ++ [c]) r fun x => h (.tail _ x)]
    simp
theorem spl_acc (S : List Nat) : ∀ (l : List Nat) (k : Nat) (a acc h : List Nat) (t : List (List Nat)), TL.spl S k acc l = h :: t → TL.spl S k (a ++ acc) l = (a ++ h) :: t
  | [], k, a, acc, h, t, e => by
    rw [TL.spl_nil] at e ⊢
    cases e
    rfl
  | c :: r, 0, a, acc, h, t, e => by
    by_cases m : TL.pre S (c :: r) = true
    · rw [TL.spl_hit m] at e ⊢
      cases e
      rfl
    · have m : TL.pre S (c :: r) = false := by simpa using m
      rw [TL.spl_miss m] at e ⊢
      have := spl_acc S r 0 a (acc ++ [c]) h t e
      rw [List.append_assoc]
      exact this
  | c :: r, k + 1, a, acc, h, t, e => spl_acc S r k a acc h t e
theorem tl_inj {a b : Str} (h : TL.tl a = TL.tl b) : a = b := str_ext h
theorem map_tl_inj : ∀ {l l' : List Str}, l.map TL.tl = l'.map TL.tl → l = l'
  | [], [], _ => rfl
  | [], _ :: _, h => by simp at h
  | _ :: _, [], h => by simp at h
  | a :: l, b :: l', h => by
    simp only [List.map_cons, List.cons.injEq] at h
    rw [tl_inj h.1, map_tl_inj h.2]
theorem spl_of {y : Str} {s : Nat} {S : List Nat} (e : TL.tl y = s :: S) (hk : (y.cps.all fun x => decide (x < 256)) = true) (z : Str) : (Txt.split z y).map TL.tl = TL.spl (s :: S) 0 [] (TL.tl z) := by
  have := TL.split_spl z y (by rw [e]; simp) (TL.kind_ok hk)
  rwa [e] at this
/-- what stands ahead and bears no sign of the separator's first goes with the first piece -/
theorem split_pre {a y z : Str} {s : Nat} {S : List Nat} (e : TL.tl y = s :: S) (hk : (y.cps.all fun x => decide (x < 256)) = true) (ha : s ∉ TL.tl a) {h : Str} {t : List Str} (hz : Txt.split z y = h :: t) : Txt.split (a ++ z) y = (a ++ h) :: t := by
  apply map_tl_inj
  have e1 := spl_of e hk z
  rw [hz] at e1
  rw [spl_of e hk, TL.tl_append, spl_pre s S _ _ _ ha, List.nil_append]
  have e2 := spl_acc (s :: S) (TL.tl z) 0 (TL.tl a) [] (TL.tl h) (t.map TL.tl) e1.symm
  rw [List.append_nil] at e2
  rw [e2, List.map_cons, TL.tl_append]
theorem split_word {p z : Str} (hp : 32 ∉ TL.tl p) : Txt.split (p ++ " " ++ z) " " = p :: Txt.split z " " := by
  obtain ⟨S, e⟩ := sp_sep
  have e' : TL.tl (" " : Str) = [32] := by decide +kernel
  apply map_tl_inj
  rw [spl_of e' (by decide +kernel), TL.tl_append, TL.tl_append, e', List.append_assoc, List.map_cons, spl_of e' (by decide +kernel)]
  have h := TL.spl_part (S := [32]) (p := TL.tl p) (rest := TL.tl z) (acc := []) (by simp) fun i hi => by
    obtain ⟨c, r, e2⟩ : ∃ c r, (TL.tl p ++ ([32] ++ TL.tl z)).drop i = c :: r ∧ c ∈ TL.tl p := by
      rw [List.drop_append_of_le_length (by omega), List.drop_eq_getElem_cons hi]
      exact ⟨_, _, rfl, List.getElem_mem hi⟩
    rw [e2.1]
    exact TL.pre_of_head [] r fun h => hp (h ▸ e2.2)
  simpa using h
theorem num_no {w : Str} {v : Int} {c : Nat} (h : numZ w = some v) (hc : c < 45 ∨ 57 < c) : c ∉ TL.tl w := by
  obtain ⟨_, e⟩ := num_abs h
  rw [← e]
  exact sI_free hc
theorem rng_num (lo hi : Int) (w : Str) : rng lo hi (numZ w) = numB lo hi w := by
  unfold rng numB
  cases numZ w with
  | none => rfl
  | some v =>
    show (if (decide (lo ≤ v) && decide (v ≤ hi)) = true then some v else none) = if lo ≤ v ∧ v ≤ hi then some v else none
    by_cases h : lo ≤ v ∧ v ≤ hi
    · rw [if_pos h, if_pos (by rw [decide_eq_true h.1, decide_eq_true h.2]; rfl)]
    · rw [if_neg h, if_neg fun x => h (by simpa using x)]
theorem set_free : 32 ∉ TL.tl ("set" : Str) ∧ 44 ∉ TL.tl ("set " : Str) ∧ ("set " : Str) = ("set" : Str) ++ (" " : Str) := by decide +kernel
theorem spl_free (s : Nat) : ∀ (l acc : List Nat), s ∉ acc → ∀ p ∈ TL.spl [s] 0 acc l, s ∉ p
  | [], acc, h, p, hp => by
    rw [TL.spl_nil] at hp
    rw [List.mem_singleton.mp hp]
    exact h
  | c :: r, acc, h, p, hp => by
    by_cases m : TL.pre [s] (c :: r) = true
    · rw [TL.spl_hit m] at hp
      rcases List.mem_cons.mp hp with e | hp
      · rw [e]; exact h
      · exact spl_free s r [] (by simp) p hp
    · have m : TL.pre [s] (c :: r) = false := by simpa using m
      rw [TL.spl_miss m] at hp
      have hc : s ≠ c := fun e => by
        rw [← e] at m
        have := TL.pre_self [s] r
        rw [List.singleton_append, m] at this
        cases this
      exact spl_free s r (acc ++ [c]) (by simp [h, hc]) p hp
theorem split_free {z p : Str} (hp : p ∈ Txt.split z " ") : 32 ∉ TL.tl p := by
  have e' : TL.tl (" " : Str) = [32] := by decide +kernel
  have h := spl_of e' (by decide +kernel) z
  have m : TL.tl p ∈ (Txt.split z " ").map TL.tl := List.mem_map_of_mem hp
  rw [h] at m
  exact spl_free 32 _ [] (by simp) _ m
theorem split_rest {z : Str} {r : List Str} (h : ∀ p ∈ r, p ∈ Txt.split z " ") (ne : r ≠ []) : Txt.split (Txt.join " " r) " " = r :=
  TL.split_join (y := " ") (by decide +kernel : TL.tl (" " : Str) = 32 :: []) (by decide +kernel) ne fun p hp => split_free (h p hp)
/-- a line that begins with 'set ' -/
theorem wrZ_set {y h : Str} {ms : List Str} (e : Txt.split y ", " = h :: ms) :
    wrZ (("set " : Str) ++ y) = (numB 1 1000000 h).bind fun n => (allS (ms.map fun m => mbZ (Txt.split m " "))).bind fun l => if decide (l.length ≤ 40) && decide l.Nodup then some (.set n l) else none := by
  have co : TL.tl (", " : Str) = 44 :: [32] := by decide +kernel
  have e1 := split_pre (a := "set ") co (by decide +kernel) set_free.2.1 e
  have e2 : Txt.split (("set " : Str) ++ h) " " = ("set" : Str) :: Txt.split h " " := by
    rw [set_free.2.2]
    exact split_word set_free.1
  unfold wrZ
  rw [e1]
  dsimp only
  rw [e2]
  dsimp only
  by_cases l : (Txt.split h " ").length = 1
  · obtain ⟨h', eh⟩ : ∃ h', Txt.split h " " = [h'] := by
      match Txt.split h " ", l with
      | [x], _ => exact ⟨x, rfl⟩
    have hh : h' = h := by
      have b := split_back h " "
      rw [eh, join_one] at b
      exact b
    rw [if_pos ⟨rfl, l⟩, eh, hh]
    show setZ (numZ h) _ = _
    unfold setZ
    rw [rng_num]
  · rw [if_neg fun x => l x.2, if_neg fun x => absurd x.1 (by decide +kernel)]
    have n : numB 1 1000000 h = none := by
      cases en : numZ h with
      | none => unfold numB; rw [en]
      | some v =>
        have f := num_no en (c := 32) (by decide)
        have : Txt.split h " " = [h] := by
          have := TL.split_join (parts := [h]) (y := " ") (by decide +kernel : TL.tl (" " : Str) = 32 :: []) (by decide +kernel) (by simp) fun p hp => by rw [List.mem_singleton.mp hp]; exact f
          rwa [join_one] at this
        rw [this] at l
        exact absurd rfl l
    rw [n]
    rfl
/-- a line that does not -/
def markL : List Str → Option WR
  | w :: nm :: v :: r => if w = "mark" ∧ r ≠ [] then markZ nm (numZ v) r else none
  | _ => none
theorem mbZ_free {ws : List Str} {m : MB} (h : mbZ ws = some m) : ∀ w ∈ ws, 44 ∉ TL.tl w := by
  match ws, h with
  | [a, b, c], h =>
    have h : (numZ a).bind (fun p => if okM ⟨p, b, c⟩ = true then some (⟨p, b, c⟩ : MB) else none) = some m := h
    cases e : numZ a with
    | none => rw [e] at h; cases h
    | some p =>
      rw [e, Option.bind_some] at h
      by_cases k : okM ⟨p, b, c⟩ = true
      · intro w hw
        have hw : w = a ∨ w = b ∨ w = c := by simpa using hw
        rcases hw with rfl | rfl | rfl
        · exact num_no e (by decide)
        · exact (mb_words k w (by simp [mbL, wD])).co
        · exact (mb_words k w (by simp [mbL, wD])).co
      · rw [if_neg k] at h; cases h
theorem mkZ_free {ws : List Str} {k : MK} (h : mkZ ws = some k) : ∀ w ∈ ws, 44 ∉ TL.tl w := by
  have f1 : 44 ∉ TL.tl ("none" : Str) := by decide +kernel
  have f2 : 44 ∉ TL.tl ("set" : Str) := by decide +kernel
  unfold mkZ at h
  by_cases a : ws = [("none" : Str)]
  · intro w hw
    rw [a] at hw
    rw [List.mem_singleton.mp hw]
    exact f1
  rw [if_neg a] at h
  by_cases b : ws[0]? = some ("set" : Str) ∧ ws.length = 2
  · rw [if_pos b] at h
    obtain ⟨x, y, rfl⟩ : ∃ x y, ws = [x, y] := by
      match ws, b.2 with
      | [x, y], _ => exact ⟨x, y, rfl⟩
    have ex : x = "set" := by simpa using b.1
    have h : (rng 1 1000000 (numZ y)).map MK.num = some k := h
    cases e : numZ y with
    | none => rw [e] at h; cases h
    | some v =>
      intro w hw
      have hw : w = x ∨ w = y := by simpa using hw
      rcases hw with rfl | rfl
      · rw [ex]; exact f2
      · exact num_no e (by decide)
  · rw [if_neg b] at h
    cases e : mbZ ws with
    | none => rw [e] at h; cases h
    | some m => exact mbZ_free e
theorem markL_free {ws : List Str} {w : WR} (h : markL ws = some w) : ∀ u ∈ ws, 44 ∉ TL.tl u := by
  match ws, h with
  | w0 :: nm :: v :: r, h =>
    have h : (if w0 = "mark" ∧ r ≠ [] then markZ nm (numZ v) r else none) = some w := h
    by_cases c : w0 = "mark" ∧ r ≠ []
    · rw [if_pos c] at h
      unfold markZ at h
      by_cases n : lnZ nm = true
      · rw [if_pos n] at h
        cases ev : numZ v with
        | none => rw [ev] at h; cases h
        | some i =>
          cases ek : mkZ r with
          | none =>
            rw [ek] at h
            cases e2 : rng 0 1000000 (numZ v) with
            | none => rw [e2] at h; cases h
            | some j => rw [e2] at h; cases h
          | some k =>
            intro u hu
            have hu : u = w0 ∨ u = nm ∨ u = v ∨ u ∈ r := by simpa using hu
            rcases hu with rfl | rfl | rfl | hu
            · rw [c.1]; decide +kernel
            · exact (wk2_name n).co
            · exact num_no ev (by decide)
            · exact mkZ_free ek u hu
      · rw [if_neg n] at h; cases h
    · rw [if_neg c] at h; cases h
theorem cut_set (y : Str) : cutS (("set " : Str) ++ y) none (some 4) = "set " := by
  have e4 : (TL.tl ("set " : Str)).length = 4 := by decide +kernel
  have l : (("set " : Str) ++ y).length = 4 + y.length := by
    rw [len_app]
    have : ("set " : Str).length = 4 := by decide +kernel
    rw [this]
  apply tl_inj
  have i1 : HT.sIx (("set " : Str) ++ y).length (("set " : Str) ++ y).length (some (4 : Int)) = 4 := by
    have := HT.sIx_nat (("set " : Str) ++ y).length (("set " : Str) ++ y).length 4
    rw [show ((4 : Nat) : Int) = 4 from rfl] at this
    rw [this, l]
    omega
  have i0 : HT.sIx (("set " : Str) ++ y).length 0 none = 0 := rfl
  unfold cutS
  rw [i1, i0, TL.tl_mk, List.drop_zero, Nat.sub_zero]
  show (TL.tl (("set " : Str) ++ y)).take 4 = _
  rw [TL.tl_append, ← e4, List.take_left]
theorem wrZ_mark {z : Str} (n : cutS z none (some 4) ≠ "set ") : wrZ z = markL (Txt.split z " ") := by
  obtain ⟨hd, ms, e1⟩ := List.exists_cons_of_ne_nil (fun e => by
    have h := split_back z ", "
    rw [e] at h
    have e2 : Txt.join ", " [] = "" := by decide +kernel
    rw [e2] at h
    rw [← h] at e
    exact absurd e (by decide +kernel) : Txt.split z ", " ≠ [])
  obtain ⟨w, rest, e2⟩ := List.exists_cons_of_ne_nil (split_ne (z := hd) sep_sp)
  have ns : ¬ (w = "set" ∧ rest.length = 1) := fun h => by
    obtain ⟨x, rfl⟩ : ∃ x, rest = [x] := by
      match rest, h.2 with
      | [x], _ => exact ⟨x, rfl⟩
    have b := split_back hd " "
    rw [e2, h.1] at b
    have b1 : Txt.join " " [("set" : Str), x] = ("set " : Str) ++ x := by
      rw [TL.join_eq]
      show ("set" : Str) ++ " " ++ x = _
      rw [← set_free.2.2]
    rw [b1] at b
    have bz := split_back z ", "
    rw [e1, ← b] at bz
    have : ∃ y, z = ("set " : Str) ++ y := by
      cases ms with
      | nil => exact ⟨x, by rw [← bz, join_one]⟩
      | cons m ms =>
        refine ⟨x ++ ", " ++ Txt.join ", " (m :: ms), ?_⟩
        rw [← bz, TL.join_eq, TL.join_eq]
        show (("set " : Str) ++ x) ++ ", " ++ Str.join ", " (m :: ms) = _
        apply tl_inj
        simp only [TL.tl_append, List.append_assoc]
    obtain ⟨y, ey⟩ := this
    rw [ey] at n
    exact n (cut_set y)
  unfold wrZ
  rw [e1]
  dsimp only
  rw [e2]
  dsimp only
  rw [if_neg ns]
  by_cases m0 : ms.length = 0
  · have m0 : ms = [] := List.length_eq_zero_iff.mp m0
    subst m0
    have bz := split_back z ", "
    rw [e1, join_one] at bz
    rw [← bz, e2]
    match rest with
    | [] => rw [if_neg fun h => by have := h.2.1; simp at this]; rfl
    | [_] => rw [if_neg fun h => by have := h.2.1; simp at this]; rfl
    | nm :: v :: r =>
      show (if w = "mark" ∧ (nm :: v :: r).length > 2 ∧ ([] : List Str).length = 0 then markZ nm (numZ v) r else none) = if w = "mark" ∧ r ≠ [] then markZ nm (numZ v) r else none
      by_cases c : w = "mark" ∧ r ≠ []
      · have l2 : (nm :: v :: r).length > 2 := by
          have := List.length_pos_iff.mpr c.2
          simp only [List.length_cons]
          omega
        rw [if_pos c, if_pos ⟨c.1, l2, rfl⟩]
      · rw [if_neg c, if_neg fun h => c ⟨h.1, fun e => by have := h.2.1; rw [e] at this; simp at this⟩]
  · rw [if_neg fun h => m0 h.2.2]
    cases em : markL (Txt.split z " ") with
    | none => rfl
    | some r =>
      have f := markL_free em
      have z44 : 44 ∉ TL.tl z := fun m => by
        have bz := split_back z " "
        rw [← bz] at m
        rcases join_mem m with m | ⟨p, hp, m⟩
        · have := sp_of m
          omega
        · exact f p hp m
      have := co_one z44
      rw [e1] at this
      cases this
      exact absurd rfl m0
end Rm

set_option maxRecDepth 100000
set_option maxHeartbeats 1000000
namespace Rm
open PySem PySem.Spec L2
open PyProof.Rows hiding St

/-! ### how long a written line is -/
theorem sI_len7 {i : Int} (h0 : 0 ≤ i) (h : i ≤ 1000000) : (sI i).length ≤ 7 := by
  obtain ⟨m, rfl⟩ := Int.eq_ofNat_of_zero_le h0
  have e : (sI (m : Int)).length = (TL.numL m).length := by
    show (sI (m : Int)).cps.toList.length = _
    rw [tl_sI]
  rw [e]
  exact TL.numL_len (by decide) (Nat.lt_of_le_of_lt (show m ≤ 1000000 by omega) (by decide))
theorem mb_len {m : MB} (h : okM m = true) : (mbT m).length ≤ 23 := by
  obtain ⟨a, b, c, d⟩ := okM_is h
  have l0 := sI_len7 (i := m.part) (by omega) (by omega)
  have l1 : m.word.length ≤ 7 := by rcases c with e | e <;> rw [e] <;> decide +kernel
  have l2 : m.mode.length ≤ 7 := by rcases d with e | e | e | e <;> rw [e] <;> decide +kernel
  have b := join_len (y := " ") (n := 7) (ps := (mbL m).map wD) fun w hw => by
    have hw : w = sI m.part ∨ w = m.word ∨ w = m.mode := by simpa [mbL, wD] using hw
    rcases hw with rfl | rfl | rfl <;> assumption
  have e : (mbT m).length = (sI m.part).length + 1 + (m.word.length + 1 + m.mode.length) := by
    show (Txt.join " " [sI m.part, m.word, m.mode]).length = _
    rw [TL.join_eq]
    show ((sI m.part ++ " ") ++ ((m.word ++ " ") ++ m.mode)).length = _
    simp only [len_app]
    have e1 : (" " : Str).length = 1 := by decide +kernel
    rw [e1]
  omega
theorem wr_len {w : WR} (h : okR w = true) : (wrT w).length ≤ 1100 := by
  have e1 : (" " : Str).length = 1 := by decide +kernel
  have e2 : (", " : Str).length = 2 := by decide +kernel
  cases w with
  | set n ms =>
    have h : (isW 1 1000000 (.int n) && (decide (ms.length ≤ 40) && (decide ms.Nodup && ms.all okM))) = true := h
    rw [Bool.and_eq_true, Bool.and_eq_true, Bool.and_eq_true] at h
    obtain ⟨h1, h2, h3, h4⟩ := h
    have h2 := of_decide_eq_true h2
    obtain ⟨a, b⟩ := isW_i h1
    have l0 := sI_len7 (i := n) (by omega) (by omega)
    have hd : (Txt.join " " [("set" : Str), sI n]).length ≤ 11 := by
      rw [TL.join_eq]
      show (("set" : Str) ++ " " ++ sI n).length ≤ 11
      have e3 : ("set" : Str).length = 3 := by decide +kernel
      rw [len_app, len_app, e1, e3]
      omega
    have b := join_len (y := ", ") (n := 23) (ps := Txt.join " " [("set" : Str), sI n] :: ms.map mbT) fun p hp => by
      rcases List.mem_cons.mp hp with e | hp
      · rw [e]; omega
      · obtain ⟨m, hm, rfl⟩ := List.mem_map.mp hp
        exact mb_len (List.all_eq_true.mp h4 m hm)
    rw [e2, List.length_cons, List.length_map] at b
    refine Nat.le_trans b ?_
    omega
  | mark nm v k =>
    have h : (lnZ nm && (isW 0 1000000 (.int v) && okK k)) = true := h
    rw [Bool.and_eq_true, Bool.and_eq_true] at h
    obtain ⟨h1, h2, h3⟩ := h
    obtain ⟨a, b⟩ := isW_i h2
    have l := (mkW_len (k := k)).2
    have ln := (ln_words (ws := [("mark" : Str), nm, sI v] ++ mkW k) (by simp) (by simp; omega) fun w hw => by
      rcases List.mem_append.mp hw with hw | hw
      · have hw : w = "mark" ∨ w = nm ∨ w = sI v := by simpa using hw
        rcases hw with e | e | e
        · rw [e]; exact Wk2.of (by decide +kernel)
        · rw [e]; exact wk2_name h1
        · rw [e]; exact wk2_num (by omega)
      · exact mk_words h3 w hw).2
    exact Nat.le_trans ln (by decide)
theorem mg_len : ∀ {g : MG} {i : Nat}, i + g.length ≤ 1000 → (∀ ws ∈ g, ∀ w ∈ ws, okR w = true) → ∀ z ∈ mgL i g, z.length ≤ 1100
  | [], _, _, _, z, hz => by cases hz
  | ws :: g, i, hi, h, z, hz => by
    have hz : z = Rm.atT ((i : Nat) : Int) ∨ z ∈ ws.map wrT ∨ z ∈ mgL (i + 1) g := by simpa [mgL] using hz
    rcases hz with e | hz | hz
    · rw [e]
      exact Nat.le_trans (at_line (by omega)).2 (by decide)
    · obtain ⟨w, hw, rfl⟩ := List.mem_map.mp hz
      exact wr_len (h ws (.head _) w hw)
    · rw [List.length_cons] at hi
      exact mg_len (i := i + 1) (by omega) (fun x hx => h x (.tail _ hx)) z hz
/-- the text of a few operations -/
theorem okG.tlenS {g : MG} (h : okG g) (l : ∀ ws ∈ g, ws.length ≤ 3) : (mgT g).length ≤ 4 * g.length * 1101 := by
  have b := join_len (y := "\n") fun p hp => mg_len (g := g) (i := 1) (by have := h.l; omega) (fun ws hw => (h.w ws hw).2) p hp
  have e1 : ("\n" : Str).length = 1 := by decide +kernel
  rw [e1] at b
  exact Nat.le_trans b (Nat.mul_le_mul_right _ (mgL_len3 l))
/-! ### what is read is right -/
theorem allS_okM {os : List (Option MB)} {l : List MB} (h : ∀ m, some m ∈ os → okM m = true) (e : allS os = some l) : ∀ m ∈ l, okM m = true := by
  induction os generalizing l with
  | nil => cases e; intro m hm; cases hm
  | cons o os ih =>
    cases o with
    | none => cases e
    | some a =>
      have e : (allS os).map (a :: ·) = some l := e
      cases e2 : allS os with
      | none => rw [e2] at e; cases e
      | some l' =>
        rw [e2] at e
        cases e
        intro m hm
        rcases List.mem_cons.mp hm with rfl | hm
        · exact h _ (.head _)
        · exact ih (fun m hm => h m (.tail _ hm)) e2 m hm
theorem mbZ_okM {ws : List Str} {m : MB} (h : mbZ ws = some m) : okM m = true := by
  match ws, h with
  | [a, b, c], h =>
    have h : (numZ a).bind (fun p => if okM ⟨p, b, c⟩ = true then some (⟨p, b, c⟩ : MB) else none) = some m := h
    cases e : numZ a with
    | none => rw [e] at h; cases h
    | some p =>
      rw [e, Option.bind_some] at h
      by_cases k : okM ⟨p, b, c⟩ = true
      · rw [if_pos k] at h; cases h; exact k
      · rw [if_neg k] at h; cases h
theorem rng_isW {lo hi n : Int} {o : Option Int} (h : rng lo hi o = some n) : isW lo hi (.int n) = true := by
  unfold rng at h
  cases o with
  | none => cases h
  | some v =>
    rw [Option.bind_some] at h
    by_cases c : isW lo hi (.int v) = true
    · rw [if_pos c] at h; cases h; exact c
    · rw [if_neg c] at h; cases h
theorem mkZ_okK {ws : List Str} {k : MK} (h : mkZ ws = some k) : okK k = true := by
  unfold mkZ at h
  split at h
  · cases h; rfl
  split at h
  · cases e : rng 1 1000000 (numZ (ws.getD 1 "")) with
    | none => rw [e] at h; cases h
    | some n => rw [e] at h; cases h; exact rng_isW e
  · cases e : mbZ ws with
    | none => rw [e] at h; cases h
    | some m => rw [e] at h; cases h; exact mbZ_okM e
theorem setZ_okR {o : Option Int} {os : List (Option MB)} {w : WR} (ho : ∀ m, some m ∈ os → okM m = true) (h : setZ o os = some w) : okR w = true := by
  unfold setZ at h
  cases e : rng 1 1000000 o with
  | none => rw [e] at h; cases h
  | some n =>
    rw [e, Option.bind_some] at h
    cases e2 : allS os with
    | none => rw [e2] at h; cases h
    | some l =>
      rw [e2, Option.bind_some] at h
      by_cases c : (decide (l.length ≤ 40) && decide l.Nodup) = true
      · rw [if_pos c] at h
        cases h
        rw [Bool.and_eq_true] at c
        show (isW 1 1000000 (.int n) && (decide (l.length ≤ 40) && (decide l.Nodup && l.all okM))) = true
        rw [rng_isW e, c.1, c.2, List.all_eq_true.mpr (allS_okM ho e2)]
        rfl
      · rw [if_neg c] at h; cases h
theorem markZ_okR {nm : Str} {o : Option Int} {ws : List Str} {w : WR} (h : markZ nm o ws = some w) : okR w = true := by
  unfold markZ at h
  by_cases n : lnZ nm = true
  · rw [if_pos n] at h
    cases e : rng 0 1000000 o with
    | none => rw [e] at h; cases h
    | some v =>
      rw [e, Option.bind_some] at h
      cases e2 : mkZ ws with
      | none => rw [e2] at h; cases h
      | some k =>
        rw [e2] at h
        cases h
        show (lnZ nm && (isW 0 1000000 (.int v) && okK k)) = true
        rw [n, rng_isW e, mkZ_okK e2]
        rfl
  · rw [if_neg n] at h; cases h
theorem wrZ_okR {z : Str} {w : WR} (h : wrZ z = some w) : okR w = true := by
  unfold wrZ at h
  split at h
  · cases h
  split at h
  · cases h
  split at h
  · refine setZ_okR (fun m hm => ?_) h
    obtain ⟨p, _, e⟩ := List.mem_map.mp hm
    exact mbZ_okM e
  split at h
  · exact markZ_okR h
  · cases h
theorem st_okR {g g' : MG} {z : Str} (hg : ∀ ws ∈ g, ∀ w ∈ ws, okR w = true) (h : stG g z = some g') : ∀ ws ∈ g', ∀ w ∈ ws, okR w = true := by
  rcases st_cases h with ⟨w, r, ws, ew, rfl, rfl⟩ | ⟨_, _, _, rfl⟩
  · intro us hu x hx
    rcases List.mem_append.mp hu with hu | hu
    · exact hg us (List.mem_append_left _ hu) x hx
    · rw [List.mem_singleton.mp hu] at hx
      rcases List.mem_append.mp hx with hx | hx
      · exact hg ws (by simp) x hx
      · rw [List.mem_singleton.mp hx]; exact wrZ_okR ew
  · intro us hu x hx
    rcases List.mem_append.mp hu with hu | hu
    · exact hg us hu x hx
    · rw [List.mem_singleton.mp hu] at hx
      cases hx
theorem rd_okR : ∀ {ls : List Str} {g g' : MG}, (∀ ws ∈ g, ∀ w ∈ ws, okR w = true) → rdG g ls = some g' → ∀ ws ∈ g', ∀ w ∈ ws, okR w = true
  | [], g, g', hg, h => by
    have h : some g = some g' := h
    cases h
    exact hg
  | z :: zs, g, g', hg, h => by
    have h : (stG g z).bind (fun g1 => rdG g1 zs) = some g' := h
    cases s : stG g z with
    | none => rw [s] at h; cases h
    | some g1 =>
      rw [s] at h
      exact rd_okR (st_okR hg s) h
end Rm

set_option maxRecDepth 100000
set_option maxHeartbeats 1000000
namespace Rm
open PySem PySem.Spec L2
open PyProof.Rows hiding St

/-! ### how many line feeds a text has -/
def cn (z : Str) : Nat := (TL.tl z).count 10
theorem cn_app (a b : Str) : cn (a ++ b) = cn a + cn b := by unfold cn; rw [TL.tl_append, List.count_append]
theorem cn_0 {z : Str} (h : 10 ∉ TL.tl z) : cn z = 0 := List.count_eq_zero.mpr h
theorem cn_cut (z : Str) (lo hi : Option Int) : cn (cutS z lo hi) ≤ cn z := by
  show List.count 10 (((z.cps.toList.drop _).take _).toArray).toList ≤ List.count 10 z.cps.toList
  exact List.Sublist.count_le _ ((List.take_sublist _ _).trans (List.drop_sublist _ _))
def nls (c : Nat) (ys : List Str) : Nat := (ys.map fun y => cn y + c).sum
theorem nls_cons (c : Nat) (y : Str) (ys : List Str) : nls c (y :: ys) = cn y + c + nls c ys := by
  unfold nls
  rw [List.map_cons, List.sum_cons]
theorem nls_app (c : Nat) (xs ys : List Str) : nls c (xs ++ ys) = nls c xs + nls c ys := by
  unfold nls
  rw [List.map_append, List.sum_append]
theorem nls_rev (c : Nat) (ys : List Str) : nls c ys.reverse = nls c ys := by
  induction ys with
  | nil => rfl
  | cons y ys ih => rw [List.reverse_cons, nls_app, ih, nls_cons, nls_cons]; simp [nls]; omega
theorem nls_td (c : Nat) (ys : List Str) (n : Nat) : nls c (ys.take n) + nls c (ys.drop n) = nls c ys := by
  rw [← nls_app, List.take_append_drop]
theorem tot_td (ys : List Str) (n : Nat) : tot (ys.take n) + tot (ys.drop n) = tot ys := by
  rw [← tot_app, List.take_append_drop]
theorem nls_take (c : Nat) (ys : List Str) (n : Nat) : nls c (ys.take n) ≤ nls c ys := by have := nls_td c ys n; omega
theorem nls_drop (c : Nat) (ys : List Str) (n : Nat) : nls c (ys.drop n) ≤ nls c ys := by have := nls_td c ys n; omega
theorem nls_join (y : Str) : ∀ {ps : List Str}, ps ≠ [] → cn (Txt.join y ps) + cn y = nls (cn y) ps := by
  intro ps
  rw [TL.join_eq]
  induction ps with
  | nil => exact fun h => absurd rfl h
  | cons p l ih =>
    intro _
    cases l with
    | nil =>
      rw [nls_cons]
      show cn p + cn y = cn p + cn y + 0
      rfl
    | cons q r =>
      have e : Str.join y (p :: q :: r) = p ++ y ++ Str.join y (q :: r) := rfl
      have := ih (by simp)
      rw [e, cn_app, cn_app, nls_cons]
      omega
theorem nls_joinle (y : Str) (ps : List Str) : cn (Txt.join y ps) ≤ nls (cn y) ps := by
  by_cases h : ps = []
  · rw [h]
    have e : Txt.join y [] = Str.empty := by rw [TL.join_eq]; rfl
    rw [e]
    exact Nat.zero_le _
  · have := nls_join y h
    omega
theorem nls_split {z y : Str} (h : Sep y) : nls (cn y) (Txt.split z y) = cn z + cn y := by
  have := nls_join y (split_ne (z := z) h)
  rw [split_back] at this
  exact this.symm
theorem nls_len (ys : List Str) : ys.length ≤ nls 1 ys := by
  induction ys with
  | nil => exact Nat.zero_le _
  | cons y ys ih => rw [nls_cons, List.length_cons]; omega
theorem cn_nl : cn "\n" = 1 := by decide +kernel
theorem cn_sp : cn " " = 0 := by decide +kernel
/-- how many lines a text has -/
theorem lines_cn (z : Str) : (linesZ z).length ≤ cn z + 1 := by
  unfold linesZ
  split
  · have a := nls_split (z := z) sep_nl
    rw [cn_nl] at a
    have := nls_len (Txt.split z "\n")
    omega
  · exact Nat.zero_le _
theorem nls_flat {ys : List Str} (h : ∀ y ∈ ys, 10 ∉ TL.tl y) : nls 1 ys = ys.length := by
  induction ys with
  | nil => rfl
  | cons y ys ih => rw [nls_cons, cn_0 (h y (.head _)), ih fun x hx => h x (.tail _ hx), List.length_cons]; omega
/-- the text of a few operations: its line feeds and its length -/
theorem okG.cn3 {g : MG} (h : okG g) (l : ∀ ws ∈ g, ws.length ≤ 3) : cn (mgT g) ≤ 4 * g.length := by
  have a := nls_joinle "\n" (mgL 1 g)
  rw [cn_nl, nls_flat fun z hz => (h.lines z hz).nl] at a
  exact Nat.le_trans a (mgL_len3 l)
theorem tot_wrs {ws : List WR} (h : ∀ w ∈ ws, okR w = true) : tot (ws.map wrT) ≤ 1101 * ws.length := by
  induction ws with
  | nil => exact Nat.zero_le _
  | cons w ws ih =>
    rw [List.map_cons, tot_cons, List.length_cons]
    have := wr_len (h w (.head _))
    have := ih fun x hx => h x (.tail _ hx)
    omega
theorem tot_mgL : ∀ {g : MG} {i : Nat}, i + g.length ≤ 1000 → (∀ ws ∈ g, ws.length ≤ 3 ∧ ∀ w ∈ ws, okR w = true) → tot (mgL i g) ≤ 3343 * g.length
  | [], _, _, _ => Nat.le_refl _
  | ws :: g, i, hi, h => by
    rw [List.length_cons] at hi
    have a := tot_wrs (h ws (.head _)).2
    have b := tot_mgL (g := g) (i := i + 1) (by omega) fun x hx => h x (.tail _ hx)
    have c := (h ws (.head _)).1
    have d : (atT ((i : Nat) : Int)).length ≤ 34 := by
      have e : atT ((i : Nat) : Int) = ("at" : Str) ++ " " ++ sI ((i : Nat) : Int) := by
        unfold atT
        rw [TL.join_eq]
        rfl
      have e1 : ("at" : Str).length = 2 := by decide +kernel
      have e2 : (" " : Str).length = 1 := by decide +kernel
      have := sI_len7 (i := ((i : Nat) : Int)) (by omega) (by omega)
      rw [e, len_app, len_app, e1, e2]
      omega
    simp only [mgL]
    rw [tot_cons, tot_app, List.length_cons]
    omega
theorem okG.tlen2 {g : MG} (h : okG g) (l : ∀ ws ∈ g, ws.length ≤ 3) : (mgT g).length ≤ 3343 * g.length :=
  Nat.le_trans (join_tot (by decide +kernel) _) (tot_mgL (by have := h.l; omega) fun ws hw => ⟨l ws hw, (h.w ws hw).2⟩)
/-- a marking of sixty-one operations may be written, too -/
structure okG1 (g : MG) : Prop where
  l : g.length ≤ 61
  w : ∀ ws ∈ g, ws.length ≤ 10 ∧ ∀ w ∈ ws, okR w = true
theorem okG.one {g : MG} (h : okG g) : okG1 g := ⟨by have := h.l; omega, h.w⟩
theorem okG1.lines {g : MG} (h : okG1 g) : ∀ z ∈ mgL 1 g, Ln z := mg_lines (by have := h.l; omega) fun ws hw => (h.w ws hw).2
theorem okG1.len {g : MG} (h : okG1 g) : (mgL 1 g).length ≤ 671 := by
  have a := mgL_len (g := g) (i := 1) fun ws hw => (h.w ws hw).1
  have := h.l
  omega
theorem okG1.asc {g : MG} (h : okG1 g) : asA (mgT g) = true := join_asc (by decide +kernel) fun p hp => (h.lines p hp).sm
/-! ### how large what is read is -/
def szG (g : MG) : Nat := (g.map fun ws => ws.length + 1).sum
theorem szG_app (a b : MG) : szG (a ++ b) = szG a + szG b := by
  unfold szG
  rw [List.map_append, List.sum_append]
theorem szG_one (ws : List WR) : szG [ws] = ws.length + 1 := by simp [szG]
theorem szG_cons (ws : List WR) (g : MG) : szG (ws :: g) = ws.length + 1 + szG g := by simp [szG]
theorem mgL_sz : ∀ {g : MG} {i : Nat}, (mgL i g).length = szG g
  | [], _ => rfl
  | ws :: g, i => by
    rw [szG_cons, ← mgL_sz (g := g) (i := i + 1)]
    simp only [mgL, List.length_cons, List.length_append, List.length_map]
    omega
theorem at_len {i : Nat} (h : i ≤ 1000000) : (atT ((i : Nat) : Int)).length ≤ 34 := by
  have e : atT ((i : Nat) : Int) = ("at" : Str) ++ " " ++ sI ((i : Nat) : Int) := by
    unfold atT
    rw [TL.join_eq]
    rfl
  have e1 : ("at" : Str).length = 2 := by decide +kernel
  have e2 : (" " : Str).length = 1 := by decide +kernel
  have := sI_len7 (i := ((i : Nat) : Int)) (by omega) (by omega)
  rw [e, len_app, len_app, e1, e2]
  omega
theorem tot_mgS : ∀ {g : MG} {i : Nat}, i + g.length ≤ 1000 → (∀ ws ∈ g, ∀ w ∈ ws, okR w = true) → tot (mgL i g) ≤ 1101 * szG g
  | [], _, _, _ => Nat.le_refl _
  | ws :: g, i, hi, h => by
    rw [List.length_cons] at hi
    have a := tot_wrs (h ws (.head _))
    have b := tot_mgS (g := g) (i := i + 1) (by omega) fun x hx => h x (.tail _ hx)
    have d := at_len (i := i) (by omega)
    simp only [mgL]
    rw [tot_cons, tot_app, szG_cons]
    omega
theorem okG1.tlenS {g : MG} (h : okG1 g) : (mgT g).length ≤ 1101 * szG g :=
  Nat.le_trans (join_tot (by decide +kernel) _) (tot_mgS (by have := h.l; omega) fun ws hw => (h.w ws hw).2)
theorem okG1.cnS {g : MG} (h : okG1 g) : cn (mgT g) ≤ szG g := by
  have a := nls_joinle "\n" (mgL 1 g)
  rw [cn_nl, nls_flat fun z hz => (h.lines z hz).nl, mgL_sz] at a
  exact a
theorem szG_set : ∀ {g : MG} {k : Nat} {ws : List WR}, szG (g.set k ws) ≤ szG g + ws.length
  | [], _, _ => Nat.zero_le _
  | a :: g, 0, ws => by
    rw [List.set_cons_zero, szG_cons, szG_cons]
    omega
  | a :: g, k + 1, ws => by
    rw [List.set_cons_succ, szG_cons, szG_cons]
    have := szG_set (g := g) (k := k) (ws := ws)
    omega
theorem szG_repl (n : Nat) : szG (List.replicate n []) = n := by
  induction n with
  | zero => rfl
  | succ n ih => rw [List.replicate_succ, szG_cons, ih, List.length_nil]; omega
theorem rd_sz : ∀ {ls : List Str} {g g' : MG}, rdG g ls = some g' → szG g' = szG g + ls.length
  | [], g, g', h => by
    have h : some g = some g' := h
    cases h
    rfl
  | z :: zs, g, g', h => by
    have h : (stG g z).bind (fun g1 => rdG g1 zs) = some g' := h
    cases s : stG g z with
    | none => rw [s] at h; cases h
    | some g1 =>
      rw [s] at h
      have ih := rd_sz (ls := zs) h
      rw [ih, List.length_cons]
      rcases st_cases s with ⟨w, r, ws, ew, rfl, rfl⟩ | ⟨_, _, _, rfl⟩
      · simp only [szG_app, szG_one, List.length_append, List.length_cons, List.length_nil]
        omega
      · simp only [szG_app, szG_one, List.length_nil]
        omega
theorem wt_mgs : ∀ {g : MG}, (∀ ws ∈ g, ∀ w ∈ ws, okR w = true) → PyData.showableAll (g.map wsD) = true ∧ PyData.leavesShortAll 31 (g.map wsD) = true ∧ PyData.weightAll (g.map wsD) ≤ 1671 * szG g ∧ PyData.depthAll (g.map wsD) ≤ 4
  | [], _ => ⟨by simp [PyData.showableAll], by simp [PyData.leavesShortAll], by simp [PyData.weightAll], by simp [PyData.depthAll]⟩
  | ws :: g, h => by
    obtain ⟨a, b, c, e⟩ := wt_ws (h ws (.head _)) (Nat.le_refl _)
    obtain ⟨a', b', c', e'⟩ := wt_mgs (g := g) fun x m => h x (.tail _ m)
    have z : szG (ws :: g) = ws.length + 1 + szG g := by simp [szG]
    simp only [List.map_cons, PyData.showableAll, PyData.leavesShortAll, PyData.weightAll, PyData.depthAll, a, b, a', b', Bool.and_self, true_and]
    rw [z]
    omega
theorem wt_mgD {g : MG} (h : ∀ ws ∈ g, ∀ w ∈ ws, okR w = true) : Wt (1671 * szG g) 5 (mgD g) := by
  obtain ⟨a, b, c, e⟩ := wt_mgs h
  refine ⟨by simpa [mgD, PyData.showable] using a, by simpa [mgD, PyData.leavesShort] using b, ?_, ?_⟩
  · simp only [mgD, PyData.weight]; exact c
  · simp only [mgD, PyData.depth]; omega
theorem Wt.smB {n k : Nat} {d : PyData} (h : Wt n k d) (a : n ≤ 508000) (b : k ≤ 50) : SmB d := by
  have h1 := PyData.shown_le 31 (by decide) d h.lv
  have h2 := h.wt
  refine ⟨h.sh, ?_, Nat.le_trans h.dp b⟩
  rw [sizeLine_eq]
  omega
theorem Wt.lst2 {x y k : Nat} {a b : PyData} (ha : Wt x k a) (hb : Wt y k b) : Wt (x + y + 2) (k + 1) (.list [a, b]) := by
  obtain ⟨a1, a2, a3, a4⟩ := ha
  obtain ⟨b1, b2, b3, b4⟩ := hb
  refine ⟨?_, ?_, ?_, ?_⟩
  · simp only [PyData.showable, PyData.showableAll, a1, b1, Bool.and_self]
  · simp only [PyData.leavesShort, PyData.leavesShortAll, a2, b2, Bool.and_self]
  · simp only [PyData.weight, PyData.weightAll]; omega
  · simp only [PyData.depth, PyData.depthAll]; omega
theorem smB_line {k : Nat} (h : k ≤ 1000000) : SmB (.list [.str "line", .int ((k : Nat) : Int)]) := by
  have w1 : Wt 4 0 (.str "line") := wt_str (n := 4) (by decide +kernel) (by decide +kernel)
  exact (Wt.lst2 w1 (wt_int (i := (k : Int)) (by omega))).smB (by decide) (by decide)
theorem smB_told {ls : List Str} {g : MG} (h : rdG [] ls = some g) (l : ls.length ≤ 300) : SmB (.list [.str "told", mgD g]) := by
  have w1 : Wt 4 5 (.str "told") := (wt_str (n := 4) (by decide +kernel) (by decide +kernel)).mono (by decide) (by decide)
  have s := rd_sz h
  have w2 := wt_mgD (rd_okR (by intro ws hw; cases hw) h)
  rw [s] at w2
  have e : szG [] = 0 := rfl
  rw [e] at w2
  exact (Wt.lst2 w1 w2).smB (by omega) (by decide)
theorem Sm.smB {d : PyData} (h : Sm d) : SmB d := ⟨h.sh, h.len, h.dp⟩
end Rm

set_option maxRecDepth 100000
set_option maxHeartbeats 800000
namespace K92
open PySem PySem.Spec L2 Rm
open PyProof.Rows hiding St
def top (i : Nat) : Stmt := PySem.Challenge.pw_rowmarks_k92_texts_that_are_no_markings.main.body.getD i (.Pass ⟨0, 0, 0, 0⟩)
abbrev s_BadText___init__ : Stmt := inClass (top 2) 0
abbrev s_is_whole : Stmt := top 5
abbrev s_is_within : Stmt := top 6
abbrev s_is_name : Stmt := top 7
abbrev s_is_mode : Stmt := top 11
abbrev s_is_change : Stmt := top 12
abbrev s_is_member : Stmt := top 17
abbrev s_is_set_number : Stmt := top 22
abbrev s_are_different : Stmt := top 23
abbrev s_read_marking : Stmt := top 27
abbrev s_lines_of : Stmt := top 28
abbrev s_numeral : Stmt := top 29
abbrev s_write_of : Stmt := top 30
abbrev s_set_of : Stmt := top 31
abbrev s_mark_of : Stmt := top 32
abbrev s_member_of : Stmt := top 33
abbrev s__law_tape : Stmt := top 35
abbrev s__law_pick : Stmt := top 36
abbrev s__law_one_of : Stmt := top 37
abbrev s__law_any : Stmt := top 38
abbrev s__law_is_name : Stmt := top 39
abbrev s__law_number : Stmt := top 40
abbrev s__law_some_member : Stmt := top 41
abbrev s__law_some_write : Stmt := top 42
abbrev s__law_some_marking : Stmt := top 43
abbrev s__law_member_text : Stmt := top 44
abbrev s__law_marking_text : Stmt := top 45
abbrev s__law_bent : Stmt := top 46
abbrev s__law_member_of : Stmt := top 47
abbrev s__law_write_of : Stmt := top 48
abbrev s__law_marking_of : Stmt := top 49
abbrev s__law_long_texts : Stmt := top 50
abbrev s__law_found : Stmt := top 51
abbrev s_law : Stmt := top 52
/-- the names that are built-in still -/
structure Bl (mg : Str → Option Value) : Prop where
  n_int : mg "int" = none
  n_len : mg "len" = none
  n_isinstance : mg "isinstance" = none
  n_str : mg "str" = none
  n_range : mg "range" = none
  n_max : mg "max" = none
  n_min : mg "min" = none
  n_list : mg "list" = none
  n_repr : mg "repr" = none
  n_enumerate : mg "enumerate" = none
  n_tuple : mg "tuple" = none
  n_sorted : mg "sorted" = none
  n_bool : mg "bool" = none
  n_dict : mg "dict" = none
  n_set : mg "set" = none
  n_ValueError : mg "ValueError" = none
section
variable {P : Program} {w : World} {K : PySem.W.Frag} {mg : Str → Option Value} {base : Heap}
theorem sc__law_pick : FnScope ["_law_tape_here", "_law_many", "_law_found_here", "_law_once"] ["_law_tape_here", "_law_many"] (defScope s__law_pick) :=
  ⟨rfl, rfl, rfl, by decide +kernel, rfl, by decide +kernel, by decide +kernel⟩
theorem ok_pick {f : Addr} {fd : FuncData} (F : Fun K "_law_pick" "_law_pick" s__law_pick f fd) (B : Bl mg) :
    FnG P w K mg base CX0 1 f fd ["_law_tape_here", "_law_many"] spPick := by
  refine fn_q F sc__law_pick (fun vs H Q E h => ?_) (fun cdv A outer s H vs Q E hr hG h => ?_)
  · obtain ⟨t, o, n, rfl, _⟩ := h
    rfl
  · obtain ⟨t, o, n, rfl, ht, ⟨dg, mx, rfl, ok⟩, h1, h2, k⟩ := h
    have hu := hu_of hr
    obtain ⟨hd0, hm0, hm1⟩ := ok
    refine ⟨_, (pss_cons (ps_if (pt_cmpR op_ge (pe_dget hu (pv 0) pe_str (fun _ _ => rfl)) (pv 1) (nomark _)) (pss_cons (ps_set (i := 2) sc__law_pick.nd rfl (Or.inl rfl) (pe_op op_modN (pe_callTy call_int1 (by rfl) B.n_int (by decide +kernel) (pa_cons (pe_dget hu (pv 0) pe_str (fun _ _ => rfl)) pa_nil)) (pv 1)))
      (pss_cons (ps_dput hu (pv 0) pe_str (pe_op op_fdivN (pe_dget hu (pv 0) pe_str (fun _ _ => rfl)) (pv 1)) rfl)
      (pss_one (ps_ret (pv 2))))) pss_nil)
      (pss_cons (ps_dput hu (pv 0) pe_str (pe_op op_mod (pe_callTy call_int1 (by rfl) B.n_int (by decide +kernel) (pa_cons (pe_op op_add (pe_op op_mulX (pe_dget hu (pv 0) pe_str (fun _ _ => rfl)) pe_int) pe_int) pa_nil)) pe_int) rfl)
      (pss_cons (ps_set (i := 3) sc__law_pick.nd rfl (Or.inl rfl) (pe_op op_mod (pe_callTy call_int1 (by rfl) B.n_int (by decide +kernel) (pa_cons (pe_op op_powX (pe_dget hu (pv 0) pe_str (fun _ _ => rfl)) pe_int) pa_nil)) pe_int))
      (pss_one (ps_ret (pe_op op_modN (pe_callTy call_int1 (by rfl) B.n_int (by decide +kernel) (pa_cons (pe_op op_fdiv (pe_op op_mod (pe_callTy call_int1 (by rfl) B.n_int (by decide +kernel) (pa_cons (pe_op op_powX (pv 3) pe_int) pa_nil)) pe_int) pe_int) pa_nil)) (pv 1))))))), ?_⟩
    refine ⟨_, rfl, _, _, rfl, tape_dg ht, _, rfl, _, _, rfl, rfl, _, rfl, ite2 (fun c => ?_) fun c => ?_⟩
    · have hn : n ≠ 0 := by omega
      refine ⟨_, rfl, _, _, rfl, tape_dg ht, .inl ⟨_, rfl, _, rfl, _, _, rfl, rfl, hn, ?_⟩⟩
      refine ⟨_, rfl, _, _, rfl, tape_dg ht, _, rfl, _, _, rfl, rfl, ⟨hn, by omega⟩, _, rfl, _, _, rfl, tape_pd ht, ?_⟩
      refine ⟨_, rfl, k _ _ ?_ ?_ ⟨_, _, rfl, ?_, hm0, hm1⟩⟩
      · exact Int.fmod_nonneg_of_pos _ (by omega)
      · exact Int.fmod_lt_of_pos _ (by omega)
      · exact Int.fdiv_nonneg hd0 (by omega)
    · have e1 : CMulX mx 40014 := mulx_ok (a := 32) (b := 32) (by omega) (by decide) (by decide)
      refine ⟨_, rfl, _, _, rfl, tape_mx ht, _, _, rfl, rfl, e1, _, _, rfl, rfl, .inl ⟨_, rfl, _, _, rfl, rfl, ?_, _, rfl, _, _, rfl, tape_pm ht, ?_⟩⟩
      · show (0 : Int) < 2147483563
        decide
      have m0 : 0 ≤ (mx * 40014 + 1017) % 2147483563 := Int.emod_nonneg _ (by decide)
      have m1 : (mx * 40014 + 1017) % 2147483563 < 2147483563 := Int.emod_lt_of_pos _ (by decide)
      have o0 : 0 ≤ ((mx * 40014 + 1017) % 2147483563) ^ (2 : Int).toNat % 2147483399 := Int.emod_nonneg _ (by decide)
      have o1 : ((mx * 40014 + 1017) % 2147483563) ^ (2 : Int).toNat % 2147483399 < 2147483399 := Int.emod_lt_of_pos _ (by decide)
      refine ⟨_, rfl, _, _, rfl, tape_mx upd_same, _, _, rfl, rfl, pow32 m0 (by omega) (by decide) (by decide), .inl ⟨_, rfl, _, _, rfl, rfl, ?_, ?_⟩⟩
      · show (0 : Int) < 2147483399
        decide
      refine ⟨_, rfl, _, _, rfl, rfl, pow32 o0 (by omega) (by decide) (by decide), .inl ⟨_, rfl, _, _, rfl, rfl, ?_, _, _, rfl, rfl, ?_, .inl ⟨_, rfl, _, rfl, _, _, rfl, rfl, (show n ≠ 0 by omega), ?_⟩⟩⟩
      · show (0 : Int) < 998244353
        decide
      · exact ⟨by decide, by decide⟩
      exact k _ _ (Int.fmod_nonneg_of_pos _ (by omega)) (Int.fmod_lt_of_pos _ (by omega)) ⟨_, _, rfl, hd0, m0, by omega⟩
theorem sc__law_one_of : FnScope ["_law_tape_here", "_law_items"] ["_law_tape_here", "_law_items"] (defScope s__law_one_of) :=
  ⟨rfl, rfl, rfl, by decide +kernel, rfl, by decide +kernel, by decide +kernel⟩
theorem ok_one {f : Addr} {fd : FuncData} (F : Fun K "_law_one_of" "_law_one_of" s__law_one_of f fd) (B : Bl mg)
    (D__law_pick : Ce P w K mg base CX0 1 "_law_pick" ["_law_tape_here", "_law_many"] spPick) :
    FnG P w K mg base CX0 2 f fd ["_law_tape_here", "_law_items"] (spOne K) := by
  refine fn_q F sc__law_one_of (fun vs H Q E h => ?_) (fun cdv A outer s H vs Q E hr hG h => ?_)
  · obtain ⟨t, l, o, xs, rfl, _⟩ := h
    rfl
  · obtain ⟨t, l, o, xs, rfl, ht, ho, hl, h1, h2, k⟩ := h
    have hu := hu_of hr
    refine ⟨_, (pss_one (ps_ret (pe_ix ix_list (pv 1) (pe_ce D__law_pick (hr.mono (by decide)) hG (pa_cons (pv 0) (pa_cons (pe_callB call_len_seq (by rfl) B.n_len (by decide +kernel) (pa_cons (pv 1) pa_nil)) pa_nil)) pass0) (fun _ _ => rfl)))), ?_⟩
    refine ⟨_, rfl, _, rfl, _, rfl, _, _, rfl, .inl hl, t, o, _, rfl, ht, ho, by omega, by omega, fun n o' n0 n1 ho' => ?_⟩
    have hb : n.toNat < xs.length := by omega
    refine ⟨_, _, _, _, rfl, rfl, sq_tape hl ht ho, ?_, k n.toNat _ _ (List.getElem?_eq_getElem hb) ho'⟩
    have e := atI_nat (xs := xs) (j := n.toNat) (v := xs[n.toNat]) (List.getElem?_eq_getElem hb)
    rw [Int.toNat_of_nonneg n0] at e
    exact e
theorem sc__law_tape : FnScope ["_law_script", "_law_start", "_law_mixed", "_law_cell", "_law_digits"] ["_law_script", "_law_start"] (defScope s__law_tape) :=
  ⟨rfl, rfl, rfl, by decide +kernel, rfl, by decide +kernel, by decide +kernel⟩
theorem ok_tape {f : Addr} {fd : FuncData} (F : Fun K "_law_tape" "_law_tape" s__law_tape f fd) (B : Bl mg) :
    FnG P w K mg base CX0 1 f fd ["_law_script", "_law_start"] (spTape K) := by
  refine fn_q F sc__law_tape (fun vs H Q E h => ?_) (fun cdv A outer s H vs Q E hr hG h => ?_)
  · obtain ⟨a, ns, z, rfl, _⟩ := h
    rfl
  · obtain ⟨a, ns, z, rfl, hl, hn, hbits, z0, z1, k⟩ := h
    have hu := hu_of hr
    refine ⟨_, (pss_cons (ps_set (i := 2) sc__law_tape.nd rfl (Or.inl rfl) (pe_op op_add pe_int (pe_op op_mulX (pv 1) pe_int)))
      (pss_cons (ps_for PassesOwn.never rfl (pi_list (pv 0)) (pg_name (i := 3) sc__law_tape.nd rfl (Or.inl rfl)) (pss_one (ps_set (i := 2) sc__law_tape.nd rfl (Or.inl rfl) (pe_op op_add (pe_op op_mod (pe_callTy call_int1 (by rfl) B.n_int (by decide +kernel) (pa_cons (pe_op op_powX (pe_op op_add (pe_op op_add (pe_op op_mulX (pv 2) pe_int) (pe_op op_mulX (pv 3) (pv 3))) pe_int) pe_int) pa_nil)) pe_int) pe_int))))
      (pss_cons (ps_set (i := 4) sc__law_tape.nd rfl (Or.inl rfl) (pe_ifExp (PW.pt (pw_and (pt_cmpR op_lt (pv 1) (pe_callB call_len_seq (by rfl) B.n_len (by decide +kernel) (pa_cons (pv 0) pa_nil)) (nomark _)) (pw_and1 (pt_cmpR op_ge (pe_ix ix_list (pv 0) (pv 1) (fun _ _ => rfl)) (pe_op op_powX pe_int pe_int) (nomark _))))) (pe_op op_sub (pe_ix ix_list (pv 0) (pv 1) (fun _ _ => rfl)) (pe_op op_powX pe_int pe_int)) pe_int))
      (pss_one (ps_ret (pe_disp (pps_cons pe_str (pv 4) (pps_cons pe_str (pv 2) pps_nil)) (by rfl) (by rfl) (fun z => by cases z) (by decide))))))), ?_⟩
    refine ⟨_, rfl, _, _, rfl, rfl, mulx_ok (a := 32) (b := 32) (by omega) (by decide) (by decide), _, _, rfl, rfl, ?_⟩
    refine ⟨_, rfl, a, rfl, ⟨_, hl⟩, for_list (xs := ns.map V.int) (fun i σ H' => H' = H ∧ ∃ m c, σ = [some (.ref a), some (.int z), some (.int m), c, none] ∧ 0 ≤ m ∧ m < 4294967296) ⟨rfl, _, _, rfl, by omega, by omega⟩ (fun i σ H' hi e => by rw [e.1]; exact hl) ?_ ?_⟩
    · rintro i x σ H' hx ⟨rfl, m, c, rfl, m0, m1⟩
      obtain ⟨y, hy, rfl⟩ : ∃ y, y ∈ ns ∧ x = V.int y := by
        rw [List.getElem?_map] at hx
        cases e : ns[i]? with
        | none => rw [e] at hx; cases hx
        | some y => rw [e] at hx; cases hx; exact ⟨y, List.mem_of_getElem? e, rfl⟩
      obtain ⟨c1, c2, c3⟩ := mix_pow m0 m1 (hbits y hy)
      refine ⟨_, rfl, _, _, rfl, rfl, c1, _, rfl, _, rfl, _, _, rfl, rfl, c2, _, _, rfl, rfl, _, _, rfl, rfl, _, _, rfl, rfl, c3, .inl ⟨_, rfl, _, _, rfl, rfl, ?_, _, _, rfl, rfl, rfl, _, _, rfl, ?_, ?_⟩⟩
      · show (0 : Int) < 2147483563
        decide
      · have := Int.emod_nonneg ((m * 30013 + y * y + 11) ^ (2 : Int).toNat) (show (2147483563 : Int) ≠ 0 by decide)
        omega
      · have := Int.emod_lt_of_pos ((m * 30013 + y * y + 11) ^ (2 : Int).toNat) (show (0 : Int) < 2147483563 by decide)
        omega
    · rintro σ H' ⟨rfl, m, c, rfl, m0, m1⟩
      have fin : ∀ d : Int, 0 ≤ d → ∀ p, H' p = none → Q (.ref p) (upd (upd H' p (.dK [])) p (tapeO d m)) := fun d d0 p hp => by
        rw [upd_upd]
        exact k p _ hp ⟨d, m, rfl, d0, m0, m1⟩
      have ends : ∀ d : Int, 0 ≤ d → (tRet (tDisp [((tC (V.str "digits")), tVar 4), ((tC (V.str "mixed")), tVar 2)])) { nx := fun _ H' => Q .non H', rt := Q } [some (.ref a), some (.int z), some (.int m), c, some (.int d)] H' := fun d d0 p hp => by
        have e : mergeK [] [((Sum.inr "digits" : Key), V.int d), (Sum.inr "mixed", V.int m)] = [((Sum.inr "digits" : Key), V.int d), (Sum.inr "mixed", V.int m)] := by
          simp [mergeK, putK, s_dm]
        refine ⟨_, rfl, _, rfl, upd_same, [(Sum.inr "digits", V.int d), (Sum.inr "mixed", V.int m)], rfl, by show 2 ≤ 15; decide, ?_⟩
        rw [e]
        exact fin d d0 p hp
      refine ⟨_, rfl, _, rfl, _, _, rfl, .inl hl, _, _, rfl, rfl, _, rfl, ite2 (fun c => ?_) fun c => ?_⟩
      · rw [List.length_map] at c
        have hb : z.toNat < ns.length := by
          have := of_decide_eq_true c
          omega
        have at_ : atI (ns.map V.int) z = some (V.int ns[z.toNat]) := by
          have e := atI_nat (xs := ns.map V.int) (j := z.toNat) (v := V.int ns[z.toNat]) (by rw [List.getElem?_map, List.getElem?_eq_getElem hb]; rfl)
          rw [Int.toNat_of_nonneg z0] at e
          exact e
        have p18 : CPowX 10 18 := pow32 (by decide) (by decide) (by decide) (by decide)
        refine ⟨_, rfl, _, rfl, _, _, _, _, rfl, rfl, hl, at_, _, _, rfl, rfl, p18, _, _, rfl, rfl, _, rfl, ite2 (fun c => ?_) fun c => ?_⟩
        · refine ⟨_, rfl, _, rfl, _, _, _, _, rfl, rfl, hl, at_, _, _, rfl, rfl, p18, _, _, rfl, rfl, ends _ ?_⟩
          have := of_decide_eq_true c
          omega
        · exact ends 0 (by decide)
      · exact ends 0 (by decide)
theorem sc__law_any : FnScope ["_law_tape_here", "_law_some"] ["_law_tape_here"] (defScope s__law_any) :=
  ⟨rfl, rfl, rfl, by decide +kernel, rfl, by decide +kernel, by decide +kernel⟩
theorem ok_any {f : Addr} {fd : FuncData} (F : Fun K "_law_any" "_law_any" s__law_any f fd)
    (D__law_one_of : Ce P w K mg base CX0 2 "_law_one_of" ["_law_tape_here", "_law_items"] (spOne K)) :
    FnG P w K mg base CX0 3 f fd ["_law_tape_here"] (spAnyN K) := by
  refine fn_q F sc__law_any (fun vs H Q E h => ?_) (fun cdv A outer s H vs Q E hr hG h => ?_)
  · obtain ⟨t, o, rfl, _⟩ := h
    rfl
  · obtain ⟨t, o, rfl, ht, ho, q⟩ := h
    have hu := hu_of hr
    refine ⟨_, (pss_cons (ps_set (i := 1) sc__law_any.nd rfl (Or.inl rfl) (pe_lst (pa_cons pe_non (pa_cons pe_bl (pa_cons pe_bl (pa_cons pe_int (pa_cons pe_int (pa_cons pe_int (pa_cons pe_int (pa_cons (pe_op op_sub pe_int pe_int) (pa_cons (pe_op op_powX pe_int pe_int) (pa_cons pe_str (pa_cons pe_str (pa_cons pe_str (pa_cons pe_str (pa_cons pe_str (pa_cons pe_str (pa_cons pe_str pa_nil))))))))))))))))))
      (pss_cons (ps_set (i := 1) sc__law_any.nd rfl (Or.inl rfl) (pe_op op_cat (pv 1) (pe_lst (pa_cons pe_str (pa_cons (pe_tup pa_nil) (pa_cons (pe_lst pa_nil) (pa_cons pe_dnewK (pa_cons (pe_tup (pa_cons pe_int pa_nil)) (pa_cons (pe_lst (pa_cons pe_int pa_nil)) (pa_cons (pe_disp (pps_cons pe_str pe_int pps_nil) (by rfl) (by rfl) (fun z => by cases z) (by decide)) (pa_cons (pe_tup (pa_cons pe_int (pa_cons pe_str (pa_cons pe_str pa_nil)))) (pa_cons (pe_tup (pa_cons pe_str pa_nil)) (pa_cons (pe_lst (pa_cons pe_str pa_nil)) (pa_cons pe_str pa_nil))))))))))))))
      (pss_one (ps_ret (pe_ce D__law_one_of (hr.mono (by decide)) hG (pa_cons (pv 0) (pa_cons (pv 1) pa_nil)) pass0))))), ?_⟩
    let x1 : List V := [.non, .bl true, .bl false, .int 0, .int 1, .int 2, .int 7, .int (0 - 1), .int (10 ^ (40 : Int).toNat), .str "", .str "a", .str "x",
      .str "hold", .str "locks", .str "Hold", .str "change "]
    have l16 : 16 ≤ sizeLine := by decide
    have lz : ∀ n, n ≤ 16 → n ≤ sizeLine := fun n h => Nat.le_trans h l16
    refine ⟨0, 1, rfl, rfl, 10, 40, rfl, rfl, ⟨by decide, by decide⟩, l16, fun p1 n1 => ?_⟩
    have N1 := new_at (.lst x1) n1 ht
    refine ⟨_, rfl, lz 0 (by decide), fun p2 n2 => ?_⟩
    have N2 := new_at (.tup []) n2 N1.th
    refine ⟨lz 0 (by decide), fun p3 n3 => ?_⟩
    have N3 := new_at (.lst []) n3 N2.th
    refine fun p4 n4 => ?_
    have N4 := new_at (.dK []) n4 N3.th
    refine ⟨lz 1 (by decide), fun p5 n5 => ?_⟩
    have N5 := new_at (.tup [.int 1]) n5 N4.th
    refine ⟨lz 1 (by decide), fun p6 n6 => ?_⟩
    have N6 := new_at (.lst [.int 1]) n6 N5.th
    refine fun p7 n7 => ⟨upd_same, [(.inr "x", .int 1)], rfl, by show 1 ≤ 15; decide, ?_⟩
    rw [upd_upd]
    have N7 := new_at (.dK [(.inr "x", .int 1)]) n7 N6.th
    refine ⟨lz 3 (by decide), fun p8 n8 => ?_⟩
    have N8 := new_at (.tup [.int 1, .str "locks", .str "hold"]) n8 N7.th
    refine ⟨lz 1 (by decide), fun p9 n9 => ?_⟩
    have N9 := new_at (.tup [.str "hold"]) n9 N8.th
    refine ⟨lz 1 (by decide), fun p10 n10 => ?_⟩
    have N10 := new_at (.lst [.str "hold"]) n10 N9.th
    refine ⟨lz 11 (by decide), fun p11 n11 => ?_⟩
    let x2 : List V := [.str "abcdefg", .ref p2, .ref p3, .ref p4, .ref p5, .ref p6, .ref p7, .ref p8, .ref p9, .ref p10, .str "1"]
    have N11 := new_at (.lst x2) n11 N10.th
    have S1 := ((((((((N2.s.trans N3.s).trans N4.s).trans N5.s).trans N6.s).trans N7.s).trans N8.s).trans N9.s).trans N10.s).trans N11.s
    refine ⟨p1, p11, x1, x2, rfl, rfl, S1 _ _ upd_same, upd_same, (show 27 ≤ sizeLine by decide), fun p12 n12 => ?_⟩
    have N12 := new_at (.lst (x1 ++ x2)) n12 N11.th
    refine ⟨_, rfl, _, rfl, t, p12, o, x1 ++ x2, rfl, N12.th, ho, .inl (.inl upd_same), (show 1 ≤ 27 by decide), (show 27 ≤ 1000000 by decide), fun i v o' hv ho' => ?_⟩
    let ds : List PyData := [.none, .bool true, .bool false, .int 0, .int 1, .int 2, .int 7, .int (0 - 1), .int (10 ^ (40 : Int).toNat), .str "", .str "a", .str "x",
      .str "hold", .str "locks", .str "Hold", .str "change ", .str "abcdefg", .tuple [], .list [], .dict [], .tuple [.int 1], .list [.int 1],
      .dict [(.str "x", .int 1)], .tuple [.int 1, .str "locks", .str "hold"], .tuple [.str "hold"], .list [.str "hold"], .str "1"]
    have t2 := N1.s
    have t3 := t2.trans N2.s
    have t4 := t3.trans N3.s
    have t5 := t4.trans N4.s
    have t6 := t5.trans N5.s
    have t7 := t6.trans N6.s
    have t8 := t7.trans N7.s
    have t9 := t8.trans N8.s
    have t10 := t9.trans N9.s
    have g12 := N12.s
    have g11 := N11.s.trans g12
    have g10 := N10.s.trans g11
    have g9 := N9.s.trans g10
    have g8 := N8.s.trans g9
    have g7 := N7.s.trans g8
    have g6 := N6.s.trans g7
    have g5 := N5.s.trans g6
    have g4 := N4.s.trans g5
    have g3 := N3.s.trans g4
    have hd : ∃ d, ds[i]? = some d ∧ Dx K _ v d := DxAll.get (H := _) (vs := x1 ++ x2) (ds := ds)
      (.cons .non <| .cons (.bl _) <| .cons (.bl _) <| .cons (.int _) <| .cons (.int _) <| .cons (.int _) <| .cons (.int _) <| .cons (.int _) <| .cons (.int _) <|
        .cons (.str _) <| .cons (.str _) <| .cons (.str _) <| .cons (.str _) <| .cons (.str _) <| .cons (.str _) <| .cons (.str _) <| .cons (.str _) <|
        .cons (.tup (.inl (.inl (nw_at (o' := o') ht (none_of t2 n2) (g3 _ _ upd_same)))) .nil) <| .cons (.lst (.inl (.inl (nw_at (o' := o') ht (none_of t3 n3) (g4 _ _ upd_same)))) .nil) <| .cons (.dic (.inl (nw_at (o' := o') ht (none_of t4 n4) (g5 _ _ upd_same))) .nil) <|
        .cons (.tup (.inl (.inl (nw_at (o' := o') ht (none_of t5 n5) (g6 _ _ upd_same)))) (.cons (.int _) .nil)) <| .cons (.lst (.inl (.inl (nw_at (o' := o') ht (none_of t6 n6) (g7 _ _ upd_same)))) (.cons (.int _) .nil)) <|
        .cons (.dic (.inl (nw_at (o' := o') ht (none_of t7 n7) (g8 _ _ upd_same))) (.cons (k := .inr "x") (.int _) .nil)) <|
        .cons (.tup (.inl (.inl (nw_at (o' := o') ht (none_of t8 n8) (g9 _ _ upd_same)))) (.cons (.int _) (.cons (.str _) (.cons (.str _) .nil)))) <|
        .cons (.tup (.inl (.inl (nw_at (o' := o') ht (none_of t9 n9) (g10 _ _ upd_same)))) (.cons (.str _) .nil)) <| .cons (.lst (.inl (.inl (nw_at (o' := o') ht (none_of t10 n10) (g11 _ _ upd_same)))) (.cons (.str _) .nil)) <|
        .cons (.str _) .nil) hv
    obtain ⟨d, h1, h2⟩ := hd
    refine q v d _ h2 (Sv.all (ds := ds) (by decide +kernel) h1) ⟨fun b u hb ne => ?_, _, upd_same, ho'⟩
    rw [upd_ne ne]
    exact N12.s _ _ (S1 _ _ (N1.s _ _ hb))

def spB (K : PySem.W.Frag) (g : PyData → Bool) : Sp := fun vs H Q _ => ∃ x d, vs = [x] ∧ Dx K H x d ∧ Sm d ∧ Q (.bl (g d)) H
def isI : PyData → Bool
  | .int _ => true
  | _ => false
theorem sc_is_whole : FnScope ["value"] ["value"] (defScope s_is_whole) :=
  ⟨rfl, rfl, rfl, by decide +kernel, rfl, by decide +kernel, by decide +kernel⟩
theorem ok_whole {f : Addr} {fd : FuncData} (F : Fun K "is_whole" "is_whole" s_is_whole f fd) (B : Bl mg) :
    FnG P w K mg base CX0 1 f fd ["value"] (fun vs H Q _ => ∃ x d, vs = [x] ∧ Dx K H x d ∧ Q (.bl (isI d)) H) := by
  refine fn_q F sc_is_whole (fun vs H Q E h => ?_) (fun cdv A outer s H vs Q E hr hG h => ?_)
  · obtain ⟨x, d, rfl, _⟩ := h
    rfl
  · obtain ⟨x, d, rfl, hx, q⟩ := h
    have hu := hu_of hr
    refine ⟨_, (pss_one (ps_ret (pe_and (pe_callB call_isi (by rfl) B.n_isinstance (by decide +kernel) (pa_cons (pv 0) (pa_cons (pe_bltn (v := .ty "int") (u := .type "int") (by rfl) B.n_int (by decide +kernel) rfl) pa_nil))) (pe_one (pe_not (pe_callB call_isi (by rfl) B.n_isinstance (by decide +kernel) (pa_cons (pv 0) (pa_cons (pe_bltn (v := .ty "bool") (u := .type "bool") (by rfl) B.n_bool (by decide +kernel) rfl) pa_nil)))))))), ?_⟩
    have h1 : ∀ {b : Bool}, isKd "int" d = b → rIsi K [x, .ty "int"] H (fun v H' => v = .bl b ∧ H' = H) := fun {b} e => isi_kd (by simp) hx ⟨by rw [e], rfl⟩
    refine ⟨x, rfl, x, .ty "int", _, _, _, rfl, .ty _, hx.tyx, kit_kd (T := "int") (by simp) d, ?_⟩
    cases d with
    | bool b => exact ⟨true, rfl, x, rfl, x, .ty "bool", _, _, _, rfl, .ty _, hx.tyx, kit_kd (T := "bool") (by simp) _, true, rfl, q⟩
    | int i => exact ⟨true, rfl, x, rfl, x, .ty "bool", _, _, _, rfl, .ty _, hx.tyx, kit_kd (T := "bool") (by simp) _, false, rfl, q⟩
    | _ => exact ⟨false, rfl, q⟩
theorem sc_is_within : FnScope ["value", "least", "most"] ["value", "least", "most"] (defScope s_is_within) :=
  ⟨rfl, rfl, rfl, by decide +kernel, rfl, by decide +kernel, by decide +kernel⟩
theorem ok_within {f : Addr} {fd : FuncData} (F : Fun K "is_within" "is_within" s_is_within f fd)
    (D_is_whole : Ce P w K mg base CX0 1 "is_whole" ["value"] (fun vs H Q _ => ∃ x d, vs = [x] ∧ Dx K H x d ∧ Q (.bl (isI d)) H)) :
    FnG P w K mg base CX0 2 f fd ["value", "least", "most"] (fun vs H Q _ => ∃ x d lo hi, vs = [x, .int lo, .int hi] ∧ Dx K H x d ∧ Q (.bl (isW lo hi d)) H) := by
  refine fn_q F sc_is_within (fun vs H Q E h => ?_) (fun cdv A outer s H vs Q E hr hG h => ?_)
  · obtain ⟨x, d, lo, hi, rfl, _⟩ := h
    rfl
  · obtain ⟨x, d, lo, hi, rfl, hx, q⟩ := h
    have hu := hu_of hr
    refine ⟨_, (pss_one (ps_ret (pe_and (pe_ce D_is_whole (hr.mono (by decide)) hG (pa_cons (pv 0) pa_nil) pass0) (pe_one (pe_chain op_le op_le (pv 1) (pv 0) (pv 2)))))), ?_⟩
    refine ⟨x, rfl, x, d, rfl, hx, ?_⟩
    cases d with
    | int i =>
      cases hx
      refine ⟨true, rfl, ?_⟩
      refine ⟨_, rfl, _, rfl, _, _, rfl, rfl, _, rfl, ite2 (fun c => ?_) fun c => ?_⟩
      · refine ⟨_, rfl, _, _, rfl, rfl, ?_⟩
        have q : Q (.bl (decide (lo ≤ i) && decide (i ≤ hi))) H := q
        rw [c, Bool.true_and] at q
        exact q
      · have q : Q (.bl (decide (lo ≤ i) && decide (i ≤ hi))) H := q
        rw [eq_false_of_ne_true c, Bool.false_and] at q
        exact q
    | _ => exact ⟨false, rfl, q⟩
theorem sc_is_mode : FnScope ["value"] ["value"] (defScope s_is_mode) :=
  ⟨rfl, rfl, rfl, by decide +kernel, rfl, by decide +kernel, by decide +kernel⟩
theorem ok_is {f R : Addr} {fd : FuncData} (F : Fun K "is_mode" "is_mode" s_is_mode f fd) (B : Bl mg) (RK : Rk w K mg R) :
    FnG P w K mg base CX0 1 f fd ["value"] (spIs K) := by
  obtain ⟨es, n, KD⟩ := RK.kd
  refine fn_q F sc_is_mode (fun vs H Q E h => ?_) (fun cdv A outer s H vs Q E hr hG h => ?_)
  · obtain ⟨x, d, rfl, _⟩ := h
    rfl
  · obtain ⟨x, d, rfl, hx, q⟩ := h
    have hu := hu_of hr
    refine ⟨_, (pss_one (ps_ret (pe_and (pe_callB call_isi (by rfl) B.n_isinstance (by decide +kernel) (pa_cons (pv 0) (pa_cons (pe_bltn (v := .ty "str") (u := .type "str") (by rfl) B.n_str (by decide +kernel) rfl) pa_nil))) (pe_one (pe_cmpR (op_in_kd KD) (pv 0) (pe_glob (v := .ref R) (by rfl) RK.g rfl) (by rfl)))))), ?_⟩
    refine ⟨x, rfl, ?_⟩
    refine ⟨x, .ty "str", _, _, _, rfl, .ty _, hx.tyx, kit_str d, ?_⟩
    cases d with
    | str z =>
      cases hx
      refine ⟨true, rfl, ?_⟩
      cases hz : rkS z with
      | none => exact ⟨_, rfl, z, _, rfl, rfl, RK.no _ hz, by simpa [rkD, hz] using q⟩
      | some i =>
        obtain ⟨t, e⟩ := RK.yes _ _ hz
        exact ⟨_, rfl, z, _, rfl, rfl, e, by simpa [rkD, hz] using q⟩
    | _ => exact ⟨false, rfl, q⟩
theorem sc_is_change : FnScope ["value"] ["value"] (defScope s_is_change) :=
  ⟨rfl, rfl, rfl, by decide +kernel, rfl, by decide +kernel, by decide +kernel⟩
theorem ok_change {f T_CHANGES : Addr} {fd : FuncData} (F : Fun K "is_change" "is_change" s_is_change f fd) (g_CHANGES : mg "CHANGES" = some (.ref T_CHANGES))
    (ht : ∀ H, SqT K H T_CHANGES [.str "change", .str "replace"]) :
    FnG P w K mg base CX0 1 f fd ["value"] (spB K isCh) := by
  refine fn_q F sc_is_change (fun vs H Q E h => ?_) (fun cdv A outer s H vs Q E hr hG h => ?_)
  · obtain ⟨x, d, rfl, _⟩ := h
    rfl
  · obtain ⟨x, d, rfl, hx, sm, q⟩ := h
    have hu := hu_of hr
    have hu65 : (A.deeper (envOfC "is_change" (defScope s_is_change) s.heap.objs.size f cdv)).units + 65 < cLine := by have := hr.un; omega
    refine ⟨_, (pss_one (ps_ret (pe_cmpR (op_inS hu65) (pv 0) (pe_glob (v := .ref T_CHANGES) (by rfl) g_CHANGES rfl) (by rfl)))), ?_⟩
    refine ⟨x, rfl, d, T_CHANGES, ["change", "replace"], hx, rfl, ht H, sm, ?_⟩
    have e : (["change", "replace"] : List Str).any (fun z => isT z d) = isCh d := by simp [isCh]
    rw [e]
    exact q
theorem sm_tup3 {a b c : PyData} (h : Sm (.tuple [a, b, c])) : Sm a ∧ Sm b ∧ Sm c := by
  obtain ⟨h1, h2, h3, h4⟩ := h
  simp only [PyData.showable, PyData.showableAll, Bool.and_eq_true] at h1
  simp only [PyData.leavesShort, PyData.leavesShortAll, Bool.and_eq_true] at h2
  simp only [PyData.weight, PyData.weightAll] at h3
  simp only [PyData.depth, PyData.depthAll] at h4
  exact ⟨⟨h1.1, h2.1, by omega, by omega⟩, ⟨h1.2.1, h2.2.1, by omega, by omega⟩, ⟨h1.2.2.1, h2.2.2.1, by omega, by omega⟩⟩
theorem sc_is_member : FnScope ["value", "part", "word", "mode"] ["value"] (defScope s_is_member) :=
  ⟨rfl, rfl, rfl, by decide +kernel, rfl, by decide +kernel, by decide +kernel⟩
theorem ok_member {f T_CHANGES : Addr} {fd : FuncData} {t1 t2 t3 : Tok} (F : Fun K "is_member" "is_member" s_is_member f fd) (B : Bl mg)
    (g_LAST : mg "LAST_PART" = some (.int 1000000 t1)) (g_LOCKS : mg "LOCKS" = some (.str "locks" t2)) (g_CHANGED : mg "CHANGED" = some (.str "changes" t3))
    (D_is_within : Ce P w K mg base CX0 2 "is_within" ["value", "least", "most"] (fun vs H Q _ => ∃ x d lo hi, vs = [x, .int lo, .int hi] ∧ Dx K H x d ∧ Q (.bl (isW lo hi d)) H))
    (D_is_mode : Ce P w K mg base CX0 1 "is_mode" ["value"] (spIs K)) (D_is_change : Ce P w K mg base CX0 1 "is_change" ["value"] (spB K isCh)) :
    FnG P w K mg base CX0 3 f fd ["value"] (spB K memD) := by
  refine fn_q F sc_is_member (fun vs H Q E h => ?_) (fun cdv A outer s H vs Q E hr hG h => ?_)
  · obtain ⟨x, d, rfl, _⟩ := h
    rfl
  · obtain ⟨x, d, rfl, hx, sm, q⟩ := h
    have hu := hu_of hr
    refine ⟨_, (pss_cons (ps_if (PW.pt (pw_or (pt_not (pt_val (pe_callB call_isi (by rfl) B.n_isinstance (by decide +kernel) (pa_cons (pv 0) (pa_cons (pe_bltn (v := .ty "tuple") (u := .type "tuple") (by rfl) B.n_tuple (by decide +kernel) rfl) pa_nil))))) (pw_or1 (pt_cmpR op_ne (pe_callB call_len_seq (by rfl) B.n_len (by decide +kernel) (pa_cons (pv 0) pa_nil)) pe_int (nomark _))))) (pss_one (ps_ret pe_bl)) pss_nil)
      (pss_cons (ps_asg (pv 0) (pg_tup rfl (pgs_cons (pg_name (i := 1) sc_is_member.nd rfl (Or.inl rfl)) (pgs_cons (pg_name (i := 2) sc_is_member.nd rfl (Or.inl rfl)) (pgs_cons (pg_name (i := 3) sc_is_member.nd rfl (Or.inl rfl)) pgs_nil)))))
      (pss_cons (ps_if (pt_not (pt_val (pe_ce D_is_within (hr.mono (by decide)) hG (pa_cons (pv 1) (pa_cons pe_int (pa_cons (pe_glob (v := .int 1000000) (by rfl) g_LAST ⟨_, rfl⟩) pa_nil))) pass0))) (pss_one (ps_ret pe_bl)) pss_nil)
      (pss_one (ps_ret (pe_or (pe_and (pe_cmpR (op_eqS hr.units) (pv 2) (pe_glob (v := .str "locks") (by rfl) g_LOCKS ⟨_, rfl⟩) (nomark _)) (pe_one (pe_ce D_is_mode (hr.mono (by decide)) hG (pa_cons (pv 3) pa_nil) pass0))) (pe_one (pe_and (pe_cmpR (op_eqS hr.units) (pv 2) (pe_glob (v := .str "changes") (by rfl) g_CHANGED ⟨_, rfl⟩) (nomark _)) (pe_one (pe_ce D_is_change (hr.mono (by decide)) hG (pa_cons (pv 3) pa_nil) pass0)))))))))), ?_⟩
    refine ⟨x, rfl, x, .ty "tuple", _, _, _, rfl, .ty _, hx.tyx, kit_kd (T := "tuple") (by simp) d, ?_⟩
    cases d with
    | tuple ds =>
      cases hx with
      | tup hs ha =>
        rename_i a xs
        have hl := dxa_len ha
        refine ⟨true, rfl, _, rfl, a, xs, rfl, .inr hs, rfl, ?_⟩
        match ds, xs, ha, hl with
        | [p, w', m], [x1, x2, x3], ha, _ =>
          obtain ⟨s1, s2, s3⟩ := sm_tup3 sm
          cases ha with
          | cons h1 ha =>
            cases ha with
            | cons h2 ha =>
              cases ha with
              | cons h3 ha =>
                refine ⟨false, rfl, _, rfl, a, _, rfl, hs, rfl, _, _, rfl, _, _, rfl, _, _, rfl, rfl, ?_⟩
                refine ⟨_, rfl, x1, p, 1, 1000000, rfl, h1, _, rfl, ?_⟩
                have q : Q (.bl (isW 1 1000000 p && ((isT "locks" w' && (rkD m).isSome) || (isT "changes" w' && isCh m)))) H := q
                cases e1 : isW 1 1000000 p with
                | false => rw [e1] at q; exact q
                | true =>
                  rw [e1] at q
                  refine ⟨_, rfl, w', "locks", h2, rfl, s2, ?_⟩
                  cases e2 : isT "locks" w' with
                  | true =>
                    rw [e2] at q
                    have e4 : isT "changes" w' = false := by
                      cases w' with
                      | str z =>
                        have e2 := of_decide_eq_true e2
                        subst e2
                        exact decide_eq_false (show ¬ (("locks" : Str) = "changes") by decide +kernel)
                      | _ => rfl
                    rw [e4] at q
                    refine ⟨true, rfl, _, rfl, x3, m, rfl, h3, ?_⟩
                    cases e3 : (rkD m).isSome with
                    | true => rw [e3] at q; exact ⟨true, rfl, q⟩
                    | false =>
                      rw [e3] at q
                      refine ⟨false, rfl, _, rfl, w', "changes", h2, rfl, s2, ?_⟩
                      rw [e4]
                      exact ⟨false, rfl, q⟩
                  | false =>
                    rw [e2] at q
                    refine ⟨false, rfl, false, rfl, _, rfl, w', "changes", h2, rfl, s2, ?_⟩
                    cases e4 : isT "changes" w' with
                    | true =>
                      rw [e4] at q
                      refine ⟨true, rfl, _, rfl, x3, m, rfl, h3, s3, ?_⟩
                      exact q
                    | false => rw [e4] at q; exact ⟨false, rfl, q⟩
        | [], [], _, _ => exact ⟨true, rfl, q⟩
        | [_], [_], _, _ => exact ⟨true, rfl, q⟩
        | [_, _], [_, _], _, _ => exact ⟨true, rfl, q⟩
        | a1 :: a2 :: a3 :: a4 :: r, x1 :: x2 :: x3 :: x4 :: r', _, hl =>
          refine ⟨true, ?_, q⟩
          show V.bl (!decide _) = V.bl true
          congr 1
    | _ =>
      refine ⟨false, rfl, ?_⟩
      exact q
theorem beq_dec (a b : Str) : (a == b) = decide (b = a) := by
  rw [Bool.eq_iff_iff]
  simp
  exact eq_comm
theorem inV_rk (y : Str) : inV (V.str y) [V.str "hold", .str "keep", .str "change", .str "replace"] = (rkS y).isSome := by
  simp only [inV, List.any_cons, List.any_nil, eqV, beq_dec, Bool.or_false]
  unfold rkS
  by_cases h1 : y = "hold"
  · subst h1; decide +kernel
  by_cases h2 : y = "keep"
  · subst h2; decide +kernel
  by_cases h3 : y = "change"
  · subst h3; decide +kernel
  by_cases h4 : y = "replace"
  · subst h4; decide +kernel
  simp [h1, h2, h3, h4]
theorem inV_ch (y : Str) : inV (V.str y) [V.str "change", .str "replace"] = isCh (.str y) := by
  simp only [inV, List.any_cons, List.any_nil, eqV, beq_dec, Bool.or_false, isCh, isT]
theorem sc_is_name : FnScope ["value"] ["value"] (defScope s_is_name) :=
  ⟨rfl, rfl, rfl, by decide +kernel, rfl, by decide +kernel, by decide +kernel⟩
theorem ok_name {f : Addr} {fd : FuncData} {t1 : Tok} (F : Fun K "is_name" "is_name" s_is_name f fd) (B : Bl mg) (g_LON : mg "LONGEST_NAME" = some (.int 6 t1)) :
    FnG P w K mg base CX0 1 f fd ["value"] (fun vs H Q _ => ∃ x d, vs = [x] ∧ Dx K H x d ∧ Sm d ∧ Q (.bl (nmD d)) H) := by
  refine fn_q F sc_is_name (fun vs H Q E h => ?_) (fun cdv A outer s H vs Q E hr hG h => ?_)
  · obtain ⟨x, d, rfl, _⟩ := h
    rfl
  · obtain ⟨x, d, rfl, hx, sm, q⟩ := h
    have hu := hu_of hr
    refine ⟨_, (pss_cons (ps_if (PW.pt (pw_or (pt_not (pt_val (pe_callB call_isi (by rfl) B.n_isinstance (by decide +kernel) (pa_cons (pv 0) (pa_cons (pe_bltn (v := .ty "str") (u := .type "str") (by rfl) B.n_str (by decide +kernel) rfl) pa_nil))))) (pw_or1 (pt_cmpR op_gt (pe_callB call_len_str (by rfl) B.n_len (by decide +kernel) (pa_cons (pv 0) pa_nil)) (pe_glob (v := .int 6) (by rfl) g_LON ⟨_, rfl⟩) (nomark _))))) (pss_one (ps_ret pe_bl)) pss_nil)
      (pss_one (ps_ret (pe_and (pe_bm0 PySem.F.plainAttrs_str PySem.F.slot_str_isascii PySem.F.type_str_isascii mt_isascii (pv 0)) (pe_and (pe_bm0 PySem.F.plainAttrs_str PySem.F.slot_str_isalpha PySem.F.type_str_isalpha mt_isalpha (pv 0)) (pe_one (pe_bm0 PySem.F.plainAttrs_str PySem.F.slot_str_islower PySem.F.type_str_islower mt_islower (pv 0)))))))), ?_⟩
    refine ⟨x, rfl, x, .ty "str", _, _, _, rfl, .ty _, hx.tyx, kit_str d, ?_⟩
    cases d with
    | str z =>
      cases hx
      have q : Q (.bl (decide (z.length ≤ 6) && (Txt.isascii z && (Txt.isalpha z && Txt.islower z)))) H := by
        have e : nmZ z = nmD (.str z) := nm_ln z
        unfold nmZ at e
        rw [e]
        exact q
      have zl : z.length ≤ sizeLine := Nat.le_trans (sm_strlen sm) (by decide)
      refine ⟨true, rfl, _, rfl, z, rfl, zl, _, _, rfl, rfl, _, rfl, ite2 (fun c => ?_) fun c => ?_⟩
      · have e : decide (z.length ≤ 6) = false := by
          have := of_decide_eq_true c
          exact decide_eq_false (by omega)
        rw [e] at q
        exact q
      · have e : decide (z.length ≤ 6) = true := by
          have : ¬ (6 < (z.length : Int)) := fun h => c (decide_eq_true h)
          exact decide_eq_true (by omega)
        rw [e, Bool.true_and] at q
        refine ⟨_, rfl, rfl, z, rfl, rfl, trivial, _, rfl, ?_⟩
        cases e1 : Txt.isascii z with
        | false => rw [e1] at q; exact q
        | true =>
          rw [e1, Bool.true_and] at q
          refine ⟨_, rfl, rfl, z, rfl, rfl, trivial, _, rfl, ?_⟩
          cases e2 : Txt.isalpha z with
          | false => rw [e2] at q; exact q
          | true =>
            rw [e2, Bool.true_and] at q
            exact ⟨_, rfl, rfl, z, rfl, rfl, trivial, q⟩
    | _ => exact ⟨false, rfl, q⟩
end
end K92

set_option maxRecDepth 100000
set_option maxHeartbeats 800000
namespace K92
open PySem PySem.Spec L2 Rm
open PyProof.Rows hiding St
section
variable {P : Program} {w : World} {K : PySem.W.Frag} {mg : Str → Option Value} {base : Heap}
theorem sc_is_set_number : FnScope ["value"] ["value"] (defScope s_is_set_number) :=
  ⟨rfl, rfl, rfl, by decide +kernel, rfl, by decide +kernel, by decide +kernel⟩
theorem ok_setno {f : Addr} {fd : FuncData} {t1 : Tok} (F : Fun K "is_set_number" "is_set_number" s_is_set_number f fd) (g_SET : mg "LAST_SET" = some (.int 1000000 t1))
    (D_is_within : Ce P w K mg base CX0 2 "is_within" ["value", "least", "most"] (fun vs H Q _ => ∃ x d lo hi, vs = [x, .int lo, .int hi] ∧ Dx K H x d ∧ Q (.bl (isW lo hi d)) H)) :
    FnG P w K mg base CX0 3 f fd ["value"] (fun vs H Q _ => ∃ x d, vs = [x] ∧ Dx K H x d ∧ Q (.bl (isW 1 1000000 d)) H) := by
  refine fn_q F sc_is_set_number (fun vs H Q E h => ?_) (fun cdv A outer s H vs Q E hr hG h => ?_)
  · obtain ⟨x, d, rfl, _⟩ := h
    rfl
  · obtain ⟨x, d, rfl, hx, q⟩ := h
    have hu := hu_of hr
    refine ⟨_, (pss_one (ps_ret (pe_ce D_is_within (hr.mono (by decide)) hG (pa_cons (pv 0) (pa_cons pe_int (pa_cons (pe_glob (v := .int 1000000) (by rfl) g_SET ⟨_, rfl⟩) pa_nil))) pass0))), ?_⟩
    exact ⟨_, rfl, x, d, 1, 1000000, rfl, hx, q⟩
def spDiff (K : PySem.W.Frag) : Sp := fun vs H Q _ => ∃ (l : Addr) (xs : List V) (ms : List MB), vs = [.ref l] ∧ SqL K H l xs ∧ DxAll K H xs (ms.map mbD) ∧ ms.length ≤ 100000 ∧ Q (.bl (decide (ms.length ≤ 40) && decide ms.Nodup)) H
theorem mbD_inj {a b : MB} (h : mbD a = mbD b) : a = b := by
  obtain ⟨p, w, m⟩ := a
  obtain ⟨p', w', m'⟩ := b
  simp only [mbD, mbL, PyData.tuple.injEq, List.cons.injEq, PyData.int.injEq, PyData.str.injEq, and_true] at h
  obtain ⟨rfl, rfl, rfl⟩ := h
  rfl
theorem nd_mb {ms : List MB} : (ms.map mbD).Nodup ↔ ms.Nodup := by
  induction ms with
  | nil => simp
  | cons m l ih =>
    rw [List.map_cons, List.nodup_cons, List.nodup_cons, ih]
    refine and_congr_left fun _ => not_congr ⟨fun h => ?_, fun h => List.mem_map_of_mem h⟩
    obtain ⟨e, he, eq⟩ := List.mem_map.mp h
    rw [← mbD_inj eq]
    exact he
theorem ft_mb (m : MB) : isFT (mbD m) := ⟨mbL m, rfl, fun e he => by
  have he : e = .int m.part ∨ e = .str m.word ∨ e = .str m.mode := by simpa [mbL] using he
  rcases he with rfl | rfl | rfl <;> rfl⟩
theorem sc_are_different : FnScope ["members"] ["members"] (defScope s_are_different) :=
  ⟨rfl, rfl, rfl, by decide +kernel, rfl, by decide +kernel, by decide +kernel⟩
theorem ok_diff {f : Addr} {fd : FuncData} {t1 : Tok} (F : Fun K "are_different" "are_different" s_are_different f fd) (B : Bl mg) (g_MEM : mg "MOST_MEMBERS" = some (.int 40 t1)) :
    FnG P w K mg base CX0 2 f fd ["members"] (spDiff K) := by
  refine fn_q F sc_are_different (fun vs H Q E h => ?_) (fun cdv A outer s H vs Q E hr hG h => ?_)
  · obtain ⟨l, xs, ms, rfl, _⟩ := h
    rfl
  · obtain ⟨l, xs, ms, rfl, hl, hx, hz, q⟩ := h
    have hu := hu_of hr
    refine ⟨_, (pss_one (ps_ret (pe_and (pe_cmpR op_le (pe_callB call_len_seq (by rfl) B.n_len (by decide +kernel) (pa_cons (pv 0) pa_nil)) (pe_glob (v := .int 40) (by rfl) g_MEM ⟨_, rfl⟩) (nomark _)) (pe_one (pe_cmpR op_eq (pe_card (hr.mono (by decide)) rfl (by rfl) B.n_len (by rfl) B.n_set (pv 0)) (pe_callB call_len_seq (by rfl) B.n_len (by decide +kernel) (pa_cons (pv 0) pa_nil)) (nomark _)))))), ?_⟩
    have ll : xs.length = ms.length := by
      have := dxa_len hx
      rwa [List.length_map] at this
    refine ⟨_, rfl, l, xs, rfl, .inl hl, _, _, rfl, rfl, _, rfl, ite2 (fun c => ?_) fun c => ?_⟩
    · have c := of_decide_eq_true c
      rw [ll] at c
      refine ⟨_, rfl, l, xs, ms.map mbD, rfl, hl, hx, fun d hd => ?_, by omega, fun n nle niff => ⟨_, rfl, l, xs, rfl, .inl hl, rfl, ?_⟩⟩
      · obtain ⟨m, _, rfl⟩ := List.mem_map.mp hd
        exact ft_mb m
      · rw [List.length_map, nd_mb] at niff
        have e : decide (V.int ((n : Nat) : Int) = V.int ((xs.length : Nat) : Int)) = decide ms.Nodup := by
          rw [decide_eq_decide, ll]
          refine Iff.trans ⟨fun e => ?_, fun e => by rw [e]⟩ niff
          have := V.int.inj e
          omega
        rw [decide_eq_true (show ms.length ≤ 40 by omega), Bool.true_and] at q
        show Q (.bl (decide (V.int ((n : Nat) : Int) = V.int ((xs.length : Nat) : Int)))) H
        rw [e]
        exact q
    · have c : ¬ ((xs.length : Int) ≤ 40) := fun h => c (decide_eq_true h)
      rw [decide_eq_false (show ¬ ms.length ≤ 40 by omega), Bool.false_and] at q
      exact q
theorem lf_wV {K : PySem.W.Frag} {H : Hp} {x : V} {d : PyData} (h : Lf d) (hx : Dx K H x d) : wV x = some (wD d) ∧ ∀ i, x = .int i → i.natAbs.log2 < 1920 := by
  obtain ⟨_, z⟩ := h
  rcases z with ⟨z, rfl⟩ | ⟨i, rfl, hi⟩
  · cases hx
    exact ⟨rfl, fun i e => by cases e⟩
  · cases hx
    refine ⟨rfl, fun j e => ?_⟩
    cases e
    have := log_lt hi
    omega
theorem take_snoc {α : Type} {l : List α} {i : Nat} {d : α} (h : l[i]? = some d) : l.take (i + 1) = l.take i ++ [d] := by
  rw [List.take_succ, h]
  rfl
theorem same_put {H H' : Hp} {D : Addr} {o : HO} (n : H D = none) (s : Same H H') : Same H (upd H' D o) := fun b u h => by
  rw [upd_ne (fun e => by rw [e, n] at h; cases h)]
  exact s b u h
def nV (w : Str) : V := match numZ w with
  | some v => .int v
  | none => .non
def spNum : Sp := fun vs H Q _ => ∃ w, vs = [.str w] ∧ w.length ≤ 100000 ∧ Q (nV w) H
theorem sc_numeral : FnScope ["word", "digits", "value"] ["word"] (defScope s_numeral) :=
  ⟨rfl, rfl, rfl, by decide +kernel, rfl, by decide +kernel, by decide +kernel⟩
theorem ok_numeral {f : Addr} {fd : FuncData} {t1 : Tok} (F : Fun K "numeral" "numeral" s_numeral f fd) (B : Bl mg) (g_MOD : mg "MOST_DIGITS" = some (.int 30 t1)) :
    FnG P w K mg base CX0 1 f fd ["word"] spNum := by
  refine fn_q F sc_numeral (fun vs H Q E h => ?_) (fun cdv A outer s H vs Q E hr hG h => ?_)
  · obtain ⟨z, rfl, _⟩ := h
    rfl
  · obtain ⟨z, rfl, hz, q⟩ := h
    have hu := hu_of hr
    refine ⟨_, (pss_cons (ps_set (i := 1) sc_numeral.nd rfl (Or.inl rfl) (pe_ifExp (pt_cmpR op_eq (pe_slice sl_str (pv 0) po_none (po_some pe_int)) pe_str (nomark _)) (pe_slice sl_str (pv 0) (po_some pe_int) po_none) (pv 0)))
      (pss_cons (ps_if (PW.pt (pw_or (pt_not (pt_truth (pe_bm0 PySem.F.plainAttrs_str PySem.F.slot_str_isascii PySem.F.type_str_isascii mt_isascii (pv 1)) (by intro _; rfl))) (pw_or (pt_not (pt_truth (pe_bm0 PySem.F.plainAttrs_str PySem.F.slot_str_isdigit PySem.F.type_str_isdigit mt_isdigit (pv 1)) (by intro _; rfl))) (pw_or1 (pt_cmpR op_gt (pe_callB call_len_str (by rfl) B.n_len (by decide +kernel) (pa_cons (pv 1) pa_nil)) (pe_glob (v := .int 30) (by rfl) g_MOD ⟨_, rfl⟩) (nomark _)))))) (pss_one (ps_ret pe_non)) pss_nil)
      (pss_cons (ps_set (i := 2) sc_numeral.nd rfl (Or.inl rfl) (pe_callTy call_int_str (by rfl) B.n_int (by decide +kernel) (pa_cons (pv 0) pa_nil)))
      (pss_one (ps_ret (pe_ifExp (pt_cmpR op_eq (pe_callTy call_strIS (by rfl) B.n_str (by decide +kernel) (pa_cons (pv 2) pa_nil)) (pv 0) (nomark _)) (pv 2) pe_non)))))), ?_⟩
    have zl : z.length ≤ sizeLine := Nat.le_trans hz (by decide)
    refine Rm.seq_mid (fun σ' H' => σ' = [some (.str z), some (.str (dgZ z)), none] ∧ H' = H) ?_ (fun N hN => ?_)
    rotate_left
    · refine ⟨_, rfl, 1, rfl, z, rfl, zl, rfl, _, rfl, ite2 (fun c => ?_) fun c => ?_⟩
      · have e : cutS z none (some (1 : Int)) = "-" := V.str.inj (of_decide_eq_true c)
        refine ⟨_, rfl, 1, rfl, z, rfl, zl, hN _ _ ⟨?_, rfl⟩⟩
        unfold dgZ
        rw [if_pos e]
        rfl
      · have e : ¬ cutS z none (some (1 : Int)) = "-" := fun h => c (decide_eq_true (by rw [h]))
        refine ⟨_, rfl, hN _ _ ⟨?_, rfl⟩⟩
        unfold dgZ
        rw [if_neg e]
        rfl
    · rintro _ _ ⟨rfl, rfl⟩
      have dl : (dgZ z).length ≤ sizeLine := by
        unfold dgZ
        have := cutS_length z (some (1 : Int)) none
        split <;> omega
      have no : isDg (dgZ z) = false → Q .non _ := fun h => by
        have e : nV z = .non := by
          unfold nV numZ
          rw [h]
          rfl
        rw [← e]
        exact q
      refine ⟨_, rfl, rfl, _, rfl, rfl, trivial, _, rfl, ?_⟩
      cases e1 : Txt.isascii (dgZ z) with
      | false => exact no (by unfold isDg; rw [e1]; rfl)
      | true =>
        refine ⟨_, rfl, rfl, _, rfl, rfl, trivial, _, rfl, ?_⟩
        cases e2 : Txt.isdigit (dgZ z) with
        | false => exact no (by unfold isDg; rw [e1, e2]; rfl)
        | true =>
          refine ⟨_, rfl, _, rfl, dl, _, _, rfl, rfl, _, rfl, ite2 (fun c => ?_) fun c => ?_⟩
          · have := of_decide_eq_true c
            exact no (by unfold isDg; rw [e1, e2, Bool.true_and, Bool.true_and]; exact decide_eq_false (by omega))
          · have l30 : (dgZ z).length ≤ 30 := by
              have h : ¬ ((30 : Int) < ((dgZ z).length : Int)) := fun h => c (decide_eq_true h)
              omega
            have yes : isDg (dgZ z) = true := by unfold isDg; rw [e1, e2, decide_eq_true l30]; rfl
            obtain ⟨v, ev, vl, wl⟩ := dg_int yes
            have en : nV z = if sI v = z then .int v else .non := by
              unfold nV numZ
              rw [if_pos yes, ev]
              dsimp only
              by_cases h : sI v = z
              · rw [if_pos h, if_pos h]
              · rw [if_neg h, if_neg h]
            rw [en] at q
            refine ⟨_, rfl, z, v, rfl, ev, by omega, _, rfl, .int v, sI v, rfl, rfl, fun i e => ?_, _, rfl, rfl, _, rfl, ite2 (fun c => ?_) fun c => ?_⟩
            · cases e
              have := log_lt vl
              omega
            · have e : sI v = z := V.str.inj (of_decide_eq_true c)
              rw [if_pos e] at q
              exact ⟨_, rfl, q⟩
            · have e : ¬ sI v = z := fun h => c (decide_eq_true (by rw [h]))
              rw [if_neg e] at q
              exact q
def spWords (K : PySem.W.Frag) : Sp := fun vs H Q _ => ∃ a xs ds, vs = [.ref a] ∧ SqT K H a xs ∧ DxAll K H xs ds ∧ (∀ d ∈ ds, Lf d) ∧ 1 ≤ ds.length ∧ ds.length ≤ 5 ∧ ∀ H', Same H H' → Q (.str (lnT ds)) H'
theorem wl_leL {ds : List PyData} (h : ∀ d ∈ ds, Lf d) : ∀ w ∈ ds.map wD, w.length ≤ 31 := fun w hw => by
  obtain ⟨d, hd, rfl⟩ := List.mem_map.mp hw
  exact (h d hd).wk.l31
end
end K92

set_option maxRecDepth 100000
set_option maxHeartbeats 800000
namespace K92
open PySem PySem.Spec L2 Rm
open PyProof.Rows hiding St
section
variable {P : Program} {w : World} {K : PySem.W.Frag} {mg : Str → Option Value} {base : Heap}
def fdD : List Str → List PyData
  | [] => []
  | w :: ws => nD w :: ws.map .str
def fdV : List Str → List V
  | [] => []
  | w :: ws => nV w :: ws.map V.str
theorem dx_nV {H : Hp} (w : Str) : Dx K H (nV w) (nD w) := by
  unfold nV nD
  cases numZ w with
  | none => exact .non
  | some v => exact .int v
theorem dx_strs {H : Hp} : ∀ (xs : List Str), DxAll K H (xs.map V.str) (xs.map .str)
  | [] => .nil
  | x :: xs => .cons (.str x) (dx_strs xs)
theorem dx_fd {H : Hp} : ∀ ws : List Str, DxAll K H (fdV ws) (fdD ws)
  | [] => .nil
  | w :: ws => .cons (dx_nV w) (dx_strs ws)
theorem mem_fd : ∀ {ws : List Str}, ws ≠ [] → (∀ m, mbZ ws = some m → memD (.tuple (fdD ws)) = true ∧ fdD ws = mbL m) ∧ (mbZ ws = none → memD (.tuple (fdD ws)) = false)
  | [a], _ => ⟨fun m h => (by cases h), fun _ => rfl⟩
  | [a, b], _ => ⟨fun m h => (by cases h), fun _ => rfl⟩
  | [a, b, c], _ => by
    have e0 : fdD [a, b, c] = [nD a, .str b, .str c] := rfl
    have e1 : mbZ [a, b, c] = (numZ a).bind fun p => if okM ⟨p, b, c⟩ = true then some ⟨p, b, c⟩ else none := rfl
    rw [e0, e1]
    cases e : numZ a with
    | none =>
      have en : nD a = .none := by unfold nD; rw [e]
      rw [en]
      exact ⟨fun m h => (by cases h), fun _ => rfl⟩
    | some p =>
      have en : nD a = .int p := by unfold nD; rw [e]
      rw [en, Option.bind_some]
      by_cases h : okM ⟨p, b, c⟩ = true
      · rw [if_pos h]
        refine ⟨fun m hm => ?_, fun z => (by cases z)⟩
        cases hm
        exact ⟨h, rfl⟩
      · rw [if_neg h]
        exact ⟨fun m hm => (by cases hm), fun _ => eq_false_of_ne_true h⟩
  | a :: b :: c :: d :: r, _ => ⟨fun m h => (by cases h), fun _ => rfl⟩
theorem cut_from {xs : List V} {n : Nat} (h : n ≤ xs.length) : cutV xs (some (n : Int)) none = xs.drop n := by
  have e1 : HT.sIx xs.length 0 (some (n : Int)) = n := by
    rw [HT.sIx_nat]
    exact Nat.min_eq_left h
  have e2 : HT.sIx xs.length xs.length none = xs.length := rfl
  unfold cutV
  rw [e1, e2, List.take_of_length_le (by rw [List.length_drop]; exact Nat.le_refl _)]
def spMemOf (K : PySem.W.Frag) : Sp := fun vs H Q _ => ∃ (l : Addr) (ws : List Str), vs = [.ref l] ∧ SqL K H l (ws.map V.str) ∧ ws ≠ [] ∧ ws.length ≤ 100000 ∧ (∀ u ∈ ws, u.length ≤ 100000) ∧ Sm (.tuple (fdD ws)) ∧
  ∀ x H', Same H H' → (∀ m, mbZ ws = some m → Dx K H' x (mbD m)) → (mbZ ws = none → x = .non) → Q x H'
theorem sc_member_of : FnScope ["words", "found"] ["words"] (defScope s_member_of) :=
  ⟨rfl, rfl, rfl, by decide +kernel, rfl, by decide +kernel, by decide +kernel⟩
theorem ok_memof {f : Addr} {fd : FuncData} (F : Fun K "member_of" "member_of" s_member_of f fd) (B : Bl mg)
    (D_numeral : Ce P w K mg base CX0 1 "numeral" ["word"] spNum) (D_is_member : Ce P w K mg base CX0 3 "is_member" ["value"] (spB K memD)) :
    FnG P w K mg base CX0 4 f fd ["words"] (spMemOf K) := by
  refine fn_q F sc_member_of (fun vs H Q E h => ?_) (fun cdv A outer s H vs Q E hr hG h => ?_)
  · obtain ⟨l, ws, rfl, _⟩ := h
    rfl
  · obtain ⟨l, ws, rfl, hl, ne, ln, lw, sm, q⟩ := h
    have hu := hu_of hr
    refine ⟨_, (pss_cons (ps_set (i := 1) sc_member_of.nd rfl (Or.inl rfl) (pe_tup (pa_cons (pe_ce D_numeral (hr.mono (by decide)) hG (pa_cons (pe_ix ix_list (pv 0) pe_int (fun _ _ => rfl)) pa_nil) pass0) (StX.pa_star (pe_slice sl_list (pv 0) (po_some pe_int) po_none) pa_nil))))
      (pss_one (ps_ret (pe_ifExp (pt_val (pe_ce D_is_member (hr.mono (by decide)) hG (pa_cons (pv 1) pa_nil) pass0)) (pv 1) pe_non)))), ?_⟩
    obtain ⟨m1, m2⟩ := mem_fd ne
    obtain ⟨w0, r, rfl⟩ := List.exists_cons_of_ne_nil ne
    refine ⟨_, rfl, l, _, 0, .str w0, rfl, rfl, hl, atI_nat (j := 0) rfl, ?_⟩
    refine ⟨w0, rfl, lw w0 (.head _), ?_⟩
    refine ⟨_, rfl, 1, rfl, l, _, rfl, hl, fun p np => ?_⟩
    have ec : cutV ((w0 :: r).map V.str) (some 1) none = r.map V.str := cut_from (n := 1) (by simp)
    rw [ec]
    have s1 := same_new (o := .lst (r.map V.str)) np
    refine ⟨p, _, rfl, .inr (.inl (.inl upd_same)), ?_⟩
    dsimp only [tNil]
    rw [List.append_nil]
    refine ⟨by rw [List.length_cons, List.length_map]; exact Nat.le_trans ln (by decide), fun f nf => ?_⟩
    have s2 := s1.trans (same_new (o := .tup (nV w0 :: r.map V.str)) nf)
    have hx : Dx K (upd (upd H p (.lst (r.map V.str))) f (.tup (nV w0 :: r.map V.str))) (.ref f) (.tuple (fdD (w0 :: r))) := .tup (.inl (.inl upd_same)) (dx_fd (w0 :: r))
    generalize upd (upd H p (.lst (r.map V.str))) f (.tup (nV w0 :: r.map V.str)) = H2 at s2 hx ⊢
    refine ⟨_, rfl, _, _, rfl, hx, sm, _, rfl, ite2 (fun c => ?_) fun c => ?_⟩
    · refine ⟨_, rfl, q _ _ s2 (fun m hm => ?_) fun hn => ?_⟩
      · have e := (m1 m hm).2
        rw [e] at hx
        exact hx
      · rw [m2 hn] at c
        cases c
    · refine q _ _ s2 (fun m hm => ?_) fun _ => rfl
      rw [(m1 m hm).1] at c
      exact absurd rfl c
end
end K92

set_option maxRecDepth 100000
set_option maxHeartbeats 800000
namespace K92
open PySem PySem.Spec L2 Rm
open PyProof.Rows hiding St
section
variable {P : Program} {w : World} {K : PySem.W.Frag} {mg : Str → Option Value} {base : Heap}
def oV : Option Int → V
  | none => .non
  | some i => .int i
def oD : Option Int → PyData
  | none => .none
  | some i => .int i
theorem nV_o (w : Str) : nV w = oV (numZ w) := by
  unfold nV oV
  cases numZ w <;> rfl
theorem dx_o {H : Hp} (o : Option Int) : Dx K H (oV o) (oD o) := by
  cases o with
  | none => exact .non
  | some i => exact .int i
def obD : Option MB → PyData
  | none => .none
  | some m => mbD m
theorem lay_mb {m : MB} (h : okM m = true) : (mbD m).canLay0 = true ∧ (mbD m).depth ≤ 2 := by
  obtain ⟨_, _, c, d⟩ := okM_is h
  obtain ⟨p, w, md⟩ := m
  dsimp only at c d
  simp only [mbD, mbL, PyData.canLay0, PyData.canLayAll0, PyData.depth, PyData.depthAll]
  rcases c with rfl | rfl <;> rcases d with rfl | rfl | rfl | rfl <;> decide +kernel
theorem lay_ob : ∀ {os : List (Option MB)}, (∀ m, some m ∈ os → okM m = true) → PyData.canLayAll0 (os.map obD) = true
  | [], _ => rfl
  | none :: os, h => by
    show (PyData.canLay0 .none && PyData.canLayAll0 (os.map obD)) = true
    rw [lay_ob fun m hm => h m (.tail _ hm)]
    rfl
  | some m :: os, h => by
    show (PyData.canLay0 (mbD m) && PyData.canLayAll0 (os.map obD)) = true
    rw [(lay_mb (h m (.head _))).1, lay_ob fun m hm => h m (.tail _ hm)]
    rfl
theorem any_ob : ∀ {os : List (Option MB)}, anyB .none (os.map obD) = (allS os).isNone
  | [] => rfl
  | none :: os => by
    have e : anyB .none ((none :: os).map obD) = (PyData.eqv .none .none || anyB .none (os.map obD)) := rfl
    have e2 : PyData.eqv .none .none = true := by decide +kernel
    rw [e, e2]
    rfl
  | some m :: os => by
    have e : anyB .none ((some m :: os).map obD) = (PyData.eqv (mbD m) .none || anyB .none (os.map obD)) := rfl
    have e2 : PyData.eqv (mbD m) .none = false := by simp [mbD, PyData.eqv]
    rw [e, e2, Bool.false_or, any_ob]
    show _ = ((allS os).map _).isNone
    cases allS os <;> rfl
theorem allS_is : ∀ {os : List (Option MB)} {l : List MB}, allS os = some l → os = l.map some
  | [], l, h => by cases h; rfl
  | none :: os, l, h => by cases h
  | some m :: os, l, h => by
    have h : (allS os).map (m :: ·) = some l := h
    cases e : allS os with
    | none => rw [e] at h; cases h
    | some l' =>
      rw [e] at h
      cases h
      rw [allS_is e]
      rfl
def spSetOf (K : PySem.W.Frag) : Sp := fun vs H Q _ => ∃ (o : Option Int) (l : Addr) (xs : List V) (os : List (Option MB)), vs = [oV o, .ref l] ∧ SqL K H l xs ∧ DxAll K H xs (os.map obD) ∧ (∀ m, some m ∈ os → okM m = true) ∧ os.length ≤ 100000 ∧
  ∀ x H', Same H H' → (∀ w, setZ o os = some w → Dx K H' x (wrD w)) → (setZ o os = none → x = .non) → Q x H'
theorem sc_set_of : FnScope ["number", "members"] ["number", "members"] (defScope s_set_of) :=
  ⟨rfl, rfl, rfl, by decide +kernel, rfl, by decide +kernel, by decide +kernel⟩
theorem ok_setof {f : Addr} {fd : FuncData} (F : Fun K "set_of" "set_of" s_set_of f fd) (B : Bl mg)
    (D_is_set_number : Ce P w K mg base CX0 3 "is_set_number" ["value"] (fun vs H Q _ => ∃ x d, vs = [x] ∧ Dx K H x d ∧ Q (.bl (isW 1 1000000 d)) H)) (D_are_different : Ce P w K mg base CX0 2 "are_different" ["members"] (spDiff K)) :
    FnG P w K mg base CX0 4 f fd ["number", "members"] (spSetOf K) := by
  refine fn_q F sc_set_of (fun vs H Q E h => ?_) (fun cdv A outer s H vs Q E hr hG h => ?_)
  · obtain ⟨o, l, xs, os, rfl, _⟩ := h
    rfl
  · obtain ⟨o, l, xs, os, rfl, hl, hx, ok, ln, q⟩ := h
    have hu := hu_of hr
    refine ⟨_, (pss_cons (ps_if (PW.pt (pw_or (pt_not (pt_val (pe_ce D_is_set_number (hr.mono (by decide)) hG (pa_cons (pv 0) pa_nil) pass0))) (pw_or (pt_cmpR (op_inDt hr.units) pe_non (pv 1) (by rfl)) (pw_or1 (pt_not (pt_val (pe_ce D_are_different (hr.mono (by decide)) hG (pa_cons (pv 1) pa_nil) pass0))))))) (pss_one (ps_ret pe_non)) pss_nil)
      (pss_one (ps_ret (pe_tup (pa_cons pe_str (pa_cons (pv 0) (pa_cons (pe_callTy call_tuple_of (by rfl) B.n_tuple (by decide +kernel) (pa_cons (pv 1) pa_nil)) pa_nil))))))), ?_⟩
    have no : setZ o os = none → Q .non H := fun e => q _ _ (.refl _) (fun w hw => by rw [e] at hw; cases hw) fun _ => rfl
    refine ⟨_, rfl, _, _, rfl, dx_o o, ?_⟩
    refine ⟨_, rfl, ite2 (fun c => ?_) fun c => ?_⟩
    · refine ite2 (fun _ => no ?_) fun z => absurd rfl z
      unfold setZ rng
      cases o with
      | none => rfl
      | some n =>
        have c : (!isW 1 1000000 (.int n)) = true := c
        rw [Bool.not_eq_true'] at c
        rw [Option.bind_some, if_neg (by rw [c]; simp)]
        rfl
    have hn : ∃ n, o = some n ∧ isW 1 1000000 (.int n) = true := by
      have c : ¬ (!isW 1 1000000 (oD o)) = true := c
      cases o with
      | none => exact absurd rfl c
      | some n =>
        refine ⟨n, rfl, ?_⟩
        cases e : isW 1 1000000 (.int n) with
        | true => rfl
        | false => exact absurd (by show (!isW 1 1000000 (.int n)) = true; rw [e]; rfl) c
    obtain ⟨n, rfl, hn⟩ := hn
    refine ⟨_, rfl, .none, l, xs, os.map obD, .non, rfl, .inl hl, dpAll_of (lay_ob ok) hx, rfl, lay_ob ok, by decide, _, rfl, ?_⟩
    rw [if_neg (by simp), any_ob]
    refine ite2 (fun c => ?_) fun c => ?_
    · refine ite2 (fun _ => no ?_) fun z => absurd rfl z
      have e : allS os = none := Option.isNone_iff_eq_none.mp c
      unfold setZ
      rw [rng_ok hn, e]
      rfl
    obtain ⟨ms, e⟩ : ∃ ms, allS os = some ms := by
      cases e : allS os with
      | none => rw [e] at c; exact absurd rfl c
      | some ms => exact ⟨ms, rfl⟩
    have eo := allS_is e
    subst eo
    rw [List.map_map] at hx
    have hx : DxAll K H xs (ms.map mbD) := hx
    rw [List.length_map] at ln
    refine ⟨_, rfl, l, xs, ms, rfl, hl, hx, ln, _, rfl, ite2 (fun c => ?_) fun c => ?_⟩
    · refine no ?_
      unfold setZ
      rw [rng_ok hn, e]
      show (if _ then _ else _) = _
      refine if_neg fun z => ?_
      rw [z] at c
      cases c
    have c : (decide (ms.length ≤ 40) && decide ms.Nodup) = true := by
      cases h : (decide (ms.length ≤ 40) && decide ms.Nodup) with
      | true => rfl
      | false => rw [h] at c; exact absurd rfl c
    have ez : setZ (some n) (ms.map some) = some (.set n ms) := by
      unfold setZ
      rw [rng_ok hn, e]
      exact if_pos c
    refine ⟨_, rfl, _, rfl, l, xs, rfl, .inl ⟨hl, fun t nt => ⟨(show 3 ≤ sizeLine by decide), fun u nu => ?_⟩⟩⟩
    have s1 := same_new (o := .tup xs) nt
    have s2 := same_new (o := .tup [V.str "set", oV (some n), .ref t]) nu
    have ht : Dx K (upd (upd H t (.tup xs)) u (.tup [V.str "set", oV (some n), .ref t])) (.ref t) (.tuple (ms.map mbD)) := .tup (.inl (.inl (s2 _ _ upd_same))) (hx.upR (.of (s1.trans s2)))
    refine q _ _ (s1.trans s2) (fun w hw => ?_) fun hw => by rw [ez] at hw; cases hw
    rw [ez] at hw
    cases hw
    exact .tup (.inl (.inl upd_same)) (.cons (.str _) (.cons (.int n) (.cons ht .nil)))
end
end K92

set_option maxRecDepth 100000
set_option maxHeartbeats 800000
namespace K92
open PySem PySem.Spec L2 Rm
open PyProof.Rows hiding St
section
variable {P : Program} {w : World} {K : PySem.W.Frag} {mg : Str → Option Value} {base : Heap}
theorem strs_sm : ∀ (ws : List Str), (∀ w ∈ ws, smC w = true) → PyData.showableAll (ws.map .str) = true ∧ PyData.leavesShortAll 100 (ws.map .str) = true ∧ PyData.depthAll (ws.map .str) = 0 ∧ PyData.weightAll (ws.map .str) ≤ tot ws
  | [], _ => ⟨rfl, rfl, by simp [PyData.depthAll], by simp [PyData.weightAll]⟩
  | w :: ws, h => by
    obtain ⟨a, b, c, d⟩ := rdW_sm 0 (h w (.head _))
    have e : rdW 0 w = .str w := rfl
    rw [e] at a b c d
    rw [if_neg (by omega)] at d
    obtain ⟨a2, b2, c2, d2⟩ := strs_sm ws fun x hx => h x (.tail _ hx)
    simp only [List.map_cons, PyData.showableAll, PyData.leavesShortAll, PyData.depthAll, PyData.weightAll, a, b, c, a2, b2, c2, Bool.and_true, true_and, tot_cons]
    refine ⟨rfl, ?_⟩
    omega
theorem sm_fd {ws : List Str} (ne : ws ≠ []) (h : ∀ w ∈ ws, smC w = true) (t : tot ws ≤ 90001) : Sm (.tuple (fdD ws)) := by
  obtain ⟨w0, r, rfl⟩ := List.exists_cons_of_ne_nil ne
  obtain ⟨a, b, c, d⟩ := rdW_sm 1 (h w0 (.head _))
  have e : rdW 1 w0 = nD w0 := rfl
  rw [e] at a b c d
  rw [if_pos (by omega)] at d
  obtain ⟨a2, b2, c2, d2⟩ := strs_sm r fun x hx => h x (.tail _ hx)
  rw [tot_cons] at t
  refine ⟨?_, ?_, ?_, ?_⟩ <;> simp only [fdD, PyData.showable, PyData.showableAll, PyData.leavesShort, PyData.leavesShortAll, PyData.weight, PyData.weightAll, PyData.depth, PyData.depthAll, a, b, c, a2, b2, c2, Bool.and_true]
  · omega
  · decide
theorem sm_strA {z : Str} (h : asA z = true) (l : z.length ≤ 90000) : Sm (.str z) := sm_text h (by omega)
theorem sh_strs {ws : List Str} (h : ∀ u ∈ ws, asA u = true) : (PyData.list (ws.map .str)).canLay0 = true ∧ SeqAt.shaped (.list (ws.map .str)) = true := by
  have key : ∀ ws : List Str, (∀ u ∈ ws, asA u = true) → PyData.canLayAll0 (ws.map .str) = true := fun ws => by
    induction ws with
    | nil => exact fun _ => rfl
    | cons u ws ih =>
      intro h
      show (PyData.canLay0 (.str u) && PyData.canLayAll0 (ws.map .str)) = true
      rw [ih fun x hx => h x (.tail _ hx)]
      simp only [PyData.canLay0, as_ok (h u (.head _)), Bool.and_true]
  have e : (PyData.list (ws.map .str)).canLay0 = true := by simpa only [PyData.canLay0] using key ws h
  refine ⟨e, ?_⟩
  unfold SeqAt.shaped
  rw [Bool.and_eq_true]
  refine ⟨e, decide_eq_true ?_⟩
  simp only [PyData.depth, dp_depth]
  decide
def spMarkOf (K : PySem.W.Frag) : Sp := fun vs H Q _ => ∃ (nm : Str) (o : Option Int) (l : Addr) (ws : List Str), vs = [.str nm, oV o, .ref l] ∧ SqL K H l (ws.map V.str) ∧ ws ≠ [] ∧ tot ws ≤ 90001 ∧ (∀ u ∈ ws, asA u = true) ∧ asA nm = true ∧ nm.length ≤ 90000 ∧
  ∀ x H', Same H H' → (∀ w, markZ nm o ws = some w → Dx K H' x (wrD w)) → (markZ nm o ws = none → x = .non) → Q x H'
theorem mkZ_none : mkZ [("none" : Str)] = some .none := if_pos rfl
theorem sc_mark_of : FnScope ["name", "version", "words", "mark", "number"] ["name", "version", "words"] (defScope s_mark_of) :=
  ⟨rfl, rfl, rfl, by decide +kernel, rfl, by decide +kernel, by decide +kernel⟩
theorem ok_markof {f : Addr} {fd : FuncData} {t1 : Tok} (F : Fun K "mark_of" "mark_of" s_mark_of f fd) (B : Bl mg) (g_VER : mg "LAST_VERSION" = some (.int 1000000 t1))
    (D_is_name : Ce P w K mg base CX0 1 "is_name" ["value"] (fun vs H Q _ => ∃ x d, vs = [x] ∧ Dx K H x d ∧ Sm d ∧ Q (.bl (nmD d)) H))
    (D_is_within : Ce P w K mg base CX0 2 "is_within" ["value", "least", "most"] (fun vs H Q _ => ∃ x d lo hi, vs = [x, .int lo, .int hi] ∧ Dx K H x d ∧ Q (.bl (isW lo hi d)) H))
    (D_is_set_number : Ce P w K mg base CX0 3 "is_set_number" ["value"] (fun vs H Q _ => ∃ x d, vs = [x] ∧ Dx K H x d ∧ Q (.bl (isW 1 1000000 d)) H))
    (D_numeral : Ce P w K mg base CX0 1 "numeral" ["word"] spNum) (D_member_of : Ce P w K mg base CX0 4 "member_of" ["words"] (spMemOf K)) :
    FnG P w K mg base CX0 5 f fd ["name", "version", "words"] (spMarkOf K) := by
  refine fn_q F sc_mark_of (fun vs H Q E h => ?_) (fun cdv A outer s H vs Q E hr hG h => ?_)
  · obtain ⟨nm, o, l, ws, rfl, _⟩ := h
    rfl
  · obtain ⟨nm, o, l, ws, rfl, hl, ne, tt, as, an, ln, q⟩ := h
    have hu := hu_of hr
    refine ⟨_, (pss_cons (ps_if (PW.pt (pw_or (pt_not (pt_val (pe_ce D_is_name (hr.mono (by decide)) hG (pa_cons (pv 0) pa_nil) pass0))) (pw_or1 (pt_not (pt_val (pe_ce D_is_within (hr.mono (by decide)) hG (pa_cons (pv 1) (pa_cons pe_int (pa_cons (pe_glob (v := .int 1000000) (by rfl) g_VER ⟨_, rfl⟩) pa_nil))) pass0)))))) (pss_one (ps_ret pe_non)) pss_nil)
      (pss_cons (ps_if (pt_cmpR (op_eqD hr.units) (pv 2) (pe_lst (pa_cons pe_str pa_nil)) (nomark _)) (pss_one (ps_ret (pe_tup (pa_cons pe_str (pa_cons (pv 0) (pa_cons (pv 1) (pa_cons pe_non pa_nil))))))) pss_nil)
      (pss_cons (ps_set (i := 3) sc_mark_of.nd rfl (Or.inl rfl) (pe_ce D_member_of (hr.mono (by decide)) hG (pa_cons (pv 2) pa_nil) pass0))
      (pss_cons (ps_if (PW.pt (pw_and (pt_cmpR op_eq (pe_ix ix_list (pv 2) pe_int (fun _ _ => rfl)) pe_str (nomark _)) (pw_and1 (pt_cmpR op_eq (pe_callB call_len_seq (by rfl) B.n_len (by decide +kernel) (pa_cons (pv 2) pa_nil)) pe_int (nomark _))))) (pss_cons (ps_set (i := 4) sc_mark_of.nd rfl (Or.inl rfl) (pe_ce D_numeral (hr.mono (by decide)) hG (pa_cons (pe_ix ix_list (pv 2) pe_int (fun _ _ => rfl)) pa_nil) pass0))
      (pss_one (ps_set (i := 3) sc_mark_of.nd rfl (Or.inl rfl) (pe_ifExp (pt_val (pe_ce D_is_set_number (hr.mono (by decide)) hG (pa_cons (pv 4) pa_nil) pass0)) (pv 4) pe_non)))) pss_nil)
      (pss_one (ps_ret (pe_ifExp (pt_cmpR op_isN (pv 3) pe_non (nomark _)) pe_non (pe_tup (pa_cons pe_str (pa_cons (pv 0) (pa_cons (pv 1) (pa_cons (pv 3) pa_nil)))))))))))), ?_⟩
    have no : markZ nm o ws = none → Q .non H := fun e => q _ _ (.refl _) (fun w hw => by rw [e] at hw; cases hw) fun _ => rfl
    have smw : ∀ u ∈ ws, smC u = true := fun u hu => asA_smC (as u hu)
    have lw : ∀ u ∈ ws, u.length ≤ 100000 := fun u hu => by have := tot_mem hu; omega
    have lnw : ws.length ≤ 100000 := by have := tot_len ws; omega
    refine ⟨_, rfl, _, _, rfl, .str nm, sm_strA an ln, _, rfl, ite2 (fun c => ?_) fun c => ?_⟩
    · refine ite2 (fun _ => no ?_) fun z => absurd rfl z
      have c : (!lnZ nm) = true := c
      rw [Bool.not_eq_true'] at c
      unfold markZ
      exact if_neg (by rw [c]; simp)
    have hnm : lnZ nm = true := by
      have c : ¬ (!lnZ nm) = true := c
      cases e : lnZ nm with
      | true => rfl
      | false => exact absurd (by rw [e]; rfl) c
    refine ⟨_, rfl, _, oD o, 0, 1000000, rfl, dx_o o, _, rfl, ite2 (fun c => ?_) fun c => ?_⟩
    · refine no ?_
      unfold markZ rng
      rw [if_pos hnm]
      cases o with
      | none => rfl
      | some n =>
        have c : (!isW 0 1000000 (.int n)) = true := c
        rw [Bool.not_eq_true'] at c
        rw [Option.bind_some, if_neg (by rw [c]; simp)]
        rfl
    obtain ⟨v, rfl, hv⟩ : ∃ n, o = some n ∧ isW 0 1000000 (.int n) = true := by
      have c : ¬ (!isW 0 1000000 (oD o)) = true := c
      cases o with
      | none => exact absurd rfl c
      | some n =>
        refine ⟨n, rfl, ?_⟩
        cases e : isW 0 1000000 (.int n) with
        | true => rfl
        | false => exact absurd (by show (!isW 0 1000000 (.int n)) = true; rw [e]; rfl) c
    have em : markZ nm (some v) ws = (mkZ ws).map fun k => .mark nm v k := by
      unfold markZ
      rw [if_pos hnm, rng_ok hv]
      rfl
    rw [em] at q
    refine ⟨_, rfl, (show 1 ≤ sizeLine by decide), fun p np => ?_⟩
    have s1 := same_new (o := .lst [V.str "none"]) np
    have hl1 := sq_up s1 hl
    obtain ⟨c1, c2⟩ := sh_strs as
    obtain ⟨c3, c4⟩ := sh_strs (ws := [("none" : Str)]) (by decide +kernel)
    have ev : PyData.eqv (.list (ws.map .str)) (.list ([("none" : Str)].map .str)) = decide (ws = [("none" : Str)]) := by
      simp only [PyData.eqv]
      exact eqvAll_strs _ _
    refine ⟨.list (ws.map .str), .list ([("none" : Str)].map .str), .lst hl1 (dp_strs ws), .lst (.inl (.inl upd_same)) (dp_strs [("none" : Str)]), c2, c4, _, rfl, ?_⟩
    rw [ev]
    refine ite2 (fun c => ?_) fun c => ?_
    · have c := of_decide_eq_true c
      subst c
      refine ⟨_, rfl, _, rfl, (show 4 ≤ sizeLine by decide), fun t nt => q _ _ (s1.trans (same_new nt)) (fun w hw => ?_) fun hw => by rw [mkZ_none] at hw; cases hw⟩
      rw [mkZ_none] at hw
      cases hw
      exact .tup (.inl (.inl upd_same)) (.cons (.str _) (.cons (.str nm) (.cons (.int v) (.cons .non .nil))))
    have nn : ¬ ws = [("none" : Str)] := fun e => c (decide_eq_true e)
    generalize upd H p (.lst [V.str "none"]) = H1 at s1 hl1 ⊢
    refine ⟨_, rfl, l, ws, rfl, hl1, ne, lnw, lw, sm_fd ne smw tt, fun x H2 s2 hm hn => ?_⟩
    have s12 := s1.trans s2
    have hl2 := sq_up s2 hl1
    dsimp only [gName]
    refine Rm.seq_mid (fun σ' H' => ∃ y c4, σ' = [some (.str nm), some (oV (some v)), some (.ref l), some y, c4] ∧ H' = H2 ∧ (∀ k, mkZ ws = some k → Dx K H2 y (mkD k) ∧ y ≠ .non) ∧ (mkZ ws = none → y = .non)) ?_ (fun N hN => ?_)
    rotate_left
    · have keep : ¬ (ws[0]? = some ("set" : Str) ∧ ws.length = 2) → N [some (.str nm), some (oV (some v)), some (.ref l), some x, none] H2 := fun h => by
        have e : mkZ ws = (mbZ ws).map .mem := by
          unfold mkZ
          rw [if_neg nn, if_neg h]
        refine hN _ _ ⟨x, none, rfl, rfl, fun k hk => ?_, fun hk => hn ?_⟩
        · rw [e] at hk
          obtain ⟨m, e1, rfl⟩ := Option.map_eq_some_iff.mp hk
          have d := hm m e1
          refine ⟨d, fun z => ?_⟩
          rw [z] at d
          cases d
        · rw [e] at hk
          exact Option.map_eq_none_iff.mp hk
      obtain ⟨w0, r, rfl⟩ := List.exists_cons_of_ne_nil ne
      refine ⟨_, rfl, l, _, 0, .str w0, rfl, rfl, hl2, atI_nat (j := 0) rfl, rfl, _, rfl, ite2 (fun c => ?_) fun c => ?_⟩
      · have e0 : w0 = "set" := V.str.inj (of_decide_eq_true c)
        subst e0
        refine ⟨_, rfl, l, _, rfl, .inl hl2, rfl, _, rfl, ite2 (fun c => ?_) fun c => ?_⟩
        · have l2 : (("set" : Str) :: r).length = 2 := by
            have := V.int.inj (of_decide_eq_true c)
            rw [List.length_map] at this
            exact_mod_cast this
          obtain ⟨w1, rfl⟩ : ∃ w1, r = [w1] := by
            match r, l2 with
            | [w1], _ => exact ⟨w1, rfl⟩
          have e : mkZ [("set" : Str), w1] = (rng 1 1000000 (numZ w1)).map .num := by
            unfold mkZ
            rw [if_neg nn, if_pos ⟨rfl, rfl⟩]
            rfl
          refine ⟨_, rfl, l, _, 1, .str w1, rfl, rfl, hl2, atI_nat (j := 1) rfl, w1, rfl, lw w1 (by simp), ?_⟩
          rw [nV_o]
          refine ⟨_, rfl, _, _, rfl, dx_o _, _, rfl, ite2 (fun c => ?_) fun c => ?_⟩
          · obtain ⟨n, e1, hn1⟩ : ∃ n, numZ w1 = some n ∧ isW 1 1000000 (.int n) = true := by
              cases e1 : numZ w1 with
              | none => rw [e1] at c; cases c
              | some n => rw [e1] at c; exact ⟨n, rfl, c⟩
            rw [e1]
            refine ⟨_, rfl, hN _ _ ⟨_, _, rfl, rfl, fun k hk => ?_, fun hk => ?_⟩⟩
            · rw [e, e1, rng_ok hn1] at hk
              cases hk
              exact ⟨.int n, fun z => by cases z⟩
            · rw [e, e1, rng_ok hn1] at hk
              cases hk
          · refine hN _ _ ⟨_, _, rfl, rfl, fun k hk => ?_, fun _ => rfl⟩
            rw [e] at hk
            cases e1 : numZ w1 with
            | none => rw [e1] at hk; cases hk
            | some n =>
              rw [e1] at hk c
              have : rng 1 1000000 (some n) = none := if_neg fun z => c z
              rw [this] at hk
              cases hk
        · refine keep fun z => c (decide_eq_true ?_)
          rw [List.length_map, z.2]
          rfl
      · refine keep fun z => c (decide_eq_true ?_)
        have := z.1
        simp at this
        rw [this]
    rintro _ H3 ⟨y, c4, rfl, rfl, hy, hy0⟩
    refine ⟨_, rfl, rfl, _, rfl, ite2 (fun c => ?_) fun c => ?_⟩
    · have e : y = .non := of_decide_eq_true c
      refine q _ _ s12 (fun w hw => ?_) fun _ => rfl
      obtain ⟨k, e1, rfl⟩ := Option.map_eq_some_iff.mp hw
      exact absurd e (hy k e1).2
    · refine ⟨_, rfl, _, rfl, _, rfl, (show 4 ≤ sizeLine by decide), fun t nt => q _ _ (s12.trans (same_new nt)) (fun w hw => ?_) fun hw => ?_⟩
      · obtain ⟨k, e1, rfl⟩ := Option.map_eq_some_iff.mp hw
        exact .tup (.inl (.inl upd_same)) (.cons (.str _) (.cons (.str nm) (.cons (.int v) (.cons ((hy k e1).1.upR (.of (same_new nt))) .nil))))
      · have := hy0 (Option.map_eq_none_iff.mp hw)
        exact absurd (decide_eq_true this) c
end
end K92

set_option maxRecDepth 100000
set_option maxHeartbeats 800000
namespace K92
open PySem PySem.Spec L2 Rm
open PyProof.Rows hiding St
section
variable {P : Program} {w : World} {K : PySem.W.Frag} {mg : Str → Option Value} {base : Heap}
def spWrOf (K : PySem.W.Frag) : Sp := fun vs H Q _ => ∃ z, vs = [.str z] ∧ asA z = true ∧ z.length ≤ 90000 ∧ ∀ x H', Same H H' → (∀ w, wrZ z = some w → Dx K H' x (wrD w)) → (wrZ z = none → x = .non) → Q x H'
theorem join_sum {y : Str} : ∀ ps : List Str, (ps.map (·.length)).sum + (ps.length - 1) * y.length = (Txt.join y ps).length
  | [] => by
    rw [TL.join_eq]
    simp
    rfl
  | [p] => by
    rw [Rm.join_one]
    simp
  | p :: q :: r => by
    have ih := join_sum (y := y) (q :: r)
    rw [TL.join_eq] at ih ⊢
    have e : Str.join y (p :: q :: r) = p ++ y ++ Str.join y (q :: r) := rfl
    rw [e, len_app, len_app, ← ih]
    simp only [List.map_cons, List.sum_cons, List.length_cons, Nat.add_sub_cancel]
    have : (r.length + 1) * y.length = r.length * y.length + y.length := by rw [Nat.add_mul, Nat.one_mul]
    omega
theorem sum_mem {p : Str} : ∀ {ps : List Str}, p ∈ ps → p.length ≤ (ps.map (·.length)).sum
  | q :: ps, h => by
    rw [List.map_cons, List.sum_cons]
    rcases List.mem_cons.mp h with e | h
    · rw [e]; omega
    · have := sum_mem h
      omega
theorem co_piece {z p : Str} (h : p ∈ Txt.split z ", ") : p.length ≤ z.length ∧ ∀ c ∈ p.cps.toList, c ∈ z.cps.toList := by
  have e := split_back z ", "
  have l := join_sum (y := ", ") (Txt.split z ", ")
  rw [e] at l
  have := sum_mem h
  refine ⟨by omega, fun c hc => ?_⟩
  have := join_sub (y := ", ") h hc
  rwa [e] at this
theorem co_len (z : Str) : (Txt.split z ", ").length ≤ z.length + 1 := by
  have l := join_sum (y := ", ") (Txt.split z ", ")
  rw [split_back z ", "] at l
  have e : (", " : Str).length = 2 := by decide +kernel
  rw [e] at l
  omega
theorem co_ne (z : Str) : Txt.split z ", " ≠ [] := fun e => by
  obtain ⟨S, es⟩ := co_sep
  have h := TL.split_spl z ", " (by rw [es]; simp) (TL.kind_ok (by decide +kernel))
  rw [e] at h
  exact spl_ne _ _ _ _ h.symm
def rSplit : V → List V → Hp → VK → Prop := fun x xs H Q => ∃ a b, x = .str a ∧ xs = [.str b] ∧ (b.length == 0) = false ∧ a.length + 2 ≤ sizeLine ∧ rNewStrs (Txt.split a b) H Q
theorem mt_splitN {X : Cx} : MtR X "str.split" rSplit := mt_split
theorem mbZ_ok {ws : List Str} {m : MB} (h : mbZ ws = some m) : okM m = true := by
  match ws, h with
  | [a, b, c], h =>
    have h : (numZ a).bind (fun p => if okM ⟨p, b, c⟩ = true then some (⟨p, b, c⟩ : MB) else none) = some m := h
    cases e : numZ a with
    | none => rw [e] at h; cases h
    | some p =>
      rw [e, Option.bind_some] at h
      by_cases c2 : okM ⟨p, b, c⟩ = true
      · rw [if_pos c2] at h; cases h; exact c2
      · rw [if_neg c2] at h; cases h
theorem str_get {ws : List Str} {i : Nat} {v : V} (h : (ws.map V.str)[i]? = some v) : ∃ u, ws[i]? = some u ∧ v = .str u := by
  rw [List.getElem?_map] at h
  cases e : ws[i]? with
  | none => rw [e] at h; cases h
  | some u => rw [e] at h; exact ⟨u, rfl, (Option.some.inj h).symm⟩
theorem tO_ob : ∀ os : List (Option MB), tOA (os.map obD) = true
  | [] => rfl
  | none :: os => tO_ob os
  | some m :: os => tO_ob os
theorem sc_write_of : FnScope ["line", "head", "members", "word", "rest", "member"] ["line"] (defScope s_write_of) :=
  ⟨rfl, rfl, rfl, by decide +kernel, rfl, by decide +kernel, by decide +kernel⟩
theorem ok_wrof {f : Addr} {fd : FuncData} (F : Fun K "write_of" "write_of" s_write_of f fd) (B : Bl mg)
    (D_numeral : Ce P w K mg base CX0 1 "numeral" ["word"] spNum) (D_member_of : Ce P w K mg base CX0 4 "member_of" ["words"] (spMemOf K))
    (D_set_of : Ce P w K mg base CX0 4 "set_of" ["number", "members"] (spSetOf K)) (D_mark_of : Ce P w K mg base CX0 5 "mark_of" ["name", "version", "words"] (spMarkOf K)) :
    FnG P w K mg base CX0 6 f fd ["line"] (spWrOf K) := by
  refine fn_q F sc_write_of (fun vs H Q E h => ?_) (fun cdv A outer s H vs Q E hr hG h => ?_)
  · obtain ⟨z, rfl, _⟩ := h
    rfl
  · obtain ⟨z, rfl, as, lz, q⟩ := h
    have hu := hu_of hr
    refine ⟨_, (pss_cons (ps_asg (pe_bm PySem.F.plainAttrs_str PySem.F.slot_str_split PySem.F.type_str_split mt_split (pv 0) (pa_cons pe_str pa_nil)) (pg_star rfl (pgs_cons (pg_name (i := 1) sc_write_of.nd rfl (Or.inl rfl)) (pgs_cons (pg_name (i := 2) sc_write_of.nd rfl (Or.inl rfl)) pgs_nil))))
      (pss_cons (ps_asg (pe_bm PySem.F.plainAttrs_str PySem.F.slot_str_split PySem.F.type_str_split mt_split (pv 1) (pa_cons pe_str pa_nil)) (pg_star rfl (pgs_cons (pg_name (i := 3) sc_write_of.nd rfl (Or.inl rfl)) (pgs_cons (pg_name (i := 4) sc_write_of.nd rfl (Or.inl rfl)) pgs_nil))))
      (pss_cons (ps_if (PW.pt (pw_and (pt_cmpR op_eq (pv 3) pe_str (nomark _)) (pw_and1 (pt_cmpR op_eq (pe_callB call_len_seq (by rfl) B.n_len (by decide +kernel) (pa_cons (pv 4) pa_nil)) pe_int (nomark _))))) (pss_one (ps_ret (pe_ce D_set_of (hr.mono (by decide)) hG (pa_cons (pe_ce D_numeral (hr.mono (by decide)) hG (pa_cons (pe_ix ix_list (pv 4) pe_int (fun _ _ => rfl)) pa_nil) pass0) (pa_cons (pe_lc (own := [("member", 5)]) (by rfl) sc_write_of.nd (pi_list (pv 2)) (blkOk_by (own := [("member", 5)]) (N := ["line", "head", "members", "word", "rest", "member"]) (sc := defScope s_write_of) (by decide +kernel))
        (fun _ _ _ _ _ => (pg_name (i := 5) sc_write_of.nd rfl (Or.inl rfl))) (fun _ _ _ _ _ => pts_nil) (fun _ _ _ _ _ => (pe_ce D_member_of (hr.mono (by decide)) hG (pa_cons (show PE _ _ (tBM K "str" rSplit (tVar 5) (tCons (tC (V.str " ")) tNil)) from (pe_bm PySem.F.plainAttrs_str PySem.F.slot_str_split PySem.F.type_str_split mt_splitN (pv 5) (pa_cons pe_str pa_nil))) pa_nil) pass0))) pa_nil)) pass0))) pss_nil)
      (pss_cons (ps_if (PW.pt (pw_and (pt_cmpR op_eq (pv 3) pe_str (nomark _)) (pw_and (pt_cmpR op_gt (pe_callB call_len_seq (by rfl) B.n_len (by decide +kernel) (pa_cons (pv 4) pa_nil)) pe_int (nomark _)) (pw_and1 (pt_cmpR op_eq (pe_callB call_len_seq (by rfl) B.n_len (by decide +kernel) (pa_cons (pv 2) pa_nil)) pe_int (nomark _)))))) (pss_one (ps_ret (pe_ce D_mark_of (hr.mono (by decide)) hG (pa_cons (pe_ix ix_list (pv 4) pe_int (fun _ _ => rfl)) (pa_cons (pe_ce D_numeral (hr.mono (by decide)) hG (pa_cons (pe_ix ix_list (pv 4) pe_int (fun _ _ => rfl)) pa_nil) pass0) (pa_cons (pe_slice sl_list (pv 4) (po_some pe_int) po_none) pa_nil))) pass0))) pss_nil)
      (pss_one (ps_ret pe_non)))))), ?_⟩
    have z2 : z.length + 2 ≤ sizeLine := Nat.le_trans (show _ ≤ 90002 by omega) (by decide)
    refine ⟨_, rfl, rfl, z, ", ", rfl, rfl, by decide +kernel, z2, fun p np => ?_⟩
    obtain ⟨hd, ms, e1⟩ := List.exists_cons_of_ne_nil (co_ne z)
    have ln1 := co_len z
    rw [e1, List.length_cons] at ln1
    have pc : ∀ m ∈ hd :: ms, m.length ≤ 90000 ∧ asA m = true := fun m hm => by
      rw [← e1] at hm
      obtain ⟨a, b⟩ := co_piece hm
      exact ⟨by omega, asA_sub as b⟩
    have wd : ∀ m ∈ hd :: ms, ∀ u ∈ Txt.split m " ", u.length ≤ 100000 ∧ asA u = true := fun m hm u hu => by
      obtain ⟨a, b⟩ := pc m hm
      have := split_len sep_sp hu
      exact ⟨by omega, asA_sub b fun c hc => split_sub hu hc⟩
    have tt : ∀ m ∈ hd :: ms, tot (Txt.split m " ") ≤ 90001 := fun m hm => by
      have := tot_split (z := m) sep_sp
      have := (pc m hm).1
      omega
    obtain ⟨w0, rest, e2⟩ := List.exists_cons_of_ne_nil (split_ne (z := hd) sep_sp)
    rw [e1]
    have s1 := same_new (o := .lst ((hd :: ms).map V.str)) np
    have hp := upd_same (H := H) (a := p) (o := .lst ((hd :: ms).map V.str))
    generalize upd H p (.lst ((hd :: ms).map V.str)) = H1 at s1 hp ⊢
    refine ⟨p, _, _, rfl, .inl (.inl hp), fun D nD _ => ⟨_, _, rfl, _, _, rfl, rfl, ?_⟩⟩
    have s2 := s1.trans (same_new (o := .lst (ms.map V.str)) nD)
    have hD := upd_same (H := H1) (a := D) (o := .lst (ms.map V.str))
    generalize upd H1 D (.lst (ms.map V.str)) = H2 at s2 hD ⊢
    have hdl := (pc hd (.head _)).1
    refine ⟨_, rfl, rfl, hd, " ", rfl, rfl, by decide +kernel, Nat.le_trans (show _ ≤ 90002 by omega) (by decide), fun p2 np2 => ?_⟩
    have wd0 := wd hd (.head _)
    have tt0 := tt hd (.head _)
    rw [e2] at wd0 tt0 ⊢
    have s3 := s2.trans (same_new (o := .lst ((w0 :: rest).map V.str)) np2)
    have hD3 := (same_new (o := .lst ((w0 :: rest).map V.str)) np2) _ _ hD
    have hp3 := upd_same (H := H2) (a := p2) (o := .lst ((w0 :: rest).map V.str))
    generalize upd H2 p2 (.lst ((w0 :: rest).map V.str)) = H3 at s3 hD3 hp3 ⊢
    refine ⟨p2, _, _, rfl, .inl (.inl hp3), fun R nR _ => ⟨_, _, rfl, _, _, rfl, rfl, ?_⟩⟩
    have s4 := s3.trans (same_new (o := .lst (rest.map V.str)) nR)
    have hD4 := (same_new (o := .lst (rest.map V.str)) nR) _ _ hD3
    have hR := upd_same (H := H3) (a := R) (o := .lst (rest.map V.str))
    generalize upd H3 R (.lst (rest.map V.str)) = H4 at s4 hD4 hR ⊢
    have ez : wrZ z = if w0 = "set" ∧ rest.length = 1 then setZ (numZ (rest.getD 0 "")) (ms.map fun m => mbZ (Txt.split m " "))
      else if w0 = "mark" ∧ rest.length > 2 ∧ ms.length = 0 then markZ (rest.getD 0 "") (numZ (rest.getD 1 "")) (rest.drop 2) else none := by
      unfold wrZ
      rw [e1]
      dsimp only
      rw [e2]
    clear s1 s2 s3 hp hp3 hD hD3 nD np np2 nR
    dsimp only [gName]
    let Sg : L2.St := [some (.str z), some (.str hd), some (.ref D), some (.str w0), some (.ref R), none]
    have mark : ¬ (w0 = "set" ∧ rest.length = 1) → ∀ N : L2.St → Hp → Prop, True := fun _ _ => trivial
    refine Rm.seq_mid (fun σ' H' => σ' = Sg ∧ H4 = H' ∧ ¬ (w0 = "set" ∧ rest.length = 1)) ?_ (fun N hN => ?_)
    rotate_left
    · refine ⟨_, rfl, rfl, _, rfl, ite2 (fun c => ?_) fun c => hN _ _ ⟨rfl, rfl, fun h => c (decide_eq_true (by rw [h.1]))⟩⟩
      have c0 : w0 = "set" := V.str.inj (of_decide_eq_true c)
      refine ⟨_, rfl, R, _, rfl, .inl (.inl (.inl hR)), rfl, _, rfl, ite2 (fun c => ?_) fun c => hN _ _ ⟨rfl, rfl, fun h => c (decide_eq_true (by rw [List.length_map, h.2]; rfl))⟩⟩
      have l1 : rest.length = 1 := by
        have := V.int.inj (of_decide_eq_true c)
        rw [List.length_map] at this
        exact_mod_cast this
      obtain ⟨r0, rfl⟩ : ∃ r0, rest = [r0] := by
        match rest, l1 with
        | [r0], _ => exact ⟨r0, rfl⟩
      rw [if_pos ⟨c0, rfl⟩] at ez
      have ez : wrZ z = setZ (numZ r0) (ms.map fun m => mbZ (Txt.split m " ")) := ez
      refine ⟨_, rfl, R, _, 0, .str r0, rfl, rfl, .inl (.inl hR), atI_nat (j := 0) rfl, r0, rfl, (wd0 r0 (by simp)).1, ?_⟩
      rw [nV_o]
      refine ⟨_, rfl, D, rfl, ⟨_, .inl (.inl hD4)⟩, fun A nA => lc_list (xs := ms.map V.str) (fun i H' => Same H4 H' ∧ ∃ xs, H' A = some (.lst xs) ∧ xs.length ≤ i ∧ DxAll K H' xs (((ms.take i).map fun m => mbZ (Txt.split m " ")).map obD)) ⟨same_new nA, [], upd_same, Nat.le_refl _, .nil⟩ (fun i H' _ e => .inl (.inl (e.1 _ _ hD4))) ?_ ?_⟩
      · rintro i x H5 hx ⟨s5, xs, hA, hl, hd5⟩
        obtain ⟨m, hm, rfl⟩ := str_get hx
        have mm : m ∈ hd :: ms := .tail _ (List.mem_of_getElem? hm)
        have im : i < ms.length := (List.getElem?_eq_some_iff.mp hm).1
        refine ⟨rfl, _, rfl, rfl, m, " ", rfl, rfl, by decide +kernel, Nat.le_trans (show _ ≤ 90002 by have := (pc m mm).1; omega) (by decide), fun p3 np3 => ?_⟩
        have s6 := same_new (o := .lst ((Txt.split m " ").map V.str)) np3
        refine ⟨p3, Txt.split m " ", rfl, .inl (.inl upd_same), split_ne sep_sp, by have := tot_len (Txt.split m " "); have := tt m mm; omega, fun u hu => (wd m mm u hu).1, sm_fd (split_ne sep_sp) (fun u hu => asA_smC (wd m mm u hu).2) (tt m mm), fun x H7 s7 h1 h2 => ?_⟩
        have s67 := s6.trans s7
        have hA7 := s67 _ _ hA
        refine ⟨xs, hA7, Nat.lt_of_le_of_lt (show xs.length ≤ 90001 by omega) (by decide), same_tape nA (s5.trans s67), xs ++ [x], upd_same, by rw [List.length_append]; exact Nat.succ_le_succ hl, ?_⟩
        have dx : Dx K H7 x (obD (mbZ (Txt.split m " "))) := by
          cases e : mbZ (Txt.split m " ") with
          | none => rw [h2 e]; exact .non
          | some mb => exact h1 mb e
        rw [take_snoc hm, List.map_append, List.map_append]
        refine dxa_keepT (TupK.put hA7 (fun _ e => by cases e) fun _ _ e => by cases e) ?_ (dxa_snoc (hd5.upR (.of s67)) dx)
        have := tO_ob (((ms.take i).map fun m => mbZ (Txt.split m " ")) ++ [mbZ (Txt.split m " ")])
        rw [List.map_append] at this
        exact this
      · rintro H5 ⟨s5, xs, hA, hl, hd5⟩
        rw [List.length_map, List.take_length] at hd5
        refine ⟨numZ r0, A, xs, _, rfl, .inl (.inl hA), hd5, fun mb hmb => ?_, by rw [List.length_map]; omega, fun x H6 s6 h1 h2 => q x H6 ((s4.trans s5).trans s6) (fun w hw => h1 w (by rw [← ez]; exact hw)) fun hw => h2 (by rw [← ez]; exact hw)⟩
        obtain ⟨m, _, e⟩ := List.mem_map.mp hmb
        exact mbZ_ok e
    rintro _ _ ⟨rfl, rfl, ns⟩
    rw [if_neg ns] at ez
    have no : ¬ (w0 = "mark" ∧ rest.length > 2 ∧ ms.length = 0) → Q .non H4 := fun h => by
      rw [if_neg h] at ez
      exact q _ _ s4 (fun w hw => by rw [ez] at hw; cases hw) fun _ => rfl
    refine ⟨_, rfl, rfl, _, rfl, ite2 (fun c => ?_) fun c => no fun h => c (decide_eq_true (by rw [h.1]))⟩
    have c0 : w0 = "mark" := V.str.inj (of_decide_eq_true c)
    refine ⟨_, rfl, R, _, rfl, .inl (.inl (.inl hR)), _, _, rfl, rfl, _, rfl, ite2 (fun c => ?_) fun c => no fun h => c (decide_eq_true (by rw [List.length_map]; have := h.2.1; omega))⟩
    have l2 : rest.length > 2 := by
      have := of_decide_eq_true c
      rw [List.length_map] at this
      omega
    refine ⟨_, rfl, D, _, rfl, .inl (.inl (.inl hD4)), rfl, _, rfl, ite2 (fun c => ?_) fun c => no fun h => c (decide_eq_true (by rw [List.length_map, h.2.2]; rfl))⟩
    have m0 : ms.length = 0 := by
      have := V.int.inj (of_decide_eq_true c)
      rw [List.length_map] at this
      exact_mod_cast this
    rw [if_pos ⟨c0, l2, m0⟩] at ez
    obtain ⟨r0, r1, tl, rfl⟩ : ∃ r0 r1 tl, rest = r0 :: r1 :: tl := by
      match rest, l2 with
      | r0 :: r1 :: tl, _ => exact ⟨r0, r1, tl, rfl⟩
    have ez : wrZ z = markZ r0 (numZ r1) tl := ez
    have tn : tl ≠ [] := fun e => by rw [e] at l2; simp at l2
    have sub : ∀ u ∈ tl, u ∈ w0 :: r0 :: r1 :: tl := fun u hu => .tail _ (.tail _ (.tail _ hu))
    refine ⟨_, rfl, R, _, 0, .str r0, rfl, rfl, .inl (.inl hR), atI_nat (j := 0) rfl, _, rfl, R, _, 1, .str r1, rfl, rfl, .inl (.inl hR), atI_nat (j := 1) rfl, r1, rfl, (wd0 r1 (by simp)).1, ?_⟩
    rw [nV_o]
    refine ⟨_, rfl, 2, rfl, R, _, rfl, .inl (.inl hR), fun p3 np3 => ?_⟩
    have ec : cutV ((r0 :: r1 :: tl).map V.str) (some 2) none = tl.map V.str := cut_from (n := 2) (by simp)
    rw [ec]
    have s5 := same_new (o := .lst (tl.map V.str)) np3
    rw [tot_cons, tot_cons, tot_cons] at tt0
    have l0 := split_len sep_sp (z := hd) (p := r0) (by rw [e2]; simp)
    exact ⟨r0, numZ r1, p3, tl, rfl, .inl (.inl upd_same), tn, by omega, fun u hu => (wd0 u (sub u hu)).2, (wd0 r0 (by simp)).2, by omega, fun x H6 s6 h1 h2 => q x H6 (s4.trans (s5.trans s6)) (fun w hw => h1 w (by rw [← ez]; exact hw)) fun hw => h2 (by rw [← ez]; exact hw)⟩
end
end K92

set_option maxRecDepth 100000
set_option maxHeartbeats 800000
namespace K92
open PySem PySem.Spec L2 Rm
open PyProof.Rows hiding St
section
variable {P : Program} {w : World} {K : PySem.W.Frag} {mg : Str → Option Value} {base : Heap}
theorem st_as (a b c : Str) : a ++ b ++ c = a ++ (b ++ c) := by
  show (⟨(a.cps ++ b.cps) ++ c.cps⟩ : Str) = ⟨a.cps ++ (b.cps ++ c.cps)⟩
  rw [Array.append_assoc]
theorem st_em (a : Str) : Str.empty ++ a = a := by
  show (⟨#[] ++ a.cps⟩ : Str) = a
  rw [Array.empty_append]
theorem join2 (y p q : Str) : Txt.join y [p, q] = p ++ y ++ q := by
  rw [TL.join_eq]
  rfl
theorem join_cc (y p q : Str) (r : List Str) : Txt.join y (p :: q :: r) = p ++ y ++ Txt.join y (q :: r) := by
  rw [TL.join_eq, TL.join_eq]
  rfl
theorem sp_w (z : Str) (n : Str) (e : z = "set " ∨ z = "at ") : Str.empty ++ z ++ n = Txt.join " " [if z = "set " then "set" else "at", n] := by
  rw [join2, st_em]
  rcases e with rfl | rfl
  · rw [if_pos rfl]
    congr 1
  · rw [if_neg (by decide +kernel)]
    congr 1
theorem set_n (n : Int) : Str.empty ++ "set " ++ sI n = Txt.join " " [("set" : Str), sI n] := sp_w _ _ (.inl rfl)
theorem at_n (n : Int) : Str.empty ++ "at " ++ sI n = atT n := by
  have h := sp_w "at " (sI n) (.inr rfl)
  rw [if_neg (by decide +kernel)] at h
  exact h
/-- the first wrong line, or what is read -/
def rdE : Nat → MG → List Str → Nat ⊕ MG
  | _, g, [] => .inr g
  | i, g, z :: zs => match stG g z with
    | none => .inl (i + 1)
    | some g' => rdE (i + 1) g' zs
theorem rdE_pre : ∀ (i k : Nat) (g gi : MG) (ls : List Str), rdG g (ls.take i) = some gi → i ≤ ls.length → rdE k g ls = rdE (k + i) gi (ls.drop i)
  | 0, k, g, gi, ls, h, _ => by
    rw [List.take_zero] at h
    have h : some g = some gi := h
    rw [Option.some.inj h, List.drop_zero, Nat.add_zero]
  | i + 1, k, g, gi, [], _, l => by simp at l
  | i + 1, k, g, gi, z :: zs, h, l => by
    rw [List.take_succ_cons] at h
    have h : (stG g z).bind (fun g' => rdG g' (zs.take i)) = some gi := h
    rw [List.length_cons] at l
    cases s : stG g z with
    | none => rw [s] at h; cases h
    | some g' =>
      rw [s] at h
      have ih := rdE_pre i (k + 1) g' gi zs h (by omega)
      rw [List.drop_succ_cons, show k + (i + 1) = k + 1 + i by omega, ← ih]
      show (match stG g z with
        | none => Sum.inl (k + 1)
        | some g' => rdE (k + 1) g' zs) = _
      rw [s]
theorem rdE_bad {i : Nat} {gi : MG} {ls : List Str} {z : Str} (h : rdG [] (ls.take i) = some gi) (hz : ls[i]? = some z) (s : stG gi z = none) : rdE 0 [] ls = .inl (i + 1) := by
  have l : i < ls.length := (List.getElem?_eq_some_iff.mp hz).1
  rw [rdE_pre i 0 [] gi ls h (by omega)]
  have e : ls.drop i = z :: ls.drop (i + 1) := by
    rw [List.drop_eq_getElem_cons l, (List.getElem?_eq_some_iff.mp hz).2]
  rw [e]
  show (match stG gi z with
    | none => Sum.inl (0 + i + 1)
    | some g' => rdE (0 + i + 1) g' _) = _
  rw [s, Nat.zero_add]
theorem rdE_all {gi : MG} {ls : List Str} (h : rdG [] ls = some gi) : rdE 0 [] ls = .inr gi := by
  rw [rdE_pre ls.length 0 [] gi ls (by rw [List.take_length]; exact h) (Nat.le_refl _), List.drop_length]
  rfl
def valM : PyData → Nat ⊕ MG
  | .str z => rdE 0 [] (linesZ z)
  | _ => .inl 1
/-- what may be read: data that is no text, or an ascii text that is not too long -/
def Okm (d : PyData) : Prop := ∀ z, d = .str z → z.length ≤ 90000 ∧ asA z = true
def spLinesX (K : PySem.W.Frag) (BT : Addr) : Sp := fun vs H Q E => ∃ x d, vs = [x] ∧ Dx K H x d ∧ Okm d ∧ (∀ z, d = .str z → ∀ p H', H p = none → Same H H' → H' p = some (.lst ((linesZ z).map V.str)) → Q (.ref p) H') ∧
  ((∀ z, d ≠ .str z) → ∀ e, H e = none → E (.ref BT) (some e) (upd H e (.xd [("line", .int 1)])))
theorem sc_lines_of : FnScope ["text"] ["text"] (defScope s_lines_of) :=
  ⟨rfl, rfl, rfl, by decide +kernel, rfl, by decide +kernel, by decide +kernel⟩
theorem ok_lines {f BT : Addr} {fd : FuncData} (F : Fun K "lines_of" "lines_of" s_lines_of f fd) (B : Bl mg) (X_BadText : Er P w K mg base "BadText" BT "line") :
    FnG P w K mg base (L2.CX P w) 4 f fd ["text"] (spLinesX K BT) := by
  refine fn_in F sc_lines_of (fun vs H Q E h => ?_) (fun cdv A outer s H vs Q E hr hG h => ?_)
  · obtain ⟨x, d, rfl, _⟩ := h
    rfl
  · obtain ⟨x, d, rfl, hx, ok, q, e⟩ := h
    have hu := hu_of hr
    refine ⟨_, (pss_cons (ps_if (pt_not (pt_val (pe_callB call_isi (by rfl) B.n_isinstance (by decide +kernel) (pa_cons (pv 0) (pa_cons (pe_bltn (v := .ty "str") (u := .type "str") (by rfl) B.n_str (by decide +kernel) rfl) pa_nil))))) (pss_one (ps_raise rfl (takes_of rfl rfl rfl rfl) (pmk_er X_BadText (hr.mono (by decide)) hG pe_int))) pss_nil)
      (pss_one (ps_ret (pe_ifExp (pt_cmpR op_gt (pe_callB call_len_str (by rfl) B.n_len (by decide +kernel) (pa_cons (pv 0) pa_nil)) pe_int (nomark _)) (pe_bm PySem.F.plainAttrs_str PySem.F.slot_str_split PySem.F.type_str_split mt_split (pv 0) (pa_cons pe_str pa_nil)) (pe_lst pa_nil))))), ?_⟩
    have bad : (∀ z, d ≠ .str z) → isKd "str" d = false := fun n => by
      cases d with
      | str z => exact absurd rfl (n z)
      | _ => rfl
    by_cases hs : ∃ z, d = .str z
    · obtain ⟨z, rfl⟩ := hs
      cases hx
      obtain ⟨zl4, _⟩ := ok z rfl
      have zl : z.length ≤ sizeLine := Nat.le_trans zl4 (by decide)
      have hz : z.length + 2 ≤ sizeLine := Nat.le_trans (show _ ≤ 90002 by omega) (by decide)
      have q := q z rfl
      refine ⟨_, rfl, .str z, .ty "str", _, _, _, rfl, .ty _, (Dx.str z).tyx, kit_str (.str z), true, rfl, ?_⟩
      refine ⟨_, rfl, z, rfl, zl, _, _, rfl, rfl, _, rfl, ite2 (fun c => ?_) fun c => ?_⟩
      · have h : 0 < z.length := by
          have := of_decide_eq_true c
          omega
        refine ⟨_, rfl, rfl, z, "\n", rfl, rfl, by decide +kernel, hz, fun p np => q p _ np (same_new np) ?_⟩
        rw [upd_same]
        unfold linesZ
        rw [if_pos h]
      · have h : ¬ 0 < z.length := fun h => c (decide_eq_true (by omega))
        refine ⟨(show 0 ≤ sizeLine by decide), fun p np => q p _ np (same_new np) ?_⟩
        rw [upd_same]
        unfold linesZ
        rw [if_neg h]
        rfl
    · have n : ∀ z, d ≠ .str z := fun z h => hs ⟨z, h⟩
      refine ⟨_, rfl, x, .ty "str", _, _, _, rfl, .ty _, hx.tyx, kit_str d, false, ?_, ?_⟩
      · cases d with
        | str z => exact absurd rfl (n z)
        | _ => rfl
      · exact ⟨_, rfl, e n⟩
def spRdX (K : PySem.W.Frag) (BT : Addr) : Sp := fun vs H Q E => ∃ x d, vs = [x] ∧ Dx K H x d ∧ Okm d ∧ (∀ g, valM d = .inr g → ∀ y H', Same H H' → Dx K H' y (mgD g) → Q y H') ∧
  (∀ k, valM d = .inl k → ∀ e H', Same H H' → H' e = none → E (.ref BT) (some e) (upd H' e (.xd [("line", .int ((k : Nat) : Int))])))
theorem st_none {g : MG} {z : Str} (a : ¬ ((wrZ z).isSome ∧ g ≠ [])) (b : ¬ (z = Rm.atT ((g.length + 1 : Nat) : Int) ∧ g.length < 60)) : stG g z = none := by
  unfold stG
  rw [if_neg a, if_neg b]
theorem sc_read_marking : FnScope ["text", "found", "at", "line", "write", "writes"] ["text"] (defScope s_read_marking) :=
  ⟨rfl, rfl, rfl, by decide +kernel, rfl, by decide +kernel, by decide +kernel⟩
theorem ok_rdm {f BT : Addr} {fd : FuncData} {t1 : Tok} (F : Fun K "read_marking" "read_marking" s_read_marking f fd) (B : Bl mg) (g_MOO : mg "MOST_OPERATIONS" = some (.int 60 t1)) (X_BadText : Er P w K mg base "BadText" BT "line")
    (D_lines_of : Ce P w K mg base (L2.CX P w) 4 "lines_of" ["text"] (spLinesX K BT)) (D_write_of : Ce P w K mg base CX0 6 "write_of" ["line"] (spWrOf K)) :
    FnG P w K mg base (L2.CX P w) 7 f fd ["text"] (spRdX K BT) := by
  refine fn_in F sc_read_marking (fun vs H Q E h => ?_) (fun cdv A outer s H vs Q E hr hG h => ?_)
  · obtain ⟨x, d, rfl, _⟩ := h
    rfl
  · obtain ⟨x, d, rfl, hx, ok, q, e⟩ := h
    have hu := hu_of hr
    refine ⟨_, (pss_cons (ps_set (i := 1) sc_read_marking.nd rfl (Or.inl rfl) (pe_lst pa_nil))
      (pss_cons (ps_for (passes_of rfl) rfl (pi_enumC (c := 1) (by rfl) B.n_enumerate (pa_cons (pe_ce D_lines_of (hr.mono (by decide)) hG (pa_cons (pv 0) pa_nil) (passes_call (takes_of rfl rfl rfl rfl) (fun _ _ _ _ h => h))) (pa_cons pe_int pa_nil)) (by decide) (by decide)) (pg_tup rfl (pgs_cons (pg_name (i := 2) sc_read_marking.nd rfl (Or.inl rfl)) (pgs_cons (pg_name (i := 3) sc_read_marking.nd rfl (Or.inl rfl)) pgs_nil))) (pss_cons (ps_set (i := 4) sc_read_marking.nd rfl (Or.inl rfl) (pe_ce D_write_of (hr.mono (by decide)) hG (pa_cons (pv 3) pa_nil) pass0))
      (pss_one (ps_if (PW.pt (pw_and (pt_cmpR op_notN (pv 4) pe_non (nomark _)) (pw_and1 (pt_cmpR op_gt (pe_callB call_len_seq (by rfl) B.n_len (by decide +kernel) (pa_cons (pv 1) pa_nil)) pe_int (nomark _))))) (pss_one (ps_expr (pe_bm PySem.F.plainAttrs_list PySem.F.slot_list_append PySem.F.type_list_append mt_append (pe_ix ix_list (pv 1) (pe_un un_neg pe_int) (fun _ _ => rfl)) (pa_cons (pv 4) pa_nil)))) (pss_one (ps_if (PW.pt (pw_and (pt_cmpR op_eq (pv 3) (pe_joined (.cons pe_str (.cons (pe_fmt (pe_op op_add (pe_callB call_len_seq (by rfl) B.n_len (by decide +kernel) (pa_cons (pv 1) pa_nil)) pe_int)) .nil))) (nomark _)) (pw_and1 (pt_cmpR op_lt (pe_callB call_len_seq (by rfl) B.n_len (by decide +kernel) (pa_cons (pv 1) pa_nil)) (pe_glob (v := .int 60) (by rfl) g_MOO ⟨_, rfl⟩) (nomark _))))) (pss_one (ps_expr (pe_bm PySem.F.plainAttrs_list PySem.F.slot_list_append PySem.F.type_list_append mt_append (pv 1) (pa_cons (pe_lst pa_nil) pa_nil)))) (pss_one (ps_raise rfl (takes_of rfl rfl rfl rfl) (pmk_er X_BadText (hr.mono (by decide)) hG (pv 2))))))))))
      (pss_one (ps_ret (pe_callTy call_tuple_of (by rfl) B.n_tuple (by decide +kernel) (pa_cons (pe_lc (own := [("writes", 5)]) (by rfl) sc_read_marking.nd (pi_list (pv 1)) (blkOk_by (own := [("writes", 5)]) (N := ["text", "found", "at", "line", "write", "writes"]) (sc := defScope s_read_marking) (by decide +kernel))
        (fun _ _ _ _ _ => (pg_name (i := 5) sc_read_marking.nd rfl (Or.inl rfl))) (fun _ _ _ _ _ => pts_nil) (fun _ _ _ _ _ => (pe_callTy (show CallR _ (.type "tuple") (rTupOf K) from call_tupOf) (by rfl) B.n_tuple (by decide +kernel) (pa_cons (pv 5) pa_nil)))) pa_nil)))))), ?_⟩
    refine ⟨(show 0 ≤ sizeLine by decide), fun p np => ?_⟩
    have s1 := same_new (o := .lst []) np
    have hp := upd_same (H := H) (a := p) (o := .lst [])
    have hx1 := hx.upR (.of s1)
    generalize upd H p (.lst []) = H1 at s1 hp hx1 ⊢
    refine ⟨_, rfl, x, d, rfl, hx1, ok, fun z hz => ?_, fun n e' he => ?_⟩
    rotate_left
    · refine e 1 ?_ e' H1 s1 he
      cases d with
      | str z => exact absurd rfl (n z)
      | _ => rfl
    subst hz
    obtain ⟨zl, zs⟩ := ok z rfl
    have q : ∀ g, rdE 0 [] (linesZ z) = .inr g → ∀ y H', Same H H' → Dx K H' y (mgD g) → Q y H' := q
    have e : ∀ k, rdE 0 [] (linesZ z) = .inl k → ∀ e' H', Same H H' → H' e' = none → E (.ref BT) (some e') (upd H' e' (.xd [("line", .int ((k : Nat) : Int))])) := e
    cases hx
    cases hx1
    have wl : ∀ w ∈ linesZ z, w.length ≤ 90000 ∧ asA w = true := fun w hw => by
      obtain ⟨a, b⟩ := linesZ_sub hw
      exact ⟨Nat.le_trans a zl, asA_sub zs b⟩
    have ll : (linesZ z).length ≤ 90001 := by
      have := linesZ_len z
      omega
    generalize linesZ z = ls at q e wl ll ⊢
    refine fun l H2 nl s2 hl2 => ?_
    have hp2 := s2 _ _ hp
    have lp : l ≠ p := fun e => by rw [e, hp] at nl; cases nl
    have s12 := s1.trans s2
    have st0 : RdSt K H2 p [] H2 := ⟨fun b u e _ => e, by rw [hp2]; simp, [], hp2, .nil, rfl, (fun _ h => by cases h), fun j y ws a _ => by simp at a⟩
    refine ⟨l, _, rfl, .inl (.inl hl2), for_it (walk_enumC (K := K) (a := l) (c := 1) (xs := ls.map V.str))
      (fun i σ H' => (∃ c2 c3 c4 c5, σ = [some (.str z), some (.ref p), c2, c3, c4, c5]) ∧ ∃ gi, rdG [] (ls.take i) = some gi ∧ (gi.length ≤ i ∧ gi.length ≤ 60 ∧ ∀ ws ∈ gi, ws.length ≤ i) ∧ RdSt K H2 p gi H')
      ⟨⟨_, _, _, _, rfl⟩, [], rfl, ⟨Nat.le_refl _, by decide, fun _ h => by cases h⟩, st0⟩ (fun i σ H' _ e => .inl (.inl (by obtain ⟨_, gi, _, _, st⟩ := e; exact st.1 _ _ hl2 lp))) ?_ ?_⟩
    · rintro i x σ H' H3 hi ⟨⟨c2, c3, c4, c5, rfl⟩, gi, hgi, ⟨li, l60, lw⟩, st⟩ ⟨T, a1, b1, rfl, nT, rfl, ea, eb⟩
      obtain rfl := Option.some.inj ea
      obtain ⟨u, hz, rfl⟩ := str_get eb
      obtain ⟨ul, us⟩ := wl u (List.mem_of_getElem? hz)
      have i4 : i ≤ 90000 := by
        have := (List.getElem?_eq_some_iff.mp hz).1
        omega
      have s3 := same_new (o := .tup [.int (1 + ((i : Nat) : Int)), .str u]) nT
      have hT := upd_same (H := H') (a := T) (o := .tup [.int (1 + ((i : Nat) : Int)), .str u])
      have st := st.up s3
      generalize upd H' T (.tup [.int (1 + ((i : Nat) : Int)), .str u]) = H3 at hT s3 st ⊢
      refine ⟨_, _, rfl, .inl (.inl hT), rfl, _, _, rfl, _, _, rfl, rfl, ?_⟩
      refine ⟨_, rfl, u, rfl, us, ul, fun x H4 s4 hw hn => ?_⟩
      have st := st.up s4
      have sH4 : Same H H4 := fun b v h => st.1 b v (s12 b v h) fun e => by rw [e, np] at h; cases h
      have bad : stG gi u = none → ∀ e', H4 e' = none → E (.ref BT) (some e') (upd H4 e' (.xd [("line", .int (1 + ((i : Nat) : Int)))])) := fun b e' he => by
        have z := e (i + 1) (rdE_bad hgi hz b) e' H4 sH4 he
        have c : (((i + 1 : Nat)) : Int) = 1 + (i : Int) := by omega
        rw [c] at z
        exact z
      have nxt : ∀ {g'}, stG gi u = some g' → rdG [] (ls.take (i + 1)) = some g' := fun {g'} h => by
        rw [take_snoc hz, rdG_app, hgi]
        show (stG gi u).bind (fun g' => some g') = _
        rw [h]
        rfl
      obtain ⟨_, _, ys, hzs, _, ly, _⟩ := id st
      have lA : ((gi.length + 1 : Nat) : Int).natAbs < 10 ^ 30 := by omega
      have lg := log_lt lA
      have l31 : (sI ((gi.length + 1 : Nat) : Int)).length ≤ 31 := (wk2_num lA).wk.l31
      have lz : (Str.empty ++ ("at " : Str)).length = 3 := by decide +kernel
      have le : (Str.empty ++ ("at " : Str) ++ sI ((gi.length + 1 : Nat) : Int)).length ≤ sizeLine := by
        rw [len_app, lz]
        exact Nat.le_trans (show _ ≤ 34 by omega) (by decide)
      have en : (((ys.map V.ref).length : Nat) : Int) + 1 = ((gi.length + 1 : Nat) : Int) := by
        rw [List.length_map, ly]
        omega
      dsimp only [gName]
      by_cases A : (wrZ u).isSome ∧ gi ≠ []
      · obtain ⟨w, ew⟩ := Option.isSome_iff_exists.mp A.1
        obtain ⟨r, ws, rfl⟩ : ∃ r ws, gi = r ++ [ws] := by
          rcases List.eq_nil_or_concat gi with e | ⟨r, ws, e⟩
          · exact absurd e A.2
          · exact ⟨r, ws, by rw [e, List.concat_eq_append]⟩
        have hx := hw w ew
        have sg : stG (r ++ [ws]) u = some (r ++ [ws ++ [w]]) := by
          unfold stG
          rw [if_pos A, ew]
          show some (addW (r ++ [ws]) w) = _
          rw [addW_snoc]
        have xn : x ≠ .non := fun e => by
          rw [e] at hx
          cases w <;> cases hx
        obtain ⟨zs', y, vs, hzs', lzs, ai, hy, lv, st'⟩ := st.wr hx
        have lr : (r ++ [ws]).length = r.length + 1 := by simp
        rw [lr] at li l60
        have lws := lw ws (by simp)
        refine ⟨_, rfl, rfl, _, rfl, ite2 (fun _ => ?_) fun c => (c (by simp [xn])).elim⟩
        refine ⟨_, rfl, p, zs', rfl, .inl (.inl (.inl hzs')), _, _, rfl, rfl, _, rfl, ite2 (fun _ => ?_) fun c => (c (decide_eq_true (by omega))).elim⟩
        refine ⟨_, rfl, 1, rfl, p, zs', _, .ref y, rfl, rfl, .inl (.inl hzs'), ai, .inl ⟨rfl, _, .inl (.inl hy)⟩, _, rfl, y, vs, x, rfl, rfl, hy, Nat.lt_of_le_of_lt (show vs.length ≤ 90001 by omega) (by decide), ⟨_, _, _, _, rfl⟩, _, nxt sg, ⟨by simp; omega, by simp; omega, fun us hu => ?_⟩, st'⟩
        rcases List.mem_append.mp hu with hu | hu
        · have := lw us (by simp [hu])
          omega
        · rw [List.mem_singleton.mp hu]
          simp
          omega
      cases ew : wrZ u with
      | none =>
        obtain rfl := hn ew
        refine ⟨_, rfl, rfl, _, rfl, ite2 (fun c => by simp at c) fun _ => ite2 (fun c => by simp at c) fun _ => ?_⟩
        refine ⟨_, rfl, _, rfl, by rw [lz]; decide, _, rfl, p, _, rfl, .inl (.inl (.inl hzs)), _, _, rfl, rfl, .inr ⟨_, rfl, by rw [en]; omega, _, rfl, by rw [en]; exact le, ?_⟩⟩
        rw [en]
        refine ⟨rfl, _, rfl, ?_⟩
        have ee : decide (V.str u = V.str (Str.empty ++ ("at " : Str) ++ Str.ofString (toString ((gi.length + 1 : Nat) : Int)))) = decide (u = Rm.atT ((gi.length + 1 : Nat) : Int)) := by
          rw [decide_eq_decide, ← at_n]
          exact ⟨fun h => V.str.inj h, fun h => congrArg V.str h⟩
        rw [ee]
        refine ite2 (fun c => ?_) fun c => ?_
        · have cz := of_decide_eq_true c
          refine ⟨_, rfl, p, _, rfl, .inl (.inl (.inl hzs)), _, _, rfl, rfl, _, rfl, ite2 (fun c2 => ?_) fun c2 => ?_⟩
          · have c2 := of_decide_eq_true c2
            rw [List.length_map, ly] at c2
            have l59 : gi.length < 60 := by omega
            have sg : stG gi u = some (gi ++ [[]]) := by
              unfold stG
              rw [if_neg A, if_pos ⟨cz, l59⟩]
            refine ⟨_, rfl, .inl ⟨rfl, _, .inl (.inl hzs)⟩, (show 0 ≤ sizeLine by decide), fun nl nn => ?_⟩
            obtain ⟨zs', hz4, lz4, pn, st'⟩ := st.new nn
            refine ⟨p, zs', _, rfl, rfl, (upd_ne pn).trans hz4, Nat.lt_of_le_of_lt (show zs'.length ≤ 60 by omega) (by decide), ⟨_, _, _, _, rfl⟩, _, nxt sg, ⟨by simp; omega, by simp; omega, fun us hu => ?_⟩, st'⟩
            rcases List.mem_append.mp hu with hu | hu
            · have := lw us hu
              omega
            · rw [List.mem_singleton.mp hu]
              exact Nat.zero_le _
          · have n60 : ¬ gi.length < 60 := fun h => c2 (decide_eq_true (by rw [List.length_map, ly]; omega))
            have b := bad (st_none A fun h => n60 h.2)
            exact ⟨_, rfl, _, rfl, b⟩
        · have nz : ¬ u = Rm.atT ((gi.length + 1 : Nat) : Int) := fun h => c (decide_eq_true h)
          have b := bad (st_none A fun h => nz h.1)
          exact ite2 (fun c => by simp at c) fun _ => ⟨_, rfl, _, rfl, b⟩
      | some w =>
        have g0 : gi = [] := Classical.byContradiction fun h => A ⟨by rw [ew]; rfl, h⟩
        have hx := hw w ew
        have xn : x ≠ .non := fun e => by
          rw [e] at hx
          cases w <;> cases hx
        have nz : ¬ u = Rm.atT ((gi.length + 1 : Nat) : Int) := fun h => by
          rw [h, wrZ_at lA] at ew
          cases ew
        have b := bad (st_none A fun h => nz h.1)
        refine ⟨_, rfl, rfl, _, rfl, ite2 (fun _ => ?_) fun c => (c (by simp [xn])).elim⟩
        refine ⟨_, rfl, p, _, rfl, .inl (.inl (.inl hzs)), _, _, rfl, rfl, _, rfl, ite2 (fun c => ?_) fun _ => ?_⟩
        · have c := of_decide_eq_true c
          rw [List.length_map, ly, g0] at c
          exact absurd c (by decide)
        refine ⟨_, rfl, _, rfl, by rw [lz]; decide, _, rfl, p, _, rfl, .inl (.inl (.inl hzs)), _, _, rfl, rfl, .inr ⟨_, rfl, by rw [en]; omega, _, rfl, by rw [en]; exact le, ?_⟩⟩
        rw [en]
        refine ⟨rfl, _, rfl, ?_⟩
        have ee : decide (V.str u = V.str (Str.empty ++ ("at " : Str) ++ Str.ofString (toString ((gi.length + 1 : Nat) : Int)))) = decide (u = Rm.atT ((gi.length + 1 : Nat) : Int)) := by
          rw [decide_eq_decide, ← at_n]
          exact ⟨fun h => V.str.inj h, fun h => congrArg V.str h⟩
        rw [ee]
        refine ite2 (fun c => absurd (of_decide_eq_true c) nz) fun _ => ?_
        exact ite2 (fun c => by simp at c) fun _ => ⟨_, rfl, _, rfl, b⟩
    · rintro σ H6 ⟨⟨c2, c3, c4, c5, rfl⟩, g, hgi, ⟨_, l60, _⟩, st⟩
      rw [List.length_map, List.take_length] at hgi
      have q := q g (rdE_all hgi)
      obtain ⟨fr, _, ys, hzs, nd, ly, ny, hy⟩ := st
      have s6 : Same H H6 := fun b u h => fr b u (s12 b u h) fun e => by rw [e, np] at h; cases h
      refine ⟨_, rfl, p, rfl, ⟨_, .inl (.inl hzs)⟩, fun D nD => lc_list (xs := ys.map V.ref) (fun j H' => Same H6 H' ∧ ∃ us, H' D = some (.lst us) ∧ us.length = j ∧ DxAll K H' us ((g.take j).map wsD)) ⟨same_new nD, [], upd_same, rfl, .nil⟩ (fun j H' _ e => .inl (.inl (e.1 _ _ hzs))) ?_ ?_⟩
      · rintro j x H7 hx ⟨s7, us, hD, lu, hd⟩
        rw [List.getElem?_map] at hx
        obtain ⟨y, hyj, rfl⟩ := Option.map_eq_some_iff.mp hx
        have jl : j < ys.length := (List.getElem?_eq_some_iff.mp hyj).1
        obtain ⟨ws, hws⟩ : ∃ ws, g[j]? = some ws := ⟨_, List.getElem?_eq_getElem (by omega)⟩
        obtain ⟨vs, hv, hdv⟩ := hy j y ws hyj hws
        refine ⟨rfl, _, rfl, y, vs, rfl, .inl ⟨.inl (.inl (s7 _ _ hv)), fun t nt => ?_⟩⟩
        have s8 := same_new (o := .tup vs) nt
        have ht := upd_same (H := H7) (a := t) (o := .tup vs)
        generalize upd H7 t (.tup vs) = H8 at s8 ht ⊢
        have hD8 := s8 _ _ hD
        have k : TupK H8 (upd H8 D (.lst (us ++ [.ref t]))) := TupK.put hD8 (fun _ e => by cases e) fun _ _ e => by cases e
        refine ⟨us, hD8, Nat.lt_of_le_of_lt (show us.length ≤ 60 by omega) (by decide), same_put nD (s7.trans s8), us ++ [.ref t], upd_same, by simp [lu], ?_⟩
        rw [take_snoc hws, List.map_append]
        refine dxa_keepT k ?_ (dxa_snoc (hd.upR (.of s8)) (.tup (.inl (.inl ht)) (hdv.upR (.of (s7.trans s8)))))
        have := tO_mgs (g.take j ++ [ws])
        rwa [List.map_append] at this
      · rintro H7 ⟨s7, us, hD, lu, hd⟩
        rw [List.length_map, ly, List.take_length] at hd
        exact ⟨D, us, rfl, .inl ⟨.inl (.inl hD), fun t nt => q _ _ ((s6.trans s7).trans (same_new nt)) (.tup (.inl (.inl upd_same)) (hd.upR (.of (same_new nt))))⟩⟩
end
end K92

set_option maxRecDepth 100000
set_option maxHeartbeats 800000
namespace K92
open PySem PySem.Spec L2 Rm
open PyProof.Rows hiding St
section
variable {P : Program} {w : World} {K : PySem.W.Frag} {mg : Str → Option Value} {base : Heap}
def spOneC : Sp := fun vs H Q _ => ∃ t o z, vs = [.ref t, .str z] ∧ H t = some o ∧ IsTape o ∧ 1 ≤ z.length ∧ z.length ≤ 1000 ∧ ∀ c o', c ∈ z.cps.toList → IsTape o' → Q (.str ⟨#[c]⟩) (upd H t o')
theorem ok_oneC {f : Addr} {fd : FuncData} (F : Fun K "_law_one_of" "_law_one_of" s__law_one_of f fd) (B : Bl mg)
    (D__law_pick : Ce P w K mg base CX0 1 "_law_pick" ["_law_tape_here", "_law_many"] spPick) :
    FnG P w K mg base CX0 2 f fd ["_law_tape_here", "_law_items"] spOneC := by
  refine fn_q F sc__law_one_of (fun vs H Q E h => ?_) (fun cdv A outer s H vs Q E hr hG h => ?_)
  · obtain ⟨t, o, z, rfl, _⟩ := h
    rfl
  · obtain ⟨t, o, z, rfl, ht, ho, h1, h2, k⟩ := h
    have hu := hu_of hr
    refine ⟨_, (pss_one (ps_ret (pe_ix ix_str (pv 1) (pe_ce D__law_pick (hr.mono (by decide)) hG (pa_cons (pv 0) (pa_cons (pe_callB call_len_str (by rfl) B.n_len (by decide +kernel) (pa_cons (pv 1) pa_nil)) pa_nil)) pass0) (fun _ _ => rfl)))), ?_⟩
    have zl : z.length ≤ sizeLine := Nat.le_trans h2 (by decide)
    refine ⟨_, rfl, _, rfl, _, rfl, z, rfl, zl, t, o, _, rfl, ht, ho, by omega, by omega, fun n o' n0 n1 ho' => ?_⟩
    have hb : n.toNat < z.cps.toList.length := by
      have e : z.cps.toList.length = z.length := rfl
      omega
    have ca : atI z.cps.toList n = some z.cps.toList[n.toNat] := by
      have e := atI_nat (xs := z.cps.toList) (j := n.toNat) (v := z.cps.toList[n.toNat]) (List.getElem?_eq_getElem hb)
      rw [Int.toNat_of_nonneg n0] at e
      exact e
    exact ⟨z, n, _, rfl, rfl, zl, ca, k _ _ (List.getElem_mem hb) ho'⟩
/-- one of a new list -/
theorem one_of {t p : Addr} {H H1 : Hp} {xs : List V} {Q : VK} {E : XK} (N : Nxt t H H1) (np : H1 p = none) (h1 : 1 ≤ xs.length) (h2 : xs.length ≤ 1000) (k : ∀ v ∈ xs, ∀ H', Nxt t H H' → Q v H') :
    spOne K [.ref t, .ref p] (upd H1 p (.lst xs)) Q E := by
  obtain ⟨kp, o, ht, ho⟩ := N
  have M := new_at (.lst xs) np ht
  exact ⟨t, p, o, xs, rfl, M.th, ho, .inl (.inl upd_same), h1, by omega, fun i v o' hv ho' => k v (List.mem_of_getElem? hv) _ ⟨fun b u hb ne => (upd_ne ne).trans (M.s _ _ (kp b u hb ne)), o', upd_same, ho'⟩⟩
def spMem : Sp := fun vs H Q _ => ∃ t o, vs = [.ref t] ∧ H t = some o ∧ IsTape o ∧ ∀ p m H', okM m = true → H' p = some (.tup [.int m.part, .str m.word, .str m.mode]) → p ≠ t → Nxt t H H' → Q (.ref p) H'
theorem sc__law_some_member : FnScope ["_law_tape_here", "_law_part", "_law_word", "_law_modes"] ["_law_tape_here"] (defScope s__law_some_member) :=
  ⟨rfl, rfl, rfl, by decide +kernel, rfl, by decide +kernel, by decide +kernel⟩
theorem ok_smem {f : Addr} {fd : FuncData} (F : Fun K "_law_some_member" "_law_some_member" s__law_some_member f fd) (B : Bl mg)
    (D__law_one_of : Ce P w K mg base CX0 2 "_law_one_of" ["_law_tape_here", "_law_items"] (spOne K)) :
    FnG P w K mg base CX0 3 f fd ["_law_tape_here"] spMem := by
  refine fn_q F sc__law_some_member (fun vs H Q E h => ?_) (fun cdv A outer s H vs Q E hr hG h => ?_)
  · obtain ⟨t, o, rfl, _⟩ := h
    rfl
  · obtain ⟨t, o, rfl, ht, ho, q⟩ := h
    have hu := hu_of hr
    refine ⟨_, (pss_cons (ps_par (i := 1) (j := 2) (by rfl) sc__law_some_member.nd rfl rfl (by decide) rfl rfl (pa_cons (pe_ce D__law_one_of (hr.mono (by decide)) hG (pa_cons (pv 0) (pa_cons (pe_lst (pa_cons pe_int (pa_cons pe_int (pa_cons pe_int (pa_cons pe_int (pa_cons pe_int (pa_cons (pe_op op_powX pe_int pe_int) pa_nil))))))) pa_nil)) pass0) (pa_cons (pe_ce D__law_one_of (hr.mono (by decide)) hG (pa_cons (pv 0) (pa_cons (pe_lst (pa_cons pe_str (pa_cons pe_str (pa_cons pe_str pa_nil)))) pa_nil)) pass0) pa_nil)) (by rfl))
      (pss_cons (ps_set (i := 3) sc__law_some_member.nd rfl (Or.inl rfl) (pe_slice sl_list (pe_lst (pa_cons pe_str (pa_cons pe_str (pa_cons pe_str (pa_cons pe_str pa_nil))))) (po_some (pe_op op_mulX pe_int (pe_callTy call_int1 (by rfl) B.n_int (by decide +kernel) (pa_cons (pe_cmpR op_eq (pv 2) pe_str (nomark _)) pa_nil)))) po_none))
      (pss_one (ps_ret (pe_tup (pa_cons (pv 1) (pa_cons (pv 2) (pa_cons (pe_ce D__law_one_of (hr.mono (by decide)) hG (pa_cons (pv 0) (pa_cons (pv 3) pa_nil)) pass0) pa_nil)))))))), ?_⟩
    have N0 : Nxt t H H := ⟨fun b u h _ => h, o, ht, ho⟩
    have lz : ∀ {n : Nat}, n ≤ 64 → n ≤ sizeLine := fun h => Nat.le_trans h (by decide)
    have intM : ∀ {v : V} {l : List Int} {lo hi : Int}, v ∈ l.map V.int → (l.all fun i => decide (lo ≤ i) && decide (i ≤ hi)) = true → ∃ i, v = .int i ∧ isW lo hi (.int i) = true := fun {v l lo hi} m h => by
      obtain ⟨i, hi, rfl⟩ := List.mem_map.mp m
      exact ⟨i, rfl, List.all_eq_true.mp h i hi⟩
    have strM : ∀ {v : V} {l : List Str}, v ∈ l.map V.str → ∃ y, v = .str y ∧ y ∈ l := fun {v l} m => by
      obtain ⟨i, hi, rfl⟩ := List.mem_map.mp m
      exact ⟨i, rfl, hi⟩
    have tup : ∀ {Hx : Hp} {p : Addr} {m : MB}, Nxt t H Hx → Hx p = none → okM m = true → Q (.ref p) (upd Hx p (.tup [.int m.part, .str m.word, .str m.mode])) := fun {Hx p m} N np om => by
      obtain ⟨kp, o', ht', ho'⟩ := id N
      have tp : t ≠ p := fun e => by rw [← e, ht'] at np; cases np
      exact q p m _ om upd_same (Ne.symm tp) (N.go (same_new np))
    refine ⟨_, rfl, _, _, rfl, rfl, pow32 (by decide) (by decide) (by decide) (by decide), lz (n := 6) (by decide), fun p1 n1 => ?_⟩
    dsimp only [tNil]
    refine one_of (E := E0) N0 n1 (by decide) (by decide) fun v m H1 N1 => ?_
    obtain ⟨i, rfl, hi⟩ := intM (l := [1, 2, 3, 10, 77, 10 ^ 6]) (lo := 1) (hi := 1000000) m (by decide)
    clear m
    refine ⟨_, rfl, lz (n := 3) (by decide), fun p2 n2 => one_of (E := E0) N1 n2 (by decide) (by decide) fun v m H2 N2 => ?_⟩
    obtain ⟨z, rfl, hz⟩ := strM (l := ["locks", "locks", "changes"]) m
    clear m
    have ok : ∀ {y : Str}, (z = "locks" ∧ y ∈ (["hold", "keep", "change", "replace"] : List Str)) ∨ (z = "changes" ∧ y ∈ (["change", "replace"] : List Str)) → okM ⟨i, z, y⟩ = true := fun {y} h => by
      show (isW 1 1000000 (.int i) && ((isT "locks" (.str z) && (rkD (.str y)).isSome) || (isT "changes" (.str z) && isCh (.str y)))) = true
      rw [hi]
      have a : ∀ y ∈ (["hold", "keep", "change", "replace"] : List Str), ((isT "locks" (.str "locks") && (rkD (.str y)).isSome) || (isT "changes" (.str "locks") && isCh (.str y))) = true := by decide +kernel
      have b : ∀ y ∈ (["change", "replace"] : List Str), ((isT "locks" (.str "changes") && (rkD (.str y)).isSome) || (isT "changes" (.str "changes") && isCh (.str y))) = true := by decide +kernel
      rcases h with ⟨rfl, h⟩ | ⟨rfl, h⟩
      · rw [a y h]; rfl
      · rw [b y h]; rfl
    have hz : z = "locks" ∨ z = "changes" := by
      simp only [List.mem_cons, List.not_mem_nil, or_false] at hz
      rcases hz with h | h | h
      · exact .inl h
      · exact .inl h
      · exact .inr h
    refine ⟨_, _, rfl, lz (n := 4) (by decide), fun p3 n3 => ?_⟩
    have N3 := N2.go (same_new (o := .lst [V.str "hold", .str "keep", .str "change", .str "replace"]) n3)
    have h3 := upd_same (H := H2) (a := p3) (o := .lst [V.str "hold", .str "keep", .str "change", .str "replace"])
    generalize upd H2 p3 (.lst [V.str "hold", .str "keep", .str "change", .str "replace"]) = H3 at N3 h3 ⊢
    refine ⟨_, rfl, rfl, .inr ⟨_, rfl, _, _, rfl, rfl, mulx_ok (a := 32) (b := 32) (by decide) (by split <;> decide) (by decide), _, rfl, p3, _, rfl, .inl (.inl h3), fun p4 n4 => ?_⟩⟩
    rcases hz with rfl | rfl
    · have e : decide (V.str "locks" = V.str "changes") = false := by decide +kernel
      rw [e]
      have ec : cutV [V.str "hold", .str "keep", .str "change", .str "replace"] (some (2 * if false = true then 1 else 0)) none = [V.str "hold", .str "keep", .str "change", .str "replace"] := cut_from (n := 0) (by simp)
      rw [ec]
      refine ⟨_, rfl, _, rfl, _, rfl, _, rfl, one_of (E := E0) N3 n4 (by decide) (by decide) fun v m H4 N4 => ?_⟩
      obtain ⟨y, rfl, hy⟩ := strM (l := ["hold", "keep", "change", "replace"]) m
      exact ⟨lz (n := 3) (by decide), fun p np => tup (m := ⟨i, "locks", y⟩) N4 np (ok (.inl ⟨rfl, hy⟩))⟩
    · have e : decide (V.str "changes" = V.str "changes") = true := by decide +kernel
      rw [e]
      have ec : cutV [V.str "hold", .str "keep", .str "change", .str "replace"] (some (2 * if true = true then 1 else 0)) none = [V.str "change", .str "replace"] := cut_from (n := 2) (by simp)
      rw [ec]
      refine ⟨_, rfl, _, rfl, _, rfl, _, rfl, one_of (E := E0) N3 n4 (by decide) (by decide) fun v m H4 N4 => ?_⟩
      obtain ⟨y, rfl, hy⟩ := strM (l := ["change", "replace"]) m
      exact ⟨lz (n := 3) (by decide), fun p np => tup (m := ⟨i, "changes", y⟩) N4 np (ok (.inr ⟨rfl, hy⟩))⟩
def spMgT (K : PySem.W.Frag) : Sp := fun vs H Q _ => ∃ x g, vs = [x] ∧ Dx K H x (mgD g) ∧ okG1 g ∧ ∀ H', Same H H' → Q (.str (mgT g)) H'
theorem dxa_map {K : PySem.W.Frag} {H : Hp} {α : Type} {f : α → PyData} {xs : List V} {l : List α} (h : DxAll K H xs (l.map f)) {i : Nat} {x : V} (hx : xs[i]? = some x) : ∃ a, l[i]? = some a ∧ Dx K H x (f a) := by
  obtain ⟨d, hd, hxd⟩ := h.get hx
  rw [List.getElem?_map] at hd
  obtain ⟨a, ha, rfl⟩ := Option.map_eq_some_iff.mp hd
  exact ⟨a, ha, hxd⟩
theorem eqv_mb (a b : MB) : PyData.eqv (mbD a) (mbD b) = decide (a = b) := by
  obtain ⟨p, w, m⟩ := a
  obtain ⟨p', w', m'⟩ := b
  rw [Bool.eq_iff_iff, decide_eq_true_iff]
  simp [mbD, mbL, PyData.eqv, PyData.eqvAll]
theorem any_mb (m : MB) : ∀ l : List MB, Rm.anyB (mbD m) (l.map mbD) = decide (m ∈ l)
  | [] => rfl
  | a :: l => by
    have ih := any_mb m l
    unfold Rm.anyB at ih ⊢
    rw [List.map_cons, List.any_cons, ih, eqv_mb, Bool.eq_iff_iff]
    simp
    rw [eq_comm]
theorem lay_mbs : ∀ {ms : List MB}, (∀ m ∈ ms, okM m = true) → PyData.canLayAll0 (ms.map mbD) = true
  | [], _ => by simp [PyData.canLayAll0]
  | m :: ms, h => by
    have a := (lay_mb (h m (.head _))).1
    have b := lay_mbs (ms := ms) fun x hx => h x (.tail _ hx)
    simp only [List.map_cons, PyData.canLayAll0, a, b, Bool.and_self]
theorem dx_mb {K : PySem.W.Frag} {H : Hp} {p : Addr} {m : MB} (h : H p = some (.tup [.int m.part, .str m.word, .str m.mode])) : Dx K H (.ref p) (mbD m) :=
  .tup (.inl (.inl h)) (.cons (.int _) (.cons (.str _) (.cons (.str _) .nil)))
/-- members in a list -/
def MbsAt (K : PySem.W.Frag) (H : Hp) (D : Addr) (ms : List MB) : Prop := ∃ us, H D = some (.lst us) ∧ DxAll K H us (ms.map mbD)
theorem MbsAt.len {K : PySem.W.Frag} {H : Hp} {D : Addr} {ms : List MB} (h : MbsAt K H D ms) : ∃ us, H D = some (.lst us) ∧ us.length = ms.length ∧ DxAll K H us (ms.map mbD) := by
  obtain ⟨us, a, b⟩ := h
  have l := dxa_len b
  rw [List.length_map] at l
  exact ⟨us, a, l, b⟩
theorem MbsAt.up {K : PySem.W.Frag} {H H' : Hp} {D : Addr} {ms : List MB} (h : MbsAt K H D ms) (s : Same H H') : MbsAt K H' D ms := by
  obtain ⟨us, a, b⟩ := h
  exact ⟨us, s _ _ a, b.upR (.of s)⟩
theorem MbsAt.nxt {K : PySem.W.Frag} {H H' : Hp} {D t : Addr} {o : HO} {ms : List MB} (h : MbsAt K H D ms) (ht : H t = some o) (ho : IsTape o) (n : Nxt t H H') (ne : D ≠ t) : MbsAt K H' D ms := by
  obtain ⟨us, a, b⟩ := h
  exact ⟨us, n.keep _ _ a ne, dxa_keepT (TupK.nxt ht ho n) (tO_mbs ms) b⟩
theorem MbsAt.snoc {K : PySem.W.Frag} {H : Hp} {D : Addr} {ms : List MB} {us : List V} {v : V} {m : MB} (hD : H D = some (.lst us)) (h : DxAll K H us (ms.map mbD)) (hv : Dx K H v (mbD m)) : MbsAt K (upd H D (.lst (us ++ [v]))) D (ms ++ [m]) := by
  refine ⟨_, upd_same, ?_⟩
  have k : TupK H (upd H D (.lst (us ++ [v]))) := TupK.put hD (fun _ e => by cases e) fun _ _ e => by cases e
  refine dxa_keepT k (tO_mbs _) ?_
  rw [List.map_append]
  exact dxa_snoc h hv
theorem nx_new {t D : Addr} {H H' : Hp} (N : Nxt t H H') (n : H' D = none) : D ≠ t ∧ H D = none := by
  obtain ⟨k, o, ht, _⟩ := N
  have ne : D ≠ t := fun e => by rw [e, ht] at n; cases n
  refine ⟨ne, ?_⟩
  cases e : H D with
  | none => rfl
  | some u =>
    have := k D u e ne
    rw [n] at this
    cases this
theorem _root_.Rm.Nxt.put0 {t l : Addr} {o : HO} {H H1 : Hp} (n : Nxt t H H1) (f : H l = none) (ht : t ≠ l) : Nxt t H (upd H1 l o) := n.put f ht
theorem nx_own {t : Addr} {H : Hp} {o : HO} (h : H t = some o) (ho : IsTape o) : Nxt t H H := ⟨fun b u hb _ => hb, o, h, ho⟩
theorem cut_to {xs : List V} {n : Nat} (h : n ≤ xs.length) : cutV xs none (some (n : Int)) = xs.take n := by
  have e1 : HT.sIx xs.length xs.length (some (n : Int)) = n := by
    rw [HT.sIx_nat]
    exact Nat.min_eq_left h
  have e2 : HT.sIx xs.length 0 none = 0 := rfl
  unfold cutV
  rw [e1, e2, List.drop_zero, Nat.sub_zero]
theorem dxa_take {K : PySem.W.Frag} {H : Hp} : ∀ {xs : List V} {ds : List PyData} (i : Nat), DxAll K H xs ds → DxAll K H (xs.take i) (ds.take i)
  | _, _, 0, _ => by
    rw [List.take_zero, List.take_zero]
    exact .nil
  | _, _, i + 1, .nil => .nil
  | _, _, i + 1, .cons h r => .cons h (dxa_take i r)
def spSWr (K : PySem.W.Frag) : Sp := fun vs H Q _ => ∃ t o, vs = [.ref t] ∧ H t = some o ∧ IsTape o ∧ ∀ p w xs H', okR w = true → H' p = some (.tup xs) → Dx K H' (.ref p) (wrD w) → p ≠ t → Nxt t H H' → Q (.ref p) H'
theorem sc__law_some_write : FnScope ["_law_tape_here", "_law_number_here", "_law_many", "_law_some", "_law_name", "_law_version", "_law_k", "_law_at", "_law_one"] ["_law_tape_here"] (defScope s__law_some_write) :=
  ⟨rfl, rfl, rfl, by decide +kernel, rfl, by decide +kernel, by decide +kernel⟩
theorem ok_swr {f : Addr} {fd : FuncData} (F : Fun K "_law_some_write" "_law_some_write" s__law_some_write f fd) (B : Bl mg)
    (D__law_pick : Ce P w K mg base CX0 1 "_law_pick" ["_law_tape_here", "_law_many"] spPick)
    (D__law_one_of : Ce P w K mg base CX0 2 "_law_one_of" ["_law_tape_here", "_law_items"] (spOne K)) 
    (D__law_some_member : Ce P w K mg base CX0 3 "_law_some_member" ["_law_tape_here"] spMem) :
    FnG P w K mg base CX0 4 f fd ["_law_tape_here"] (spSWr K) := by
  refine fn_q F sc__law_some_write (fun vs H Q E h => ?_) (fun cdv A outer s H vs Q E hr hG h => ?_)
  · obtain ⟨t, o, rfl, _⟩ := h
    rfl
  · obtain ⟨t, o, rfl, ht, ho, q⟩ := h
    have hu := hu_of hr
    refine ⟨_, (pss_cons (ps_set (i := 1) sc__law_some_write.nd rfl (Or.inl rfl) (pe_ce D__law_one_of (hr.mono (by decide)) hG (pa_cons (pv 0) (pa_cons (pe_lst (pa_cons pe_int (pa_cons pe_int (pa_cons pe_int (pa_cons (pe_op op_powX pe_int pe_int) pa_nil))))) pa_nil)) pass0))
      (pss_cons (ps_if (pt_cmpR op_eq (pe_ce D__law_pick (hr.mono (by decide)) hG (pa_cons (pv 0) (pa_cons pe_int pa_nil)) pass0) pe_int (nomark _)) (pss_cons (ps_set (i := 2) sc__law_some_write.nd rfl (Or.inl rfl) (pe_ce D__law_one_of (hr.mono (by decide)) hG (pa_cons (pv 0) (pa_cons (pe_lst (pa_cons pe_int (pa_cons pe_int (pa_cons pe_int (pa_cons pe_int (pa_cons pe_int pa_nil)))))) pa_nil)) pass0))
      (pss_cons (ps_set (i := 3) sc__law_some_write.nd rfl (Or.inr rfl) (pe_lc (own := [("_law_k", 6)]) (by rfl) sc__law_some_write.nd (pi_range1 (by rfl) B.n_range (pa_cons (pe_callB (call_min2 rfl) (by rfl) B.n_min (by decide +kernel) (pa_cons (pv 2) (pa_cons pe_int pa_nil))) pa_nil)) (blkOk_by (own := [("_law_k", 6)]) (N := ["_law_tape_here", "_law_number_here", "_law_many", "_law_some", "_law_name", "_law_version", "_law_k", "_law_at", "_law_one"]) (sc := defScope s__law_some_write) (by decide +kernel))
        (fun _ _ _ _ _ => (pg_name (i := 6) sc__law_some_write.nd rfl (Or.inl rfl))) (fun _ _ _ _ _ => pts_nil) (fun _ _ _ _ _ => (pe_ce D__law_some_member (hr.mono (by decide)) hG (pa_cons (pv 0) pa_nil) pass0))))
      (pss_cons (ps_if (pt_cmpR op_eq (pv 2) pe_int (nomark _)) (pss_one (ps_set (i := 3) sc__law_some_write.nd rfl (Or.inr rfl) (pe_lc (own := [("_law_k", 6)]) (by rfl) sc__law_some_write.nd (pi_range1 (by rfl) B.n_range (pa_cons pe_int pa_nil)) (blkOk_by (own := [("_law_k", 6)]) (N := ["_law_tape_here", "_law_number_here", "_law_many", "_law_some", "_law_name", "_law_version", "_law_k", "_law_at", "_law_one"]) (sc := defScope s__law_some_write) (by decide +kernel))
        (fun _ _ _ _ _ => (pg_name (i := 6) sc__law_some_write.nd rfl (Or.inl rfl))) (fun _ _ _ _ _ => pts_nil) (fun _ _ _ _ _ => (pe_tup (pa_cons (pe_op op_add pe_int (pv 6)) (pa_cons pe_str (pa_cons (pe_ce D__law_one_of (hr.mono (by decide)) hG (pa_cons (pv 0) (pa_cons (pe_lst (pa_cons pe_str (pa_cons pe_str pa_nil))) pa_nil)) pass0) pa_nil)))))))) pss_nil)
      (pss_one (ps_ret (pe_tup (pa_cons pe_str (pa_cons (pv 1) (pa_cons (pe_callTy call_tuple_of (by rfl) B.n_tuple (by decide +kernel) (pa_cons (pe_lc (own := [("_law_at", 7), ("_law_one", 8)]) (by rfl) sc__law_some_write.nd (pi_enum (by rfl) B.n_enumerate (pa_cons (pv 3) pa_nil)) (blkOk_by (own := [("_law_at", 7), ("_law_one", 8)]) (N := ["_law_tape_here", "_law_number_here", "_law_many", "_law_some", "_law_name", "_law_version", "_law_k", "_law_at", "_law_one"]) (sc := defScope s__law_some_write) (by decide +kernel))
        (fun _ _ _ _ _ => (show PG _ _ (gTup K 2 _) from (pg_tup rfl (pgs_cons (pg_name (i := 7) sc__law_some_write.nd rfl (Or.inl rfl)) (pgs_cons (pg_name (i := 8) sc__law_some_write.nd rfl (Or.inl rfl)) pgs_nil))))) (fun _ _ _ _ _ => (pts_one (pt_cmpR (show OpR _ _ (rInD K true) from op_notInDt hr.units) (pv 8) (pe_slice (show SlR _ (rSlL K) from sl_list) (pv 3) po_none (po_some (pv 7))) (by rfl)))) (fun _ _ _ _ _ => (pv 8))) pa_nil)) pa_nil))))))))) pss_nil)
      (pss_cons (ps_par (i := 4) (j := 5) (by rfl) sc__law_some_write.nd rfl rfl (by decide) rfl rfl (pa_cons (pe_ce D__law_one_of (hr.mono (by decide)) hG (pa_cons (pv 0) (pa_cons (pe_lst (pa_cons pe_str (pa_cons pe_str (pa_cons pe_str (pa_cons pe_str pa_nil))))) pa_nil)) pass0) (pa_cons (pe_ce D__law_one_of (hr.mono (by decide)) hG (pa_cons (pv 0) (pa_cons (pe_lst (pa_cons pe_int (pa_cons pe_int (pa_cons pe_int (pa_cons (pe_op op_powX pe_int pe_int) pa_nil))))) pa_nil)) pass0) pa_nil)) (by rfl))
      (pss_one (ps_ret (pe_tup (pa_cons pe_str (pa_cons (pv 4) (pa_cons (pv 5) (pa_cons (pe_ce D__law_one_of (hr.mono (by decide)) hG (pa_cons (pv 0) (pa_cons (pe_lst (pa_cons pe_non (pa_cons (pv 1) (pa_cons (pe_ce D__law_some_member (hr.mono (by decide)) hG (pa_cons (pv 0) pa_nil) pass0) pa_nil)))) pa_nil)) pass0) pa_nil)))))))))), ?_⟩
    have intM : ∀ {v : V} {l : List Int} {lo hi : Int}, v ∈ l.map V.int → (l.all fun i => decide (lo ≤ i) && decide (i ≤ hi)) = true → ∃ i, v = .int i ∧ isW lo hi (.int i) = true := fun {v l lo hi} m h => by
      obtain ⟨i, hi, rfl⟩ := List.mem_map.mp m
      exact ⟨i, rfl, List.all_eq_true.mp h i hi⟩
    have strM : ∀ {v : V} {l : List Str}, v ∈ l.map V.str → ∃ y, v = .str y ∧ y ∈ l := fun {v l} m => by
      obtain ⟨i, hi, rfl⟩ := List.mem_map.mp m
      exact ⟨i, rfl, hi⟩
    have N0 : Nxt t H H := ⟨fun b u h _ => h, o, ht, ho⟩
    have lz : ∀ {n : Nat}, n ≤ 64 → n ≤ sizeLine := fun h => Nat.le_trans h (by decide)
    have fin : ∀ {Hx : Hp} {p : Addr} {xs : List V} {w : WR}, Nxt t H Hx → Hx p = none → okR w = true → Dx K (upd Hx p (.tup xs)) (.ref p) (wrD w) → Q (.ref p) (upd Hx p (.tup xs)) := fun {Hx p xs w} N np ow hx => by
      obtain ⟨kp, o', ht', ho'⟩ := id N
      have tp : t ≠ p := fun e => by rw [← e, ht'] at np; cases np
      exact q p w xs _ ow upd_same hx (Ne.symm tp) (N.go (same_new np))
    refine ⟨_, rfl, _, _, rfl, rfl, pow32 (by decide) (by decide) (by decide) (by decide), lz (n := 4) (by decide), fun p1 n1 => one_of (E := E0) N0 n1 (by decide) (by decide) fun v m H1 N1 => ?_⟩
    obtain ⟨n, rfl, hn⟩ := intM (l := [1, 2, 10, 10 ^ 6]) (lo := 1) (hi := 1000000) m (by decide)
    clear m
    obtain ⟨o1, ht1, ho1⟩ := id N1.tape
    dsimp only [gName]
    refine Rm.seq_mid (fun σ' H' => σ' = [some (.ref t), some (.int n), none, none, none, none, none, none, none] ∧ Nxt t H H') ?_ (fun N hN => ?_)
    rotate_left
    · refine ⟨_, rfl, t, o1, 2, rfl, ht1, ho1, by decide, by decide, fun k o2 k0 k1 ho2 => ⟨rfl, _, rfl, ite2 (fun _ => ?_) fun _ => hN _ _ ⟨rfl, N1.turn ho2⟩⟩⟩
      have N2 := N1.turn (o := o2) ho2
      have h2 := upd_same (H := H1) (a := t) (o := o2)
      generalize upd H1 t o2 = H2 at N2 h2 ⊢
      refine ⟨_, rfl, lz (n := 5) (by decide), fun p2 n2 => one_of (E := E0) N2 n2 (by decide) (by decide) fun v m H3 N3 => ?_⟩
      obtain ⟨many, rfl, hm⟩ := intM (l := [0, 1, 2, 3, 40]) (lo := 0) (hi := 40) m (by decide)
      obtain ⟨m0, m40⟩ := isW_i hm
      clear m
      obtain ⟨o3, ht3, ho3⟩ := id N3.tape
      have mn : 0 ≤ (if (5 : Int) < many then 5 else many) ∧ (if (5 : Int) < many then 5 else many) ≤ 5 := by split <;> omega
      refine ⟨_, rfl, _, _, rfl, _, rfl, by omega, by omega, fun D nD => ?_⟩
      obtain ⟨tD, hD0⟩ := nx_new N3 nD
      refine Rm.lc_range (fun k H' => Nxt t H H' ∧ ∃ ms : List MB, MbsAt K H' D ms ∧ ms.length ≤ k ∧ ∀ m ∈ ms, okM m = true)
        ⟨N3.put0 hD0 (Ne.symm tD), [], ⟨[], upd_same, .nil⟩, Nat.le_refl _, fun _ h => by cases h⟩ ?_ ?_
      · rintro k H' hk ⟨N', ms, hms, lm, om⟩
        obtain ⟨o', ht', ho'⟩ := id N'.tape
        refine ⟨rfl, _, rfl, t, o', rfl, ht', ho', fun p m H4 hm hp pt N4 => ?_⟩
        obtain ⟨us, hD, lu, hd⟩ := (hms.nxt ht' ho' N4 tD).len
        refine ⟨us, hD, Nat.lt_of_le_of_lt (show us.length ≤ 64 by omega) (by decide), (N'.trans N4).put0 hD0 (Ne.symm tD), ms ++ [m], MbsAt.snoc hD hd (dx_mb hp), by simp; omega, fun x hx => ?_⟩
        rcases List.mem_append.mp hx with hx | hx
        · exact om x hx
        · rw [List.mem_singleton.mp hx]; exact hm
      rintro H4 ⟨N4, ms, hms, lm, om⟩
      have lm5 : ms.length ≤ 40 := by omega
      dsimp only [gName]
      refine Rm.seq_mid (fun σ' H' => ∃ S ms, σ' = [some (.ref t), some (.int n), some (.int many), some (.ref S), none, none, none, none, none] ∧ Nxt t H H' ∧ MbsAt K H' S ms ∧ ms.length ≤ 40 ∧ ∀ m ∈ ms, okM m = true) ?_ (fun N2 hN2 => ?_)
      rotate_left
      · refine ⟨_, rfl, rfl, _, rfl, ite2 (fun _ => ?_) fun _ => hN2 _ _ ⟨D, ms, rfl, N4, hms, lm5, om⟩⟩
        refine ⟨40, rfl, by decide, by decide, fun D2 nD2 => ?_⟩
        obtain ⟨tD2, hD20⟩ := nx_new N4 nD2
        refine Rm.lc_range (fun k H' => Nxt t H H' ∧ ∃ ms : List MB, MbsAt K H' D2 ms ∧ ms.length ≤ k ∧ ∀ m ∈ ms, okM m = true)
          ⟨N4.put0 hD20 (Ne.symm tD2), [], ⟨[], upd_same, .nil⟩, Nat.le_refl _, fun _ h => by cases h⟩ ?_ ?_
        · rintro k H' hk ⟨N', ms, hms, lm, om⟩
          obtain ⟨o', ht', ho'⟩ := id N'.tape
          refine ⟨rfl, _, rfl, _, _, rfl, rfl, _, rfl, lz (n := 2) (by decide), fun p4 n4 => one_of (E := E0) (nx_own ht' ho') n4 (by decide) (by decide) fun v m H5 N5 => ⟨lz (n := 3) (by decide), fun p np => ?_⟩⟩
          obtain ⟨y, rfl, hy⟩ := strM (l := ["hold", "keep"]) m
          clear m
          have om1 : okM ⟨1 + (0 + ((k : Nat) : Int)), "locks", y⟩ = true := by
            show (isW 1 1000000 (.int (1 + (0 + ((k : Nat) : Int)))) && ((isT "locks" (.str "locks") && (rkD (.str y)).isSome) || (isT "changes" (.str "locks") && isCh (.str y)))) = true
            have a : ∀ y ∈ (["hold", "keep"] : List Str), ((isT "locks" (.str "locks") && (rkD (.str y)).isSome) || (isT "changes" (.str "locks") && isCh (.str y))) = true := by decide +kernel
            rw [a y hy, Bool.and_true]
            show (decide ((1 : Int) ≤ 1 + (0 + ((k : Nat) : Int))) && decide (1 + (0 + ((k : Nat) : Int)) ≤ (1000000 : Int))) = true
            rw [decide_eq_true (show (1 : Int) ≤ 1 + (0 + ((k : Nat) : Int)) by omega), decide_eq_true (show 1 + (0 + ((k : Nat) : Int)) ≤ (1000000 : Int) by omega)]
            rfl
          have s6 := same_new (o := .tup [V.int (1 + (0 + ((k : Nat) : Int))), .str "locks", .str y]) np
          have hp := upd_same (H := H5) (a := p) (o := .tup [V.int (1 + (0 + ((k : Nat) : Int))), .str "locks", .str y])
          have N6 := N5.go s6
          generalize upd H5 p (.tup [V.int (1 + (0 + ((k : Nat) : Int))), .str "locks", .str y]) = H6 at N6 hp ⊢
          obtain ⟨us, hD, lu, hd⟩ := (hms.nxt ht' ho' N6 tD2).len
          refine ⟨us, hD, Nat.lt_of_le_of_lt (show us.length ≤ 64 by omega) (by decide), (N'.trans N6).put0 hD20 (Ne.symm tD2), ms ++ [⟨1 + (0 + ((k : Nat) : Int)), "locks", y⟩], MbsAt.snoc hD hd (dx_mb hp), by simp; omega, fun x hx => ?_⟩
          rcases List.mem_append.mp hx with hx | hx
          · exact om x hx
          · rw [List.mem_singleton.mp hx]; exact om1
        · rintro H5 ⟨N5, ms2, hms2, lm2, om2⟩
          exact hN2 _ _ ⟨D2, ms2, rfl, N5, hms2, lm2, om2⟩
      · rintro _ H5 ⟨S, ms, rfl, N5, hms, lm40, om⟩
        obtain ⟨us, hS, lus, hd⟩ := hms.len
        have hST : SqL K H5 S us := .inl (.inl hS)
        refine ⟨_, rfl, _, rfl, S, us, rfl, hST, fun D nD => ?_⟩
        obtain ⟨tD, hD0⟩ := nx_new N5 nD
        refine lc_it (walk_enum (K := K) (a := S) (xs := us)) (fun i H' => Same H5 H' ∧ ∃ ns, MbsAt K H' D ns ∧ ns.Nodup ∧ (∀ x ∈ ns, x ∈ ms.take i) ∧ ns.length ≤ i)
          ⟨same_new nD, [], ⟨[], upd_same, .nil⟩, .nil, (fun _ h => by cases h), Nat.le_refl _⟩ (fun i H' _ e => .inl (.inl (e.1 _ _ hS))) ?_ ?_
        · rintro i x H' H6 hi ⟨s6, ns, hns, nd, hsub, ln⟩ ⟨T, a1, b1, rfl, nT, rfl, ea, eb⟩
          obtain rfl := Option.some.inj ea
          obtain ⟨m, hm, hxm⟩ := dxa_map hd eb
          have im : i < ms.length := (List.getElem?_eq_some_iff.mp hm).1
          have omm := om m (List.mem_of_getElem? hm)
          have s7 := same_new (o := .tup [V.int ((i : Nat) : Int), b1]) nT
          have hT := upd_same (H := H') (a := T) (o := .tup [V.int ((i : Nat) : Int), b1])
          generalize upd H' T (.tup [V.int ((i : Nat) : Int), b1]) = H7 at s7 hT ⊢
          refine ⟨_, _, rfl, .inl (.inl hT), rfl, _, _, rfl, _, _, rfl, rfl, ?_⟩
          have s67 := s6.trans s7
          refine ⟨rfl, _, rfl, _, rfl, _, rfl, _, rfl, S, us, rfl, .inl (.inl (s67 _ _ hS)), fun p5 np5 => ?_⟩
          rw [cut_to (by omega)]
          have s8 := same_new (o := .lst (us.take i)) np5
          have s68 := s67.trans s8
          have dt : DxAll K (upd H7 p5 (.lst (us.take i))) (us.take i) ((ms.take i).map mbD) := by
            rw [List.map_take]
            exact dxa_take i (hd.upR (.of s68))
          have okt : ∀ x ∈ ms.take i, okM x = true := fun x hx => om x (List.mem_of_mem_take hx)
          have hp5 := upd_same (H := H7) (a := p5) (o := .lst (us.take i))
          generalize upd H7 p5 (.lst (us.take i)) = H8 at s8 s68 dt hp5 ⊢
          refine ⟨mbD m, p5, us.take i, (ms.take i).map mbD, dp_of (lay_mb omm).1 (hxm.upR (.of s68)), rfl, .inl (.inl (.inl hp5)), dpAll_of (lay_mbs okt) dt, (lay_mb omm).1, lay_mbs okt, Nat.le_trans (lay_mb omm).2 (by decide), _, rfl, ?_⟩
          rw [if_pos rfl, any_mb]
          have ns8 := hns.up (s7.trans s8)
          refine ite2 (fun c => ?_) fun c => ?_
          · have nin : m ∉ ms.take i := fun h => by
              rw [decide_eq_true h] at c
              cases c
            obtain ⟨vs, hD, lv, hv⟩ := ns8.len
            refine ⟨_, rfl, vs, hD, Nat.lt_of_le_of_lt (show vs.length ≤ 64 by omega) (by decide), same_put nD s68, ns ++ [m], MbsAt.snoc hD hv (hxm.upR (.of s68)), ?_, fun x hx => ?_, by simp; omega⟩
            · rw [List.nodup_append]
              exact ⟨nd, by simp, fun a ha b hb e => by rw [List.mem_singleton.mp hb] at e; rw [e] at ha; exact nin (hsub m ha)⟩
            · rw [take_snoc hm]
              rcases List.mem_append.mp hx with hx | hx
              · exact List.mem_append_left _ (hsub x hx)
              · exact List.mem_append_right _ hx
          · exact ⟨s68, ns, ns8, nd, fun x hx => by rw [take_snoc hm]; exact List.mem_append_left _ (hsub x hx), by omega⟩
        · rintro H6 ⟨s6, ns, hns, nd, hsub, ln⟩
          obtain ⟨vs, hD, lv, hv⟩ := hns.len
          rw [lus, List.take_length] at hsub
          have on : ∀ x ∈ ns, okM x = true := fun x hx => om x (hsub x hx)
          have ow : okR (.set n ns) = true := by
            show (isW 1 1000000 (.int n) && (decide (ns.length ≤ 40) && (decide ns.Nodup && ns.all okM))) = true
            rw [hn, decide_eq_true (show ns.length ≤ 40 by omega), decide_eq_true nd, List.all_eq_true.mpr on]
            rfl
          refine ⟨D, vs, rfl, .inl ⟨.inl (.inl hD), fun l nl => ⟨lz (n := 3) (by decide), fun p np => ?_⟩⟩⟩
          have s7 := same_new (o := .tup vs) nl
          have hl := upd_same (H := H6) (a := l) (o := .tup vs)
          generalize upd H6 l (.tup vs) = H7 at s7 hl np ⊢
          have s8 := same_new (o := .tup [V.str "set", .int n, .ref l]) np
          exact fin (w := .set n ns) ((N5.go s6).go s7) np ow (.tup (.inl (.inl upd_same)) (.cons (.str _) (.cons (.int _) (.cons (.tup (.inl (.inl (s8 _ _ hl))) (hv.upR (.of (s7.trans s8)))) .nil))))
    · rintro _ H2 ⟨rfl, N2⟩
      refine ⟨_, rfl, lz (n := 4) (by decide), fun p4 n4 => ?_⟩
      dsimp only [tNil]
      refine one_of (E := E0) N2 n4 (by decide) (by decide) fun v m H7 N7 => ?_
      obtain ⟨nm, rfl, hnm⟩ := strM (l := ["x", "set", "none", "abcdef"]) m
      have lnm : lnZ nm = true := by
        have a : ∀ y ∈ (["x", "set", "none", "abcdef"] : List Str), lnZ y = true := by decide +kernel
        exact a nm hnm
      clear m hnm
      refine ⟨_, rfl, _, _, rfl, rfl, pow32 (by decide) (by decide) (by decide) (by decide), lz (n := 4) (by decide), fun p5 n5 => one_of (E := E0) N7 n5 (by decide) (by decide) fun v m H8 N8 => ?_⟩
      obtain ⟨ver, rfl, hver⟩ := intM (l := [0, 1, 10, 10 ^ 6]) (lo := 0) (hi := 1000000) m (by decide)
      clear m
      refine ⟨_, _, rfl, ?_⟩
      obtain ⟨o8, ht8, ho8⟩ := id N8.tape
      refine ⟨_, rfl, _, rfl, _, rfl, _, rfl, _, rfl, t, o8, rfl, ht8, ho8, fun pm mm H9 om hpm pt N9 => ⟨lz (n := 3) (by decide), fun p6 n6 => ?_⟩⟩
      obtain ⟨o9, ht9, ho9⟩ := id N9.tape
      dsimp only [tNil]
      refine one_of (E := E0) (nx_own ht9 ho9) n6 (show 1 ≤ 3 by decide) (show 3 ≤ 1000 by decide) fun v m H10 N10 => ⟨lz (n := 4) (by decide), fun p np => ?_⟩
      have Nx := (N8.trans N9).trans N10
      have go : ∀ k : MK, okK k = true → Dx K H10 v (mkD k) → Q (.ref p) (upd H10 p (.tup [V.str "mark", .str nm, .int ver, v])) := fun k hk hx => by
        have ow : okR (.mark nm ver k) = true := by
          show (lnZ nm && (isW 0 1000000 (.int ver) && okK k)) = true
          rw [lnm, hver, hk]
          rfl
        exact fin (w := .mark nm ver k) Nx np ow (.tup (.inl (.inl upd_same)) (.cons (.str _) (.cons (.str _) (.cons (.int _) (.cons (hx.upR (.of (same_new np))) .nil)))))
      simp only [List.mem_cons, List.not_mem_nil, or_false] at m
      rcases m with rfl | rfl | rfl
      · exact go .none rfl .non
      · exact go (.num n) hn (.int n)
      · exact go (.mem mm) om (dx_mb (N10.keep _ _ hpm pt))
end
end K92

set_option maxRecDepth 100000
set_option maxHeartbeats 800000
namespace K92
open PySem PySem.Spec L2 Rm
open PyProof.Rows hiding St
section
variable {P : Program} {w : World} {K : PySem.W.Frag} {mg : Str → Option Value} {base : Heap}
theorem n6 {n : Int} {lo : Int} (h : isW lo 1000000 (.int n) = true) (l : 0 ≤ lo) : n.natAbs < 10 ^ 30 := by
  obtain ⟨a, b⟩ := isW_i h
  omega
theorem mbL_lf {m : MB} (h : okM m = true) : ∀ d ∈ mbL m, Lf d := fun d hd => by
  have w := (mb_words h (wD d) (List.mem_map_of_mem hd)).wk
  refine ⟨w, ?_⟩
  have e : d = .int m.part ∨ d = .str m.word ∨ d = .str m.mode := by simpa [mbL] using hd
  rcases e with rfl | rfl | rfl
  · obtain ⟨a, b, _⟩ := okM_is h
    exact .inr ⟨_, rfl, by omega⟩
  · exact .inl ⟨_, rfl⟩
  · exact .inl ⟨_, rfl⟩
theorem mkT_len {k : MK} (h : okK k = true) : (mkT k).length ≤ 96 := by
  have l := join_len (y := " ") fun w hw => (mk_words h w hw).wk.l31
  have e1 : (" " : Str).length = 1 := by decide +kernel
  have := (mkW_len (k := k)).2
  rw [e1] at l
  exact Nat.le_trans l (Nat.le_trans (Nat.mul_le_mul_right _ this) (by decide))
/-- data in a list -/
def LsAt (K : PySem.W.Frag) (H : Hp) (D : Addr) (ds : List PyData) : Prop := ∃ us, H D = some (.lst us) ∧ us.length = ds.length ∧ DxAll K H us ds
theorem LsAt.up {K : PySem.W.Frag} {H H' : Hp} {D : Addr} {ds : List PyData} (h : LsAt K H D ds) (s : Same H H') : LsAt K H' D ds := by
  obtain ⟨us, a, l, b⟩ := h
  exact ⟨us, s _ _ a, l, b.upR (.of s)⟩
theorem LsAt.nxt {K : PySem.W.Frag} {H H' : Hp} {D t : Addr} {o : HO} {ds : List PyData} (h : LsAt K H D ds) (tO : tOA ds = true) (ht : H t = some o) (ho : IsTape o) (n : Nxt t H H') (ne : D ≠ t) : LsAt K H' D ds := by
  obtain ⟨us, a, l, b⟩ := h
  exact ⟨us, n.keep _ _ a ne, l, dxa_keepT (TupK.nxt ht ho n) tO b⟩
theorem LsAt.snoc {K : PySem.W.Frag} {H : Hp} {D : Addr} {ds : List PyData} {us : List V} {v : V} {d : PyData} (hD : H D = some (.lst us)) (hl : us.length = ds.length) (h : DxAll K H us ds) (hv : Dx K H v d) (tO : tOA (ds ++ [d]) = true) : LsAt K (upd H D (.lst (us ++ [v]))) D (ds ++ [d]) := by
  refine ⟨_, upd_same, by simp [hl], ?_⟩
  have k : TupK H (upd H D (.lst (us ++ [v]))) := TupK.put hD (fun _ e => by cases e) fun _ _ e => by cases e
  exact dxa_keepT k tO (dxa_snoc h hv)
theorem sqt_k {K : PySem.W.Frag} {H H' : Hp} {a : Addr} {xs : List V} (k : TupK H H') (h : SqT K H a xs) : SqT K H' a xs := by
  rcases h with h | h
  · exact .inl (k _ _ h)
  · exact .inr h
theorem co_cat (h : Str) : ∀ ps : List Str, h ++ Txt.join "" (ps.map fun z => (", " : Str) ++ z) = Txt.join ", " (h :: ps)
  | [] => by
    rw [Rm.join_one]
    show h ++ Txt.join "" [] = h
    rw [TL.join_eq]
    show (⟨h.cps ++ #[]⟩ : Str) = h
    rw [Array.append_empty]
  | [p] => by
    show h ++ Txt.join "" [(", " : Str) ++ p] = _
    rw [Rm.join_one, join2, st_as]
  | p :: q :: r => by
    have ih := co_cat p (q :: r)
    rw [join_cc, ← ih]
    simp only [List.map_cons]
    rw [join_cc]
    have e : ("" : Str) = Str.empty := rfl
    have em : ∀ z : Str, z ++ Str.empty = z := fun z => by
      show (⟨z.cps ++ #[]⟩ : Str) = z
      rw [Array.append_empty]
    rw [e, em]
    simp only [st_as]
def spSMg (K : PySem.W.Frag) : Sp := fun vs H Q _ => ∃ t o many, vs = [.ref t, .int many] ∧ H t = some o ∧ IsTape o ∧ 0 ≤ many ∧ many ≤ 60 ∧ ∀ l g H', okG g → (g.length : Int) = many → (∀ ws ∈ g, ws.length ≤ 3) → Dx K H' (.ref l) (mgD g) → l ≠ t → Nxt t H H' → Q (.ref l) H'
theorem sc__law_some_marking : FnScope ["_law_tape_here", "_law_many", "_law_found_here", "_law_turn", "_law_k"] ["_law_tape_here", "_law_many"] (defScope s__law_some_marking) :=
  ⟨rfl, rfl, rfl, by decide +kernel, rfl, by decide +kernel, by decide +kernel⟩
theorem ok_smg {f : Addr} {fd : FuncData} (F : Fun K "_law_some_marking" "_law_some_marking" s__law_some_marking f fd) (B : Bl mg)
    (D__law_one_of : Ce P w K mg base CX0 2 "_law_one_of" ["_law_tape_here", "_law_items"] (spOne K)) (D__law_some_write : Ce P w K mg base CX0 4 "_law_some_write" ["_law_tape_here"] (spSWr K)) :
    FnG P w K mg base CX0 5 f fd ["_law_tape_here", "_law_many"] (spSMg K) := by
  refine fn_q F sc__law_some_marking (fun vs H Q E h => ?_) (fun cdv A outer s H vs Q E hr hG h => ?_)
  · obtain ⟨t, o, many, rfl, _⟩ := h
    rfl
  · obtain ⟨t, o, many, rfl, ht, ho, m0, m60, q⟩ := h
    have hu := hu_of hr
    refine ⟨_, (pss_cons (ps_set (i := 2) sc__law_some_marking.nd rfl (Or.inl rfl) (pe_lst pa_nil))
      (pss_cons (ps_for PassesOwn.never rfl (pi_range1 (by rfl) B.n_range (pa_cons (pv 1) pa_nil)) (pg_name (i := 3) sc__law_some_marking.nd rfl (Or.inl rfl)) (pss_one (ps_expr (pe_bm PySem.F.plainAttrs_list PySem.F.slot_list_append PySem.F.type_list_append mt_append (pv 2) (pa_cons (pe_callTy call_tuple_of (by rfl) B.n_tuple (by decide +kernel) (pa_cons (pe_lc (own := [("_law_k", 4)]) (by rfl) sc__law_some_marking.nd (pi_range1 (by rfl) B.n_range (pa_cons (pe_ce D__law_one_of (hr.mono (by decide)) hG (pa_cons (pv 0) (pa_cons (pe_lst (pa_cons pe_int (pa_cons pe_int (pa_cons pe_int (pa_cons pe_int (pa_cons pe_int pa_nil)))))) pa_nil)) pass0) pa_nil)) (blkOk_by (own := [("_law_k", 4)]) (N := ["_law_tape_here", "_law_many", "_law_found_here", "_law_turn", "_law_k"]) (sc := defScope s__law_some_marking) (by decide +kernel))
        (fun _ _ _ _ _ => (pg_name (i := 4) sc__law_some_marking.nd rfl (Or.inl rfl))) (fun _ _ _ _ _ => pts_nil) (fun _ _ _ _ _ => (pe_ce D__law_some_write (hr.mono (by decide)) hG (pa_cons (pv 0) pa_nil) pass0))) pa_nil)) pa_nil)))))
      (pss_one (ps_ret (pe_callTy call_tuple_of (by rfl) B.n_tuple (by decide +kernel) (pa_cons (pv 2) pa_nil)))))), ?_⟩
    have N0 : Nxt t H H := ⟨fun b u h _ => h, o, ht, ho⟩
    have lz : ∀ {n : Nat}, n ≤ 64 → n ≤ sizeLine := fun h => Nat.le_trans h (by decide)
    refine ⟨lz (n := 0) (by decide), fun p np => ?_⟩
    obtain ⟨pt, hp0⟩ := nx_new N0 np
    have N1 : Nxt t H (upd H p (.lst [])) := N0.put0 hp0 (Ne.symm pt)
    have hp1 := upd_same (H := H) (a := p) (o := .lst [])
    generalize upd H p (.lst []) = H1 at N1 hp1 ⊢
    refine ⟨_, rfl, many, rfl, by omega, by omega, for_range (fun i σ H' => (∃ c3, σ = [some (.ref t), some (.int many), some (.ref p), c3, none]) ∧ Nxt t H H' ∧ ∃ g : MG, LsAt K H' p (g.map wsD) ∧ g.length = i ∧ ∀ ws ∈ g, ws.length ≤ 3 ∧ ∀ w ∈ ws, okR w = true)
      ⟨⟨_, rfl⟩, N1, [], ⟨[], hp1, rfl, .nil⟩, rfl, (fun _ h => by cases h)⟩ ?_ ?_⟩
    · rintro i σ H' hi ⟨⟨c3, rfl⟩, N', g, hg, lg, og⟩
      have i60 : i < 60 := by omega
      obtain ⟨us, hp, lu, hu1⟩ := id hg
      obtain ⟨o', ht', ho'⟩ := id N'.tape
      refine ⟨_, rfl, .inl ⟨rfl, us, .inl (.inl hp)⟩, _, rfl, lz (n := 5) (by decide), fun p2 n2 => one_of (E := E0) (nx_own ht' ho') n2 (by decide) (by decide) fun v m H2 N2 => ?_⟩
      obtain ⟨k, rfl, k0, k3⟩ : ∃ k : Int, v = .int k ∧ 0 ≤ k ∧ k ≤ 3 := by
        simp only [List.mem_cons, List.not_mem_nil, or_false] at m
        rcases m with e | e | e | e | e
        · exact ⟨0, e, by decide, by decide⟩
        · exact ⟨0, e, by decide, by decide⟩
        · exact ⟨1, e, by decide, by decide⟩
        · exact ⟨2, e, by decide, by decide⟩
        · exact ⟨3, e, by decide, by decide⟩
      clear m
      refine ⟨_, rfl, by omega, by omega, fun D nD => ?_⟩
      obtain ⟨tD, hD0⟩ := nx_new N2 nD
      refine Rm.lc_range (fun k H3 => Nxt t H' H3 ∧ ∃ ws : List WR, LsAt K H3 D (ws.map wrD) ∧ ws.length ≤ k ∧ ∀ w ∈ ws, okR w = true)
        ⟨N2.put0 hD0 (Ne.symm tD), [], ⟨[], upd_same, rfl, .nil⟩, Nat.le_refl _, fun _ h => by cases h⟩ ?_ ?_
      · rintro j H3 hj ⟨N3, ws, hws, lw, ow⟩
        obtain ⟨o3, ht3, ho3⟩ := id N3.tape
        refine ⟨rfl, _, rfl, t, o3, rfl, ht3, ho3, fun q1 w1 xs1 H4 hw1 hq1 hx1 qt N4 => ?_⟩
        obtain ⟨vs, hD, lv, hv⟩ := hws.nxt (tO_wrs ws) ht3 ho3 N4 tD
        rw [List.length_map] at lv
        refine ⟨vs, hD, Nat.lt_of_le_of_lt (show vs.length ≤ 64 by omega) (by decide), (N3.trans N4).put0 hD0 (Ne.symm tD), ws ++ [w1], ?_, by simp; omega, fun x hx => ?_⟩
        · have := LsAt.snoc hD (ds := ws.map wrD) (by rw [List.length_map, lv]) hv hx1 (by have := tO_wrs (ws ++ [w1]); rwa [List.map_append] at this)
          rwa [List.map_append]
        · rcases List.mem_append.mp hx with hx | hx
          · exact ow x hx
          · rw [List.mem_singleton.mp hx]; exact hw1
      · rintro H3 ⟨N3, ws, ⟨vs, hD, lv, hv⟩, lw, ow⟩
        refine ⟨D, vs, rfl, .inl ⟨.inl (.inl hD), fun l nl => ?_⟩⟩
        have s4 := same_new (o := .tup vs) nl
        have hl := upd_same (H := H3) (a := l) (o := .tup vs)
        have N4 := N3.go s4
        generalize upd H3 l (.tup vs) = H4 at s4 hl N4 ⊢
        obtain ⟨us4, hp4, lu4, hu4⟩ := hg.nxt (tO_mgs g) ht' ho' N4 pt
        rw [List.length_map] at lu4
        refine ⟨p, us4, _, rfl, rfl, hp4, Nat.lt_of_le_of_lt (show us4.length ≤ 64 by omega) (by decide), ⟨_, rfl⟩, (N'.trans N4).put0 hp0 (Ne.symm pt), g ++ [ws], ?_, by simp [lg], fun x hx => ?_⟩
        · have := LsAt.snoc hp4 (ds := g.map wsD) (by rw [List.length_map, lu4]) hu4 (d := wsD ws) (.tup (.inl (.inl hl)) (hv.upR (.of s4))) (by have := tO_mgs (g ++ [ws]); rwa [List.map_append] at this)
          rwa [List.map_append]
        · rcases List.mem_append.mp hx with hx | hx
          · exact og x hx
          · rw [List.mem_singleton.mp hx]; exact ⟨by omega, ow⟩
    · rintro σ H' ⟨⟨c3, rfl⟩, N', g, ⟨us, hp, lu, hu1⟩, lg, og⟩
      have ok : okG g := ⟨by omega, fun ws hw => ⟨by have := (og ws hw).1; omega, (og ws hw).2⟩⟩
      refine ⟨_, rfl, p, us, rfl, .inl ⟨.inl (.inl hp), fun l nl => ?_⟩⟩
      obtain ⟨lt, _⟩ := nx_new N' nl
      exact q l g _ ok (by omega) (fun ws hw => (og ws hw).1) (.tup (.inl (.inl upd_same)) (hu1.upR (.of (same_new nl)))) lt (N'.go (same_new nl))
theorem sc__law_member_text : FnScope ["_law_member", "_law_part"] ["_law_member"] (defScope s__law_member_text) :=
  ⟨rfl, rfl, rfl, by decide +kernel, rfl, by decide +kernel, by decide +kernel⟩
def spMbT (K : PySem.W.Frag) : Sp := fun vs H Q _ => ∃ x m, vs = [x] ∧ Dx K H x (mbD m) ∧ okM m = true ∧ ∀ H', Same H H' → Q (.str (mbT m)) H'
theorem ok_mbtext {f : Addr} {fd : FuncData} (F : Fun K "_law_member_text" "_law_member_text" s__law_member_text f fd) (B : Bl mg) :
    FnG P w K mg base CX0 1 f fd ["_law_member"] (spMbT K) := by
  refine fn_q F sc__law_member_text (fun vs H Q E h => ?_) (fun cdv A outer s H vs Q E hr hG h => ?_)
  · obtain ⟨x, m, rfl, _⟩ := h
    rfl
  · obtain ⟨x, m, rfl, hx, hm, q⟩ := h
    have hu := hu_of hr
    refine ⟨_, (pss_one (ps_ret (pe_bm PySem.F.plainAttrs_str PySem.F.slot_str_join PySem.F.type_str_join mt_join pe_str (pa_cons (pe_lc (own := [("_law_part", 1)]) (by rfl) sc__law_member_text.nd (pi_tup (pv 0)) (blkOk_by (own := [("_law_part", 1)]) (N := ["_law_member", "_law_part"]) (sc := defScope s__law_member_text) (by decide +kernel))
        (fun _ _ _ _ _ => (pg_name (i := 1) sc__law_member_text.nd rfl (Or.inl rfl))) (fun _ _ _ _ _ => pts_nil) (fun _ _ _ _ _ => (pe_callTy call_strIS (by rfl) B.n_str (by decide +kernel) (pa_cons (pv 1) pa_nil)))) pa_nil)))), ?_⟩
    have lfs := mbL_lf hm
    cases hx with
    | tup hs hx =>
    rename_i a xs
    have ll := dxa_len hx
    refine ⟨rfl, _, rfl, a, rfl, ⟨xs, hs⟩, fun D nD => ?_⟩
    refine lc_tup (fun i H' => Same H H' ∧ H' D = some (.lst ((((mbL m).take i).map wD).map V.str))) ⟨same_new nD, upd_same⟩ (fun i H' _ e => sqt_up e.1 hs) ?_ ?_
    · rintro i x H' hxi ⟨s1, hD⟩
      obtain ⟨d, hd, hxd⟩ := hx.get hxi
      obtain ⟨e, b⟩ := lf_wV (lfs d (List.mem_of_getElem? hd)) hxd
      refine ⟨rfl, _, rfl, x, wD d, rfl, e, b, _, hD, ?_, ?_, ?_⟩
      · rw [List.length_map, List.length_map, List.length_take]
        exact Nat.lt_of_le_of_lt (Nat.min_le_right _ _) (show 3 < _ by decide)
      · exact same_put nD s1
      · rw [upd_same, take_snoc hd, List.map_append, List.map_append]
        rfl
    · rintro H' ⟨s1, hD⟩
      rw [ll, List.take_length] at hD
      refine ⟨_, D, (mbL m).map wD, rfl, rfl, .inl (.inl (.inl hD)), ?_, q _ s1⟩
      have l := sum_le (n := 31) (wl_leL lfs)
      have e1 : (" " : Str).length = 1 := by decide +kernel
      have e3 : ((mbL m).map wD).length = 3 := rfl
      rw [e3] at l
      rw [e1, e3]
      omega
theorem sc__law_marking_text : FnScope ["_law_story", "_law_lines", "_law_at", "_law_writes", "_law_write", "_law_some", "_law_mark", "_law_ahead", "_law_word", "_law_one"] ["_law_story"] (defScope s__law_marking_text) :=
  ⟨rfl, rfl, rfl, by decide +kernel, rfl, by decide +kernel, by decide +kernel⟩
theorem ok_lmgt {f : Addr} {fd : FuncData} (F : Fun K "_law_marking_text" "_law_marking_text" s__law_marking_text f fd) (B : Bl mg)
    (D__law_member_text : Ce P w K mg base CX0 1 "_law_member_text" ["_law_member"] (spMbT K)) :
    FnG P w K mg base CX0 2 f fd ["_law_story"] (spMgT K) := by
  refine fn_q F sc__law_marking_text (fun vs H Q E h => ?_) (fun cdv A outer s H vs Q E hr hG h => ?_)
  · obtain ⟨x, g, rfl, _⟩ := h
    rfl
  · obtain ⟨x, g, rfl, hx, hk, q⟩ := h
    have hu := hu_of hr
    refine ⟨_, (pss_cons (ps_set (i := 1) sc__law_marking_text.nd rfl (Or.inl rfl) (pe_lst pa_nil))
      (pss_cons (ps_for PassesOwn.never rfl (pi_enumT0 (by rfl) B.n_enumerate (pa_cons (pv 0) pa_nil)) (pg_tup rfl (pgs_cons (pg_name (i := 2) sc__law_marking_text.nd rfl (Or.inl rfl)) (pgs_cons (pg_name (i := 3) sc__law_marking_text.nd rfl (Or.inl rfl)) pgs_nil))) (pss_cons (ps_expr (pe_bm PySem.F.plainAttrs_list PySem.F.slot_list_append PySem.F.type_list_append mt_append (pv 1) (pa_cons (pe_op op_add_str pe_str (pe_callTy call_strIS (by rfl) B.n_str (by decide +kernel) (pa_cons (pe_op op_add (pv 2) pe_int) pa_nil))) pa_nil)))
      (pss_one (ps_for PassesOwn.never rfl (pi_tup (pv 3)) (pg_name (i := 4) sc__law_marking_text.nd rfl (Or.inl rfl)) (pss_one (ps_if (pt_cmpR op_eq (pe_ix ix_tup (pv 4) pe_int (fun _ _ => rfl)) pe_str (nomark _)) (pss_cons (ps_set (i := 5) sc__law_marking_text.nd rfl (Or.inl rfl) (pe_bm PySem.F.plainAttrs_str PySem.F.slot_str_join PySem.F.type_str_join mt_join pe_str (pa_cons (pe_lc (own := [("_law_one", 9)]) (by rfl) sc__law_marking_text.nd (pi_tup (pe_ix ix_tup (pv 4) pe_int (fun _ _ => rfl))) (blkOk_by (own := [("_law_one", 9)]) (N := ["_law_story", "_law_lines", "_law_at", "_law_writes", "_law_write", "_law_some", "_law_mark", "_law_ahead", "_law_word", "_law_one"]) (sc := defScope s__law_marking_text) (by decide +kernel))
        (fun _ _ _ _ _ => (pg_name (i := 9) sc__law_marking_text.nd rfl (Or.inl rfl))) (fun _ _ _ _ _ => pts_nil) (fun _ _ _ _ _ => (pe_op op_add_str pe_str (pe_ce D__law_member_text (hr.mono (by decide)) hG (pa_cons (pv 9) pa_nil) pass0)))) pa_nil)))
      (pss_one (ps_expr (pe_bm PySem.F.plainAttrs_list PySem.F.slot_list_append PySem.F.type_list_append mt_append (pv 1) (pa_cons (pe_op op_add_str (pe_op op_add_str pe_str (pe_callTy call_strIS (by rfl) B.n_str (by decide +kernel) (pa_cons (pe_ix ix_tup (pv 4) pe_int (fun _ _ => rfl)) pa_nil))) (pv 5)) pa_nil))))) (pss_cons (ps_par (i := 6) (j := 7) (by rfl) sc__law_marking_text.nd rfl rfl (by decide) rfl rfl (pa_cons (pe_ix ix_tup (pv 4) pe_int (fun _ _ => rfl)) (pa_cons (pe_op op_add_str (pe_op op_add_str (pe_op op_add_str (pe_op op_add_str pe_str (pe_ix ix_tup (pv 4) pe_int (fun _ _ => rfl))) pe_str) (pe_callTy call_strIS (by rfl) B.n_str (by decide +kernel) (pa_cons (pe_ix ix_tup (pv 4) pe_int (fun _ _ => rfl)) pa_nil))) pe_str) pa_nil)) (by rfl))
      (pss_cons (ps_set (i := 8) sc__law_marking_text.nd rfl (Or.inl rfl) (pe_ifExp (pt_cmpR op_isN (pv 6) pe_non (nomark _)) pe_str pe_str))
      (pss_cons (ps_set (i := 8) sc__law_marking_text.nd rfl (Or.inl rfl) (pe_ifExp (pt_val (pe_callB call_isi (by rfl) B.n_isinstance (by decide +kernel) (pa_cons (pv 6) (pa_cons (pe_bltn (v := .ty "int") (u := .type "int") (by rfl) B.n_int (by decide +kernel) rfl) pa_nil)))) (pe_op op_add_str pe_str (pe_callTy call_strIS (by rfl) B.n_str (by decide +kernel) (pa_cons (pv 6) pa_nil))) (pv 8)))
      (pss_one (ps_expr (pe_bm PySem.F.plainAttrs_list PySem.F.slot_list_append PySem.F.type_list_append mt_append (pv 1) (pa_cons (pe_op op_add_str (pv 7) (pe_ifExp (pt_val (pe_callB call_isi (by rfl) B.n_isinstance (by decide +kernel) (pa_cons (pv 6) (pa_cons (pe_bltn (v := .ty "tuple") (u := .type "tuple") (by rfl) B.n_tuple (by decide +kernel) rfl) pa_nil)))) (pe_ce D__law_member_text (hr.mono (by decide)) hG (pa_cons (pv 6) pa_nil) pass0) (pv 8))) pa_nil)))))))))))))
      (pss_one (ps_ret (pe_bm PySem.F.plainAttrs_str PySem.F.slot_str_join PySem.F.type_str_join mt_join pe_str (pa_cons (pv 1) pa_nil)))))), ?_⟩
    cases hx with
    | tup hs ha =>
    rename_i a xs
    have ll := dxa_len ha
    rw [List.length_map] at ll
    have L : ∀ {n : Nat}, n ≤ 10000 → n ≤ sizeLine := fun h => Nat.le_trans h (by decide)
    refine ⟨(show 0 ≤ sizeLine by decide), fun p np => ?_⟩
    have s1 := same_new (o := .lst []) np
    have hp := upd_same (H := H) (a := p) (o := .lst [])
    generalize upd H p (.lst []) = H1 at s1 hp ⊢
    let Sg (c2 c3 c4 c5 c6 c7 c8 : Option V) : L2.St := [some (.ref a), some (.ref p), c2, c3, c4, c5, c6, c7, c8, none]
    refine ⟨_, rfl, a, xs, rfl, sqt_up s1 hs, for_it (walk_enumT (K := K) (a := a) (c := 0) (xs := xs))
      (fun i σ H' => (∃ c2 c3 c4 c5 c6 c7 c8, σ = Sg c2 c3 c4 c5 c6 c7 c8) ∧ Same H H' ∧ H' p = some (.lst ((mgL 1 (g.take i)).map V.str)))
      ⟨⟨_, _, _, _, _, _, _, rfl⟩, s1, hp⟩ (fun i σ H' _ e => sqt_up e.2.1 hs) ?_ ?_⟩
    · rintro i x σ H' H3 hi ⟨⟨c2, c3, c4, c5, c6, c7, c8, rfl⟩, s2, hp2⟩ ⟨T, a1, b1, rfl, nT, rfl, ea, eb⟩
      obtain rfl := Option.some.inj ea
      obtain ⟨ws, hws, hxw⟩ := dxa_map ha eb
      have oks := hk.w ws (List.mem_of_getElem? hws)
      have s3 := same_new (o := .tup [.int (0 + ((i : Nat) : Int)), b1]) nT
      have hT := upd_same (H := H') (a := T) (o := .tup [.int (0 + ((i : Nat) : Int)), b1])
      have hxw := hxw.upR (.of (s2.trans s3))
      have hp3 := s3 _ _ hp2
      have s23 := s2.trans s3
      generalize upd H' T (.tup [.int (0 + ((i : Nat) : Int)), b1]) = H3 at hT s3 hxw hp3 s23 ⊢
      have l3 : (mgL 1 (g.take i)).length ≤ 671 := by
        have a := mgL_len (g := g.take i) (i := 1) fun ws hw => (hk.w ws (List.mem_of_mem_take hw)).1
        have b := List.length_take_le i g
        have := hk.l
        omega
      have i60 : i < 61 := by
        have := hk.l
        omega
      have lA : (0 + ((i : Nat) : Int) + 1).natAbs < 10 ^ 30 := by omega
      have lg := log_lt lA
      have l31 : (sI (0 + ((i : Nat) : Int) + 1)).length ≤ 31 := (wk2_num lA).wk.l31
      have lz : ("at " : Str).length = 3 := by decide +kernel
      cases hxw with
      | tup hs2 ha2 =>
      rename_i a2 xs2
      have ll2 := dxa_len ha2
      rw [List.length_map] at ll2
      refine ⟨_, _, rfl, .inl (.inl hT), rfl, _, _, rfl, _, _, rfl, rfl, ?_⟩
      refine ⟨_, rfl, .inl ⟨rfl, _, .inl (.inl hp3)⟩, _, rfl, _, _, rfl, rfl, .int (0 + ((i : Nat) : Int) + 1), sI (0 + ((i : Nat) : Int) + 1), rfl, rfl, ?_, _, _, rfl, rfl, L (by rw [lz]; omega), ?_⟩
      · intro j e
        cases e
        omega
      have eA : ("at " : Str) ++ sI (0 + ((i : Nat) : Int) + 1) = Rm.atT (0 + ((i : Nat) : Int) + 1) := by
        rw [← at_n, st_em]
      rw [eA]
      refine ⟨p, _, _, rfl, rfl, hp3, by rw [List.length_map]; exact Nat.lt_of_le_of_lt l3 (by decide), ?_⟩
      have k4 : TupK H3 (upd H3 p (.lst ((mgL 1 (g.take i)).map V.str ++ [V.str (Rm.atT (0 + ((i : Nat) : Int) + 1))]))) := TupK.put hp3 (fun _ e => by cases e) fun _ _ e => by cases e
      have s4 : Same H (upd H3 p (.lst ((mgL 1 (g.take i)).map V.str ++ [V.str (Rm.atT (0 + ((i : Nat) : Int) + 1))]))) := same_put np s23
      have hp4 := upd_same (H := H3) (a := p) (o := .lst ((mgL 1 (g.take i)).map V.str ++ [V.str (Rm.atT (0 + ((i : Nat) : Int) + 1))]))
      have hs4 : SqT K (upd H3 p (.lst ((mgL 1 (g.take i)).map V.str ++ [V.str (Rm.atT (0 + ((i : Nat) : Int) + 1))]))) a2 xs2 := by
        rcases hs2 with h | h
        · exact .inl (k4 _ _ h)
        · exact .inr h
      have ha4 := dxa_keepT k4 (tO_wrs ws) ha2
      generalize upd H3 p (.lst ((mgL 1 (g.take i)).map V.str ++ [V.str (Rm.atT (0 + ((i : Nat) : Int) + 1))])) = H4 at s4 hp4 hs4 ha4 ⊢
      let LS (j : Nat) : List Str := mgL 1 (g.take i) ++ (Rm.atT (0 + ((i : Nat) : Int) + 1) :: (ws.take j).map wrT)
      have e0 : (mgL 1 (g.take i)).map V.str ++ [V.str (Rm.atT (0 + ((i : Nat) : Int) + 1))] = (LS 0).map V.str := by simp [LS]
      rw [e0] at hp4
      have lLS : ∀ j, (LS j).length ≤ 682 := fun j => by
        have := oks.1
        have : (ws.take j).length ≤ ws.length := by rw [List.length_take]; exact Nat.min_le_right _ _
        simp only [LS, List.length_append, List.length_cons, List.length_map]
        omega
      have LSs : ∀ {j : Nat} {w : WR}, ws[j]? = some w → (LS j).map V.str ++ [V.str (wrT w)] = (LS (j + 1)).map V.str := fun {j w} h => by
        simp only [LS]
        rw [take_snoc h]
        simp
      refine ⟨_, rfl, a2, rfl, ⟨xs2, hs4⟩, for_it (walk_tup (K := K) (a := a2) (xs := xs2))
        (fun j σ H' => (∃ c4 c5 c6 c7 c8, σ = Sg (some (.int (0 + ((i : Nat) : Int)))) (some (.ref a2)) c4 c5 c6 c7 c8) ∧ TupK H4 H' ∧ Same H H' ∧ H' p = some (.lst ((LS j).map V.str)))
        ⟨⟨_, _, _, _, _, rfl⟩, .of (.refl _), s4, hp4⟩ (fun j σ H' _ e => sqt_k e.2.1 hs4) ?_ ?_⟩
      · rintro j x σ _ H5 hj ⟨⟨d4, d5, d6, d7, d8, rfl⟩, k5, s5, hp5⟩ ⟨rfl, hxj⟩
        obtain ⟨w, hw, hxw⟩ := dxa_map ha4 hxj
        have hxw := dx_keepT k5 (tO_wr w) hxw
        have ow := oks.2 w (List.mem_of_getElem? hw)
        have wl := wr_line ow
        have next : ∀ {H6 : Hp} {c4 c5 c6 c7 c8 : Option V}, Same H5 H6 → ((∃ d4 d5 d6 d7 d8, Sg (some (.int (0 + ((i : Nat) : Int)))) (some (.ref a2)) c4 c5 c6 c7 c8 = Sg (some (.int (0 + ((i : Nat) : Int)))) (some (.ref a2)) d4 d5 d6 d7 d8) ∧ TupK H4 (upd H6 p (.lst ((LS j).map V.str ++ [V.str (wrT w)]))) ∧ Same H (upd H6 p (.lst ((LS j).map V.str ++ [V.str (wrT w)]))) ∧ upd H6 p (.lst ((LS j).map V.str ++ [V.str (wrT w)])) p = some (.lst ((LS (j + 1)).map V.str))) := fun {H6 c4 c5 c6 c7 c8} s6 =>
          ⟨⟨_, _, _, _, _, rfl⟩, (k5.trans (.of s6)).trans (TupK.put (s6 _ _ hp5) (fun _ e => by cases e) fun _ _ e => by cases e), same_put np (s5.trans s6), by rw [upd_same, LSs hw]⟩
        have lpj : ((LS j).map V.str).length < sizeLine := by
          rw [List.length_map]
          exact Nat.lt_of_le_of_lt (lLS j) (by decide)
        cases w with
        | set n ms =>
          have h : (isW 1 1000000 (.int n) && (decide (ms.length ≤ 40) && (decide ms.Nodup && ms.all okM))) = true := ow
          rw [Bool.and_eq_true, Bool.and_eq_true, Bool.and_eq_true] at h
          obtain ⟨h1, h2, _, h4⟩ := h
          have h2 := of_decide_eq_true h2
          have h4 := List.all_eq_true.mp h4
          have lgn := log_lt (n6 h1 (by decide))
          have ln31 : (sI n).length ≤ 31 := (mk_words (k := .num n) h1 (sI n) (by simp [mkW])).wk.l31
          have l4 : ("set " : Str).length = 4 := by decide +kernel
          obtain ⟨b, b2, ys, rfl, hsb, hsb2, hab2⟩ : ∃ a a2 xs, x = .ref a ∧ SqT K H5 a [.str "set", .int n, .ref a2] ∧ SqT K H5 a2 xs ∧ DxAll K H5 xs (ms.map mbD) := by
            cases hxw with
            | tup hs ha =>
            cases ha with
            | cons d0 ha =>
            cases d0
            cases ha with
            | cons d1 ha =>
            cases d1
            cases ha with
            | cons d2 ha =>
            cases ha
            cases d2 with
            | tup hs2 ha2 => exact ⟨_, _, _, rfl, hs, hs2, ha2⟩
          have lb := dxa_len hab2
          rw [List.length_map] at lb
          refine ⟨_, rfl, b, _, 0, .str "set", rfl, rfl, hsb, atI_nat (j := 0) rfl, rfl, _, rfl, ite2 (fun _ => ?_) fun c => (c rfl).elim⟩
          refine ⟨rfl, _, rfl, b, _, 2, .ref b2, rfl, rfl, hsb, atI_nat (j := 2) rfl, b2, rfl, ⟨ys, hsb2⟩, fun D nD => ?_⟩
          have lmb : ∀ m ∈ ms, (mbT m).length ≤ 96 := fun m hm => (mb_line (h4 m hm)).2
          have l2 : (", " : Str).length = 2 := by decide +kernel
          refine lc_tup (fun k H' => Same H5 H' ∧ H' D = some (.lst ((((ms.take k).map mbT).map fun z => (", " : Str) ++ z).map V.str))) ⟨same_new nD, upd_same⟩ (fun k H' _ e => sqt_up e.1 hsb2) ?_ ?_
          · rintro k x H' hxk ⟨s6, hD⟩
            obtain ⟨m, hm, hxm⟩ := dxa_map hab2 hxk
            have om := h4 m (List.mem_of_getElem? hm)
            refine ⟨rfl, _, rfl, x, m, rfl, hxm.upR (.of s6), om, fun H6 s7 => ⟨_, _, rfl, rfl, L (by rw [l2]; have := lmb m (List.mem_of_getElem? hm); omega), _, s7 _ _ hD, ?_, same_put nD (s6.trans s7), ?_⟩⟩
            · rw [List.length_map, List.length_map, List.length_map, List.length_take]
              exact Nat.lt_of_le_of_lt (Nat.min_le_right _ _) (Nat.lt_of_le_of_lt h2 (by decide))
            · rw [upd_same, take_snoc hm]
              simp
          · rintro H6 ⟨s6, hD⟩
            rw [lb, List.take_length] at hD
            refine ⟨_, D, (ms.map mbT).map fun z => (", " : Str) ++ z, rfl, rfl, .inl (.inl (.inl hD)), ?_, ?_⟩
            · have l := sum_le (n := 98) (ps := (ms.map mbT).map fun z => (", " : Str) ++ z) fun z hz => by
                obtain ⟨y, hy, rfl⟩ := List.mem_map.mp hz
                obtain ⟨m, hm, rfl⟩ := List.mem_map.mp hy
                have := lmb m hm
                rw [len_app, l2]
                omega
              have e0 : ("" : Str).length = 0 := by decide +kernel
              rw [List.length_map, List.length_map] at l ⊢
              rw [e0]
              omega
            have eW : ("set " : Str) ++ sI n ++ Txt.join "" ((ms.map mbT).map fun z => (", " : Str) ++ z) = wrT (.set n ms) := by
              show _ = Txt.join ", " (Txt.join " " [("set" : Str), sI n] :: ms.map mbT)
              rw [← co_cat, ← set_n, st_em]
            have lJ : (("set " : Str) ++ sI n).length + (Txt.join "" ((ms.map mbT).map fun z => (", " : Str) ++ z)).length ≤ 10000 := by
              have := wl.lz
              rw [← len_app, eW]
              omega
            refine ⟨_, rfl, .inl ⟨rfl, _, .inl (.inl (s6 _ _ hp5))⟩, _, rfl, b, _, 1, .int n, rfl, rfl, sqt_up s6 hsb, atI_nat (j := 1) rfl, .int n, sI n, rfl, rfl, ?_, _, _, rfl, rfl, L (by rw [l4]; omega), _, rfl, _, _, rfl, rfl, L lJ, ?_⟩
            · intro j e
              cases e
              omega
            rw [eW]
            exact ⟨p, _, _, rfl, rfl, s6 _ _ hp5, lpj, next s6⟩
        | mark nm v k =>
          have h : (lnZ nm && (isW 0 1000000 (.int v) && okK k)) = true := ow
          rw [Bool.and_eq_true, Bool.and_eq_true] at h
          obtain ⟨h1, h2, h3⟩ := h
          obtain ⟨b, x3, rfl, hsb, h3x⟩ : ∃ a x3, x = .ref a ∧ SqT K H5 a [.str "mark", .str nm, .int v, x3] ∧ Dx K H5 x3 (mkD k) := by
            cases hxw with
            | tup hs ha =>
            cases ha with
            | cons d0 ha =>
            cases d0
            cases ha with
            | cons d1 ha =>
            cases d1
            cases ha with
            | cons d2 ha =>
            cases d2
            cases ha with
            | cons d3 ha =>
            cases ha
            exact ⟨_, _, rfl, hs, d3⟩
          refine ⟨_, rfl, b, _, 0, .str "mark", rfl, rfl, hsb, atI_nat (j := 0) rfl, rfl, _, rfl, ite2 (fun c => absurd (of_decide_eq_true c) (by decide +kernel)) fun _ => ?_⟩
          have lgn := log_lt (n6 h2 (by decide))
          have l5 : ("mark " : Str).length = 5 := by decide +kernel
          have l1 : (" " : Str).length = 1 := by decide +kernel
          have lnm := (wk2_name h1).wk.l31
          have lnv : (sI v).length ≤ 31 := (wk2_num (n6 h2 (by decide))).wk.l31
          have lk := mkT_len h3
          have bv : ∀ j, V.int v = V.int j → j.natAbs.log2 < 1920 := fun j e => by
            cases e
            omega
          have eT : ("mark " : Str) ++ nm ++ (" " : Str) ++ sI v ++ (" " : Str) ++ mkT k = wrT (.mark nm v k) := by
            show _ = Txt.join " " ("mark" :: nm :: sI v :: mkW k)
            rw [join_cc, join_cc]
            obtain ⟨c, r, e⟩ := List.exists_cons_of_length_pos (mkW_len (k := k)).1
            unfold mkT
            rw [e, join_cc, show ("mark " : Str) = ("mark" : Str) ++ (" " : Str) by decide +kernel]
            simp only [st_as]
          have lT : (("mark " : Str) ++ nm ++ (" " : Str) ++ sI v ++ (" " : Str)).length ≤ 100 := by
            simp only [len_app]
            omega
          refine ⟨_, rfl, b, _, 3, x3, rfl, rfl, hsb, atI_nat (j := 3) rfl, ?_⟩
          refine ⟨_, rfl, b, _, 1, .str nm, rfl, rfl, hsb, atI_nat (j := 1) rfl, _, _, rfl, rfl, L (by omega), _, _, rfl, rfl, L (by simp only [len_app]; omega), _, rfl, b, _, 2, .int v, rfl, rfl, hsb, atI_nat (j := 2) rfl, .int v, sI v, rfl, rfl, bv, _, _, rfl, rfl, L (by simp only [len_app]; omega), _, _, rfl, rfl, L (by simp only [len_app]; omega), _, _, rfl, ?_⟩
          have tI := kit_kd (K := K) (T := "int") (by simp) (mkD k)
          have tT := kit_kd (K := K) (T := "tuple") (by simp) (mkD k)
          have tyx := h3x.tyx
          cases k with
          | none =>
            cases h3x
            have l4n : ("none" : Str).length = 4 := by decide +kernel
            refine ⟨_, rfl, rfl, _, rfl, ite2 (fun _ => ?_) fun c => (c rfl).elim⟩
            refine ⟨_, rfl, .non, .ty "int", _, _, _, rfl, .ty _, tyx, tI, false, rfl, _, rfl, ?_⟩
            refine ⟨_, rfl, .inl ⟨rfl, _, .inl (.inl hp5)⟩, _, rfl, _, rfl, .non, .ty "tuple", _, _, _, rfl, .ty _, tyx, tT, false, rfl, _, rfl, _, _, rfl, rfl, L (by rw [l4n]; omega), ?_⟩
            have e : mkT .none = "none" := Rm.join_one _ _
            rw [e] at eT
            rw [eT]
            exact ⟨p, _, _, rfl, rfl, hp5, lpj, next (.refl _)⟩
          | num n =>
            cases h3x
            have lgm := log_lt (n6 h3 (by decide))
            have lsn : (sI n).length ≤ 31 := (mk_words h3 (sI n) (by simp [mkW])).wk.l31
            have l4 : ("set " : Str).length = 4 := by decide +kernel
            have bn : ∀ j, V.int n = V.int j → j.natAbs.log2 < 1920 := fun j e => by
              cases e
              omega
            refine ⟨_, rfl, rfl, _, rfl, ite2 (fun c => by cases of_decide_eq_true c) fun _ => ?_⟩
            refine ⟨_, rfl, .int n, .ty "int", _, _, _, rfl, .ty _, tyx, tI, true, rfl, _, rfl, .int n, sI n, rfl, rfl, bn, _, _, rfl, rfl, L (by omega), ?_⟩
            refine ⟨_, rfl, .inl ⟨rfl, _, .inl (.inl hp5)⟩, _, rfl, _, rfl, .int n, .ty "tuple", _, _, _, rfl, .ty _, tyx, tT, false, rfl, _, rfl, _, _, rfl, rfl, L (by simp only [len_app]; simp only [len_app] at lT; omega), ?_⟩
            have e : mkT (.num n) = ("set " : Str) ++ sI n := by
              show Txt.join " " [("set" : Str), sI n] = _
              rw [← set_n, st_em]
            rw [e] at eT
            rw [eT]
            exact ⟨p, _, _, rfl, rfl, hp5, lpj, next (.refl _)⟩
          | mem m =>
            have h3x' := h3x
            have lmt : (mbT m).length ≤ 96 := lk
            obtain ⟨b3, rfl⟩ : ∃ b3, x3 = .ref b3 := by
              cases h3x
              exact ⟨_, rfl⟩
            refine ⟨_, rfl, rfl, _, rfl, ite2 (fun c => by cases of_decide_eq_true c) fun _ => ?_⟩
            refine ⟨_, rfl, .ref b3, .ty "int", _, _, _, rfl, .ty _, tyx, tI, false, rfl, _, rfl, ?_⟩
            refine ⟨_, rfl, .inl ⟨rfl, _, .inl (.inl hp5)⟩, _, rfl, _, rfl, .ref b3, .ty "tuple", _, _, _, rfl, .ty _, tyx, tT, true, rfl, _, rfl, .ref b3, m, rfl, h3x', h3, fun H6 s6 => ⟨_, _, rfl, rfl, L (by omega), ?_⟩⟩
            have e : mkT (.mem m) = mbT m := rfl
            rw [e] at eT
            rw [eT]
            exact ⟨p, _, _, rfl, rfl, s6 _ _ hp5, lpj, next s6⟩
      · rintro σ H5 ⟨⟨d4, d5, d6, d7, d8, rfl⟩, k5, s5, hp5⟩
        rw [ll2] at hp5
        refine ⟨⟨_, _, _, _, _, _, _, rfl⟩, s5, ?_⟩
        rw [hp5, take_snoc hws, mgL_snoc, List.length_take, show min i g.length = i by omega]
        have e : ((1 + i : Nat) : Int) = 0 + ((i : Nat) : Int) + 1 := by omega
        rw [e]
        simp only [LS]
        rw [List.take_length]
    · rintro σ H' ⟨⟨c2, c3, c4, c5, c6, c7, c8, rfl⟩, s2, hp2⟩
      rw [ll, List.take_length] at hp2
      refine ⟨rfl, _, rfl, _, p, mgL 1 g, rfl, rfl, .inl (.inl (.inl hp2)), ?_, q _ s2⟩
      have l := sum_le (n := 4100) (ps := mgL 1 g) fun z hz => (hk.lines z hz).lz
      have e1 : ("\n" : Str).length = 1 := by decide +kernel
      have := hk.len
      rw [e1]
      omega
end
end K92

set_option maxRecDepth 100000
set_option maxHeartbeats 800000
namespace K92
open PySem PySem.Spec L2 Rm
open PyProof.Rows hiding St
section
variable {P : Program} {w : World} {K : PySem.W.Frag} {mg : Str → Option Value} {base : Heap}
def spBS (K : PySem.W.Frag) (g : PyData → Bool) : Sp := fun vs H Q _ => ∃ x d, vs = [x] ∧ Dx K H x d ∧ Sm d ∧ ∀ H', Same H H' → Q (.bl (g d)) H'
theorem sc__law_is_name : FnScope ["_law_value", "_law_sign"] ["_law_value"] (defScope s__law_is_name) :=
  ⟨rfl, rfl, rfl, by decide +kernel, rfl, by decide +kernel, by decide +kernel⟩
theorem ok_lname {f : Addr} {fd : FuncData} (F : Fun K "_law_is_name" "_law_is_name" s__law_is_name f fd) (B : Bl mg) :
    FnG P w K mg base CX0 1 f fd ["_law_value"] (spBS K nmD) := by
  refine fn_q F sc__law_is_name (fun vs H Q E h => ?_) (fun cdv A outer s H vs Q E hr hG h => ?_)
  · obtain ⟨x, d, rfl, _⟩ := h
    rfl
  · obtain ⟨x, d, rfl, hx, sm, q⟩ := h
    have hu := hu_of hr
    refine ⟨_, (pss_cons (ps_if (PW.pt (pw_or (pt_not (pt_val (pe_callB call_isi (by rfl) B.n_isinstance (by decide +kernel) (pa_cons (pv 0) (pa_cons (pe_bltn (v := .ty "str") (u := .type "str") (by rfl) B.n_str (by decide +kernel) rfl) pa_nil))))) (pw_or1 (pt_not (pt_chain op_le op_le pe_int (pe_callB call_len_str (by rfl) B.n_len (by decide +kernel) (pa_cons (pv 0) pa_nil)) pe_int))))) (pss_one (ps_ret pe_bl)) pss_nil)
      (pss_one (ps_ret (pe_cmpR (op_eqE (Nat.lt_of_succ_lt hu)) (pe_lc (own := [("_law_sign", 1)]) (by rfl) sc__law_is_name.nd (pi_str (pv 0)) (blkOk_by (own := [("_law_sign", 1)]) (N := ["_law_value", "_law_sign"]) (sc := defScope s__law_is_name) (by decide +kernel))
        (fun _ _ _ _ _ => (pg_name (i := 1) sc__law_is_name.nd rfl (Or.inl rfl))) (fun _ _ _ _ _ => (pts_one (pt_not (pt_chain op_le_str op_le_str pe_str (pv 1) pe_str)))) (fun _ _ _ _ _ => (pv 1))) (pe_lst pa_nil) (nomark _))))), ?_⟩
    refine ⟨x, rfl, x, .ty "str", _, _, _, rfl, .ty _, hx.tyx, kit_str d, ?_⟩
    cases d with
    | str z =>
      cases hx
      have zl : z.length ≤ sizeLine := Nat.le_trans (sm_strlen sm) (by decide)
      have q : ∀ H', Same H H' → Q (.bl (lnZ z)) H' := q
      refine ⟨true, rfl, _, rfl, _, rfl, zl, _, _, rfl, rfl, ?_⟩
      have no : ¬ (1 ≤ z.length ∧ z.length ≤ 6) → Q (.bl false) H := fun h => by
        have q2 := q H (.refl _)
        have e : lnZ z = false := by
          unfold lnZ
          by_cases a : 1 ≤ z.length
          · rw [decide_eq_false (show ¬ z.length ≤ 6 by omega), Bool.false_and, Bool.and_false]
          · rw [decide_eq_false a, Bool.false_and]
        rw [e] at q2
        exact q2
      refine ⟨_, rfl, ite2 (fun c1 => ?_) fun c1 => ?_⟩
      · have h1 := of_decide_eq_true c1
        refine ⟨_, _, rfl, rfl, _, rfl, ite2 (fun c2 => ?_) fun c2 => ?_⟩
        · exact no fun h => by
            simp at c2
            omega
        have h2 : z.length ≤ 6 := by
          simp at c2
          omega
        have q : ∀ H', Same H H' → Q (.bl (z.cps.toList.all fun c => decide (97 ≤ c) && decide (c ≤ 122))) H' := fun H' s => by
          have q2 := q H' s
          unfold lnZ at q2
          rw [decide_eq_true (show 1 ≤ z.length by omega), decide_eq_true h2, Bool.true_and, Bool.true_and] at q2
          exact q2
        have zlen : z.cps.toList.length = z.length := rfl
        refine ⟨_, rfl, z, rfl, fun D nD => lc_it walk_str (fun m H' => Same H H' ∧ ∃ acc : List V, H' D = some (.lst acc) ∧ acc.length ≤ m ∧ acc.isEmpty = (z.cps.toList.take m).all fun c => decide (97 ≤ c) && decide (c ≤ 122)) ⟨same_new nD, [], upd_same, Nat.le_refl _, rfl⟩ (fun _ _ _ _ => trivial) ?_ ?_⟩
        · rintro m x Hx Hy hm ⟨s1, acc, hD, la, ea⟩ ⟨eH, c, hc, rfl⟩
          subst eH
          have hm6 : m < 6 := by
            have : z.cps.size = z.length := rfl
            omega
          have hc' : z.cps.toList[m]? = some c := by rw [Array.getElem?_toList]; exact hc
          have ez : ("a" : Str).cps.toList = [97] := by decide +kernel
          have ey : ("z" : Str).cps.toList = [122] := by decide +kernel
          have lt1 : ∀ a b : Nat, ([a] < [b]) ↔ a < b := fun a b => by rw [List.cons_lt_cons_iff]; simp
          have nxt : (z.cps.toList.take (m + 1)).all (fun c => decide (97 ≤ c) && decide (c ≤ 122)) = (acc.isEmpty && (decide (97 ≤ c) && decide (c ≤ 122))) := by
            rw [List.take_succ, hc', List.all_append, ← ea]
            simp
          have done : (97 ≤ c ∧ c ≤ 122) → Same H Hy ∧ ∃ acc : List V, Hy D = some (.lst acc) ∧ acc.length ≤ m + 1 ∧ acc.isEmpty = (z.cps.toList.take (m + 1)).all fun c => decide (97 ≤ c) && decide (c ≤ 122) := fun h =>
            ⟨s1, acc, hD, Nat.le_succ_of_le la, by rw [nxt, decide_eq_true h.1, decide_eq_true h.2]; simp⟩
          have put : ¬ (97 ≤ c ∧ c ≤ 122) → ∃ acc, Hy D = some (.lst acc) ∧ acc.length < sizeLine ∧ Same H (upd Hy D (.lst (acc ++ [V.str ⟨#[c]⟩]))) ∧ ∃ acc' : List V, upd Hy D (.lst (acc ++ [V.str ⟨#[c]⟩])) D = some (.lst acc') ∧ acc'.length ≤ m + 1 ∧ acc'.isEmpty = (z.cps.toList.take (m + 1)).all fun c => decide (97 ≤ c) && decide (c ≤ 122) := fun h =>
            ⟨acc, hD, Nat.lt_of_le_of_lt (show acc.length ≤ 6 by omega) (by decide), same_tape nD s1, _, upd_same, by rw [List.length_append, List.length_singleton]; omega, by
              rw [nxt]
              have e1 : (acc ++ [V.str ⟨#[c]⟩]).isEmpty = false := by simp
              have e2 : (decide (97 ≤ c) && decide (c ≤ 122)) = false := by
                rw [Bool.eq_false_iff]
                intro q
                simp at q
                exact h q
              rw [e1, e2, Bool.and_false]⟩
          refine ⟨rfl, _, rfl, _, _, rfl, rfl, ?_⟩
          rw [ez, show (⟨#[c]⟩ : Str).cps.toList = [c] from rfl]
          refine ⟨_, rfl, ite2 (fun c3 => ?_) fun c3 => ?_⟩
          · have h3 : 97 ≤ c := by
              simp only [lt1] at c3
              simp at c3
              omega
            refine ⟨_, _, rfl, rfl, ?_⟩
            rw [ey, show (⟨#[c]⟩ : Str).cps.toList = [c] from rfl]
            refine ⟨_, rfl, ite2 (fun c4 => ?_) fun c4 => ?_⟩
            · refine ⟨_, rfl, put fun h => ?_⟩
              simp only [lt1] at c4
              simp at c4
              omega
            · refine done ⟨h3, ?_⟩
              simp only [lt1] at c4
              simp at c4
              omega
          · refine ⟨_, rfl, _, rfl, put fun h => ?_⟩
            simp only [lt1] at c3
            simp at c3
            omega
        · rintro Hx ⟨s1, acc, hD, la, ea⟩
          refine ⟨(show 0 ≤ sizeLine by decide), fun e1 n1 => ⟨D, acc, e1, rfl, .inl (.inl (same_new n1 _ _ hD)), rfl, .inl (.inl upd_same), ?_⟩⟩
          rw [ea, List.take_of_length_le (show z.cps.toList.length ≤ z.cps.size by simp)]
          exact q _ (s1.trans (same_new n1))
      · have q2 := no fun h => c1 (decide_eq_true (by omega))
        exact ⟨_, rfl, q2⟩
    | _ => exact ⟨false, rfl, q _ (.refl _)⟩

def spLNum : Sp := fun vs H Q _ => ∃ u lo hi, vs = [.str u, .int lo, .int hi] ∧ 0 ≤ lo ∧ u.length ≤ 90000 ∧ ∀ H', Same H H' → Q (oN (numB lo hi u)) H'
theorem sc__law_number : FnScope ["_law_word", "_law_low", "_law_high", "_law_sign"] ["_law_word", "_law_low", "_law_high"] (defScope s__law_number) :=
  ⟨rfl, rfl, rfl, by decide +kernel, rfl, by decide +kernel, by decide +kernel⟩
theorem ok_lnum {f : Addr} {fd : FuncData} (F : Fun K "_law_number" "_law_number" s__law_number f fd) (B : Bl mg) :
    FnG P w K mg base CX0 1 f fd ["_law_word", "_law_low", "_law_high"] spLNum := by
  refine fn_q F sc__law_number (fun vs H Q E h => ?_) (fun cdv A outer s H vs Q E hr hG h => ?_)
  · obtain ⟨u, lo, hi, rfl, _⟩ := h
    rfl
  · obtain ⟨u, lo, hi, rfl, lo0, ul, q⟩ := h
    have hu := hu_of hr
    refine ⟨_, (pss_cons (ps_if (PW.pt (pw_or (pt_cmpR op_eq (pv 0) pe_str (nomark _)) (pw_or (pt_cmpR (op_neE (Nat.lt_of_succ_lt hu)) (pe_lc (own := [("_law_sign", 3)]) (by rfl) sc__law_number.nd (pi_str (pv 0)) (blkOk_by (own := [("_law_sign", 3)]) (N := ["_law_word", "_law_low", "_law_high", "_law_sign"]) (sc := defScope s__law_number) (by decide +kernel))
        (fun _ _ _ _ _ => (pg_name (i := 3) sc__law_number.nd rfl (Or.inl rfl))) (fun _ _ _ _ _ => (pts_one (pt_not (pt_chain op_le_str op_le_str pe_str (pv 3) pe_str)))) (fun _ _ _ _ _ => (pv 3))) (pe_lst pa_nil) (nomark _)) (pw_or1 (pt_cmpR op_gt (pe_callB call_len_str (by rfl) B.n_len (by decide +kernel) (pa_cons (pv 0) pa_nil)) pe_int (nomark _)))))) (pss_one (ps_ret pe_non)) pss_nil)
      (pss_cons (ps_if (PW.pt (pw_and (pt_cmpR op_eq (pe_ix ix_str (pv 0) pe_int (fun _ _ => rfl)) pe_str (nomark _)) (pw_and1 (pt_cmpR op_ne (pv 0) pe_str (nomark _))))) (pss_one (ps_ret pe_non)) pss_nil)
      (pss_one (ps_ret (pe_ifExp (pt_chain op_le op_le (pv 1) (pe_callTy call_int_str (by rfl) B.n_int (by decide +kernel) (pa_cons (pv 0) pa_nil)) (pv 2)) (pe_callTy call_int_str (by rfl) B.n_int (by decide +kernel) (pa_cons (pv 0) pa_nil)) pe_non))))), ?_⟩
    have zl : u.length ≤ sizeLine := Nat.le_trans ul (by decide)
    have zlen : u.cps.toList.length = u.length := rfl
    have np : ¬ Plain u → ∀ H', Same H H' → Q .non H' := fun h H' s => by
      have z := q H' s
      rw [numB_np lo0 h] at z
      exact z
    refine ⟨_, rfl, rfl, _, rfl, ite2 (fun c => ?_) fun c => ?_⟩
    · refine np (fun h => h.n ?_) H (.refl _)
      have e : u = "" := V.str.inj (of_decide_eq_true c)
      rw [e]
      decide +kernel
    have ne : u.cps.toList ≠ [] := fun e => c (decide_eq_true (by rw [str_ext (show u.cps.toList = ("" : Str).cps.toList by rw [e]; decide +kernel)]))
    refine ⟨_, rfl, u, rfl, fun D nD => lc_it walk_str (fun m H' => Same H H' ∧ ∃ acc : List V, H' D = some (.lst acc) ∧ acc.length ≤ m ∧ acc.isEmpty = (u.cps.toList.take m).all fun c => decide (48 ≤ c) && decide (c ≤ 57)) ⟨same_new nD, [], upd_same, Nat.le_refl _, rfl⟩ (fun _ _ _ _ => trivial) ?_ ?_⟩
    · rintro m x Hx Hy hm ⟨s1, acc, hD, la, ea⟩ ⟨eH, c, hc, rfl⟩
      subst eH
      have hm6 : m < u.length := hm
      have hc' : u.cps.toList[m]? = some c := by rw [Array.getElem?_toList]; exact hc
      have ez : ("0" : Str).cps.toList = [48] := by decide +kernel
      have ey : ("9" : Str).cps.toList = [57] := by decide +kernel
      have nxt : (u.cps.toList.take (m + 1)).all (fun c => decide (48 ≤ c) && decide (c ≤ 57)) = (acc.isEmpty && (decide (48 ≤ c) && decide (c ≤ 57))) := by
        rw [List.take_succ, hc', List.all_append, ← ea]
        simp
      have done : (48 ≤ c ∧ c ≤ 57) → Same H Hy ∧ ∃ acc : List V, Hy D = some (.lst acc) ∧ acc.length ≤ m + 1 ∧ acc.isEmpty = (u.cps.toList.take (m + 1)).all fun c => decide (48 ≤ c) && decide (c ≤ 57) := fun h =>
        ⟨s1, acc, hD, Nat.le_succ_of_le la, by rw [nxt, decide_eq_true h.1, decide_eq_true h.2]; simp⟩
      have put : ¬ (48 ≤ c ∧ c ≤ 57) → ∃ acc, Hy D = some (.lst acc) ∧ acc.length < sizeLine ∧ Same H (upd Hy D (.lst (acc ++ [V.str ⟨#[c]⟩]))) ∧ ∃ acc' : List V, upd Hy D (.lst (acc ++ [V.str ⟨#[c]⟩])) D = some (.lst acc') ∧ acc'.length ≤ m + 1 ∧ acc'.isEmpty = (u.cps.toList.take (m + 1)).all fun c => decide (48 ≤ c) && decide (c ≤ 57) := fun h =>
        ⟨acc, hD, Nat.lt_of_le_of_lt (show acc.length ≤ 90000 by omega) (by decide), same_put nD s1, _, upd_same, by rw [List.length_append, List.length_singleton]; omega, by
          rw [nxt]
          have e1 : (acc ++ [V.str ⟨#[c]⟩]).isEmpty = false := by simp
          have e2 : (decide (48 ≤ c) && decide (c ≤ 57)) = false := by
            rw [Bool.eq_false_iff]
            intro q
            simp at q
            exact h q
          rw [e1, e2, Bool.and_false]⟩
      refine ⟨rfl, _, rfl, _, _, rfl, rfl, ?_⟩
      rw [ez, show (⟨#[c]⟩ : Str).cps.toList = [c] from rfl]
      refine ⟨_, rfl, ite2 (fun c3 => ?_) fun c3 => ?_⟩
      · have h3 : 48 ≤ c := by
          simp only [signs_lt] at c3
          simp at c3
          omega
        refine ⟨_, _, rfl, rfl, ?_⟩
        rw [ey, show (⟨#[c]⟩ : Str).cps.toList = [c] from rfl]
        refine ⟨_, rfl, ite2 (fun c4 => ?_) fun c4 => ?_⟩
        · refine ⟨_, rfl, put fun h => ?_⟩
          simp only [signs_lt] at c4
          simp at c4
          omega
        · refine done ⟨h3, ?_⟩
          simp only [signs_lt] at c4
          simp at c4
          omega
      · refine ⟨_, rfl, _, rfl, put fun h => ?_⟩
        simp only [signs_lt] at c3
        simp at c3
        omega
    rintro Hx ⟨s1, acc, hD, la, ea⟩
    rw [List.take_of_length_le (show u.cps.toList.length ≤ u.cps.size by simp)] at ea
    refine ⟨(show 0 ≤ sizeLine by decide), fun e1 n1 => ⟨D, acc, e1, rfl, .inl (.inl (same_new n1 _ _ hD)), rfl, .inl (.inl upd_same), _, rfl, ?_⟩⟩
    have s2 := s1.trans (same_new (o := .lst []) n1)
    generalize upd Hx e1 (.lst []) = H2 at s2 ⊢
    refine ite2 (fun c => ?_) fun c => ?_
    · refine np (fun h => ?_) _ s2
      have : acc.isEmpty = true := by
        rw [ea, List.all_eq_true]
        intro d hd
        have := h.d d hd
        simp
        exact this
      rw [this] at c
      cases c
    have hd : NumText.AllDigits u.cps.toList := fun d hd => by
      have e : acc.isEmpty = true := by
        cases z : acc.isEmpty with
        | true => rfl
        | false => rw [z] at c; exact absurd rfl c
      rw [ea, List.all_eq_true] at e
      have := e d hd
      simpa using this
    refine ⟨_, rfl, u, rfl, zl, _, _, rfl, rfl, _, rfl, ite2 (fun c => ?_) fun c => ?_⟩
    · refine np (fun h => ?_) _ s2
      have := of_decide_eq_true c
      have := h.l
      omega
    have pl : Plain u := ⟨hd, ne, by
      have c : ¬ ((30 : Int) < (u.length : Int)) := fun h => c (decide_eq_true h)
      omega⟩
    clear ea hD la n1 s1
    obtain ⟨d0, dr, ed⟩ : ∃ d0 dr, u.cps.toList = d0 :: dr := by
      match h : u.cps.toList with
      | [] => exact absurd h ne
      | d0 :: dr => exact ⟨d0, dr, rfl⟩
    have a0 : atI u.cps.toList 0 = some d0 := by
      have := atI_nat (xs := u.cps.toList) (j := 0) (v := d0) (by rw [ed]; rfl)
      exact this
    have h0 : u.cps.toList.head? = some d0 := by rw [ed]; rfl
    unfold tNext
    dsimp only
    refine Rm.seq_mid (fun σ' H' => σ' = [some (.str u), some (.int lo), some (.int hi), none] ∧ H' = H2 ∧ ¬ (u.cps.toList.head? = some 48 ∧ u ≠ "0")) ?_ (fun N hN => ?_)
    rotate_left
    · refine ⟨_, rfl, u, 0, d0, rfl, rfl, zl, a0, rfl, _, rfl, ite2 (fun c1 => ?_) fun c1 => ?_⟩
      · have e48 : d0 = 48 := by
          have e : (⟨#[d0]⟩ : Str) = "0" := V.str.inj (of_decide_eq_true c1)
          have e2 := congrArg (fun z : Str => z.cps.toList) e
          have e3 : [d0] = [48] := by
            rw [← z48]
            exact e2
          simpa using e3
        refine ⟨_, rfl, rfl, _, rfl, ite2 (fun c2 => ?_) fun c2 => ?_⟩
        · have n0 : u ≠ "0" := fun e => by
            rw [e] at c2
            simp at c2
          have z := q H2 s2
          rw [pl.numB0 ⟨by rw [h0, e48], n0⟩] at z
          exact z
        · refine hN _ _ ⟨rfl, rfl, fun h => c2 ?_⟩
          have : decide (V.str u = V.str "0") = false := decide_eq_false fun e => h.2 (V.str.inj e)
          rw [this]
          rfl
      · refine hN _ _ ⟨rfl, rfl, fun h => c1 ?_⟩
        have e : d0 = 48 := by
          rw [h0] at h
          exact Option.some.inj h.1
        rw [e]
        exact decide_eq_true (congrArg V.str (str_ext (by rw [z48])))
    · rintro _ _ ⟨rfl, rfl, nl⟩
      have z := q _ s2
      rw [pl.numB nl] at z
      have l640 : u.length ≤ 640 := by have := pl.l; omega
      refine ⟨_, rfl, _, rfl, u, _, rfl, pl.val, l640, _, _, rfl, rfl, _, rfl, ite2 (fun c1 => ?_) fun c1 => ?_⟩
      · have h1 := of_decide_eq_true c1
        refine ⟨_, rfl, _, _, rfl, rfl, _, rfl, ite2 (fun c2 => ?_) fun c2 => ?_⟩
        · have h2 := of_decide_eq_true c2
          rw [if_pos ⟨h1, h2⟩] at z
          exact ⟨_, rfl, u, _, rfl, pl.val, l640, z⟩
        · rw [if_neg (fun h => c2 (decide_eq_true h.2))] at z
          exact z
      · rw [if_neg (fun h => c1 (decide_eq_true h.1))] at z
        exact ⟨_, rfl, z⟩
end
end K92

set_option maxRecDepth 100000
set_option maxHeartbeats 800000
namespace K92
open PySem PySem.Spec L2 Rm
open PyProof.Rows hiding St
section
variable {P : Program} {w : World} {K : PySem.W.Frag} {mg : Str → Option Value} {base : Heap}
theorem in_strs {z : Str} {l : List Str} : inV (V.str z) (l.map V.str) = decide (z ∈ l) := by
  rw [Bool.eq_iff_iff]
  simp [inV, eqV]
theorem mbZ_law (a b c : Str) : mbZ [a, b, c] = if (b = "locks" ∧ c ∈ (["hold", "keep", "change", "replace"] : List Str)) ∨ (b = "changes" ∧ c ∈ (["change", "replace"] : List Str)) then (numB 1 1000000 a).map fun p => ⟨p, b, c⟩ else none := by
  show (numZ a).bind (fun p => if okM ⟨p, b, c⟩ = true then some (⟨p, b, c⟩ : MB) else none) = _
  have ok : ∀ p : Int, okM ⟨p, b, c⟩ = (decide (1 ≤ p ∧ p ≤ 1000000) && decide ((b = "locks" ∧ c ∈ (["hold", "keep", "change", "replace"] : List Str)) ∨ (b = "changes" ∧ c ∈ (["change", "replace"] : List Str)))) := fun p => by
    rw [Bool.eq_iff_iff, Bool.and_eq_true, decide_eq_true_iff, decide_eq_true_iff]
    constructor
    · intro h
      have h' : (isW 1 1000000 (.int p) && ((isT "locks" (.str b) && (rkD (.str c)).isSome) || (isT "changes" (.str b) && isCh (.str c)))) = true := h
      obtain ⟨x, y, _, z⟩ := okM_is h
      refine ⟨⟨x, y⟩, ?_⟩
      rw [Bool.and_eq_true, Bool.or_eq_true, Bool.and_eq_true, Bool.and_eq_true] at h'
      rcases h'.2 with h | h
      · refine .inl ⟨isT_str h.1, ?_⟩
        simpa using z
      · refine .inr ⟨isT_str h.1, ?_⟩
        have h2 := h.2
        unfold isCh at h2
        rw [Bool.or_eq_true] at h2
        rcases h2 with e | e
        · rw [isT_str e]; simp
        · rw [isT_str e]; simp
    · rintro ⟨⟨x, y⟩, h⟩
      show (isW 1 1000000 (.int p) && ((isT "locks" (.str b) && (rkD (.str c)).isSome) || (isT "changes" (.str b) && isCh (.str c)))) = true
      have i : isW 1 1000000 (.int p) = true := by
        show (decide ((1 : Int) ≤ p) && decide (p ≤ (1000000 : Int))) = true
        rw [decide_eq_true x, decide_eq_true y]
        rfl
      have a : ∀ y ∈ (["hold", "keep", "change", "replace"] : List Str), ((isT "locks" (.str "locks") && (rkD (.str y)).isSome) || (isT "changes" (.str "locks") && isCh (.str y))) = true := by decide +kernel
      have b : ∀ y ∈ (["change", "replace"] : List Str), ((isT "locks" (.str "changes") && (rkD (.str y)).isSome) || (isT "changes" (.str "changes") && isCh (.str y))) = true := by decide +kernel
      rw [i]
      rcases h with ⟨rfl, h⟩ | ⟨rfl, h⟩
      · rw [a c h]; rfl
      · rw [b c h]; rfl
  simp only [ok]
  unfold numB
  cases numZ a with
  | none =>
    show none = _
    split <;> rfl
  | some p =>
    show (if (decide (1 ≤ p ∧ p ≤ 1000000) && decide _) = true then some (⟨p, b, c⟩ : MB) else none) = _
    by_cases h : (b = "locks" ∧ c ∈ (["hold", "keep", "change", "replace"] : List Str)) ∨ (b = "changes" ∧ c ∈ (["change", "replace"] : List Str))
    · rw [if_pos h, decide_eq_true h, Bool.and_true]
      by_cases k : 1 ≤ p ∧ p ≤ 1000000
      · rw [decide_eq_true k]
        simp only [if_pos k]
        rfl
      · rw [decide_eq_false k]
        simp only [if_neg k]
        rfl
    · rw [if_neg h, decide_eq_false h, Bool.and_false]
      rfl
theorem mbZ_3 {ws : List Str} (h : ws.length ≠ 3) : mbZ ws = none := by
  match ws, h with
  | [], _ => rfl
  | [_], _ => rfl
  | [_, _], _ => rfl
  | [_, _, _], h => exact absurd rfl h
  | _ :: _ :: _ :: _ :: _, _ => rfl
def spLMem (K : PySem.W.Frag) : Sp := fun vs H Q _ => ∃ z, vs = [.str z] ∧ z.length ≤ 90000 ∧ ∀ x H', Same H H' → (∀ m, mbZ (Txt.split z " ") = some m → Dx K H' x (mbD m)) → (mbZ (Txt.split z " ") = none → x = .non) → Q x H'
theorem sc__law_member_of : FnScope ["_law_text", "_law_words", "_law_part"] ["_law_text"] (defScope s__law_member_of) :=
  ⟨rfl, rfl, rfl, by decide +kernel, rfl, by decide +kernel, by decide +kernel⟩
theorem ok_lmem {f : Addr} {fd : FuncData} (F : Fun K "_law_member_of" "_law_member_of" s__law_member_of f fd) (B : Bl mg)
    (D__law_number : Ce P w K mg base CX0 1 "_law_number" ["_law_word", "_law_low", "_law_high"] spLNum) :
    FnG P w K mg base CX0 2 f fd ["_law_text"] (spLMem K) := by
  refine fn_q F sc__law_member_of (fun vs H Q E h => ?_) (fun cdv A outer s H vs Q E hr hG h => ?_)
  · obtain ⟨z, rfl, _⟩ := h
    rfl
  · obtain ⟨z, rfl, zl, q⟩ := h
    have hu := hu_of hr
    refine ⟨_, (pss_cons (ps_set (i := 1) sc__law_member_of.nd rfl (Or.inl rfl) (pe_bm PySem.F.plainAttrs_str PySem.F.slot_str_split PySem.F.type_str_split mt_split (pv 0) (pa_cons pe_str pa_nil)))
      (pss_cons (ps_if (PW.pt (pw_or (pt_cmpR op_ne (pe_callB call_len_seq (by rfl) B.n_len (by decide +kernel) (pa_cons (pv 1) pa_nil)) pe_int (nomark _)) (pw_or1 (pt_cmpR op_notIn_seq (pe_ix ix_list (pv 1) pe_int (fun _ _ => rfl)) (pe_tup (pa_cons pe_str (pa_cons pe_str pa_nil))) (by rfl))))) (pss_one (ps_ret pe_non)) pss_nil)
      (pss_cons (ps_set (i := 2) sc__law_member_of.nd rfl (Or.inl rfl) (pe_ce D__law_number (hr.mono (by decide)) hG (pa_cons (pe_ix ix_list (pv 1) pe_int (fun _ _ => rfl)) (pa_cons pe_int (pa_cons (pe_op op_powX pe_int pe_int) pa_nil))) pass0))
      (pss_cons (ps_if (pt_cmpR op_notIn_seq (pe_ix ix_list (pv 1) pe_int (fun _ _ => rfl)) (pe_slice sl_list (pe_lst (pa_cons pe_str (pa_cons pe_str (pa_cons pe_str (pa_cons pe_str pa_nil))))) (po_some (pe_op op_mulX pe_int (pe_callTy call_int1 (by rfl) B.n_int (by decide +kernel) (pa_cons (pe_cmpR op_eq (pe_ix ix_list (pv 1) pe_int (fun _ _ => rfl)) pe_str (nomark _)) pa_nil)))) po_none) (by rfl)) (pss_one (ps_ret pe_non)) pss_nil)
      (pss_one (ps_ret (pe_ifExp (pt_cmpR op_isN (pv 2) pe_non (nomark _)) pe_non (pe_tup (pa_cons (pv 2) (pa_cons (pe_ix ix_list (pv 1) pe_int (fun _ _ => rfl)) (pa_cons (pe_ix ix_list (pv 1) pe_int (fun _ _ => rfl)) pa_nil))))))))))), ?_⟩
    have lz : ∀ {n : Nat}, n ≤ 64 → n ≤ sizeLine := fun h => Nat.le_trans h (by decide)
    have z2 : z.length + 2 ≤ sizeLine := Nat.le_trans (show _ ≤ 90002 by omega) (by decide)
    have wd : ∀ u ∈ Txt.split z " ", u.length ≤ 90000 := fun u hu => Nat.le_trans (split_len sep_sp hu) zl
    refine ⟨_, rfl, rfl, z, " ", rfl, rfl, by decide +kernel, z2, fun p np => ?_⟩
    generalize Txt.split z " " = ws at q wd ⊢
    have s1 := same_new (o := .lst (ws.map V.str)) np
    have hp := upd_same (H := H) (a := p) (o := .lst (ws.map V.str))
    generalize upd H p (.lst (ws.map V.str)) = H1 at s1 hp ⊢
    have no : mbZ ws = none → ∀ H', Same H H' → Q .non H' := fun h H' s => q .non H' s (fun m hm => by rw [h] at hm; cases hm) fun _ => rfl
    refine ⟨_, rfl, p, _, rfl, .inl (.inl (.inl hp)), rfl, _, rfl, ite2 (fun c => ?_) fun c => ?_⟩
    · refine no (mbZ_3 fun e => ?_) H1 s1
      rw [List.length_map, e] at c
      exact absurd c (by decide)
    obtain ⟨w0, w1, w2, rfl⟩ : ∃ a b c, ws = [a, b, c] := by
      have l3 : ws.length = 3 := by
        have this : V.int (((ws.map V.str).length : Nat) : Int) = V.int 3 := Classical.byContradiction fun h => c (by rw [decide_eq_false h]; rfl)
        have := V.int.inj this
        rw [List.length_map] at this
        exact_mod_cast this
      match ws, l3 with
      | [a, b, c], _ => exact ⟨a, b, c, rfl⟩
    have hp : H1 p = some (.lst [.str w0, .str w1, .str w2]) := hp
    have hL : ∀ {H2 : Hp}, Same H1 H2 → SqL K H2 p [.str w0, .str w1, .str w2] := fun s => .inl (.inl (s _ _ hp))
    have q2 := q
    clear q
    rw [mbZ_law] at no
    refine ⟨_, rfl, p, _, 1, .str w1, rfl, rfl, .inl (.inl hp), atI_nat (j := 1) rfl, lz (n := 2) (by decide), fun p2 n2 => ?_⟩
    have s2 := s1.trans (same_new (o := .tup [V.str "locks", .str "changes"]) n2)
    have s12 := same_new (o := .tup [V.str "locks", .str "changes"]) n2
    have i2 : inV (V.str w1) [V.str "locks", .str "changes"] = decide (w1 ∈ (["locks", "changes"] : List Str)) := in_strs (l := ["locks", "changes"])
    refine ⟨p2, _, rfl, .inr (.inl (.inl upd_same)), rfl, rfl, _, rfl, ?_⟩
    rw [if_pos rfl, i2]
    generalize upd H1 p2 (.tup [V.str "locks", .str "changes"]) = H2 at s2 s12 ⊢
    refine ite2 (fun c => ?_) fun c => ?_
    · refine no (if_neg fun h => ?_) H2 s2
      have e : decide (w1 ∈ (["locks", "changes"] : List Str)) = true := decide_eq_true (by rcases h with h | h <;> simp [h.1])
      rw [e] at c
      cases c
    have hw1 : w1 = "locks" ∨ w1 = "changes" := by
      have e : decide (w1 ∈ (["locks", "changes"] : List Str)) = true := by
        cases q : decide (w1 ∈ (["locks", "changes"] : List Str)) with
        | true => rfl
        | false => rw [q] at c; exact absurd rfl c
      simpa using of_decide_eq_true e
    refine ⟨_, rfl, p, _, 0, .str w0, rfl, rfl, hL s12, atI_nat (j := 0) rfl, _, _, rfl, rfl, pow32 (by decide) (by decide) (by decide) (by decide), w0, 1, 1000000, rfl, by decide, wd w0 (by simp), fun H3 s3 => ?_⟩
    have s13 := s12.trans s3
    refine ⟨_, rfl, p, _, 2, .str w2, rfl, rfl, hL s13, atI_nat (j := 2) rfl, lz (n := 4) (by decide), fun p3 n3 => ?_⟩
    have s4 := same_new (o := .lst [V.str "hold", .str "keep", .str "change", .str "replace"]) n3
    have h3 := upd_same (H := H3) (a := p3) (o := .lst [V.str "hold", .str "keep", .str "change", .str "replace"])
    generalize upd H3 p3 (.lst [V.str "hold", .str "keep", .str "change", .str "replace"]) = H4 at s4 h3 ⊢
    have s14 := s13.trans s4
    refine ⟨_, rfl, p, _, 1, .str w1, rfl, rfl, hL s14, atI_nat (j := 1) rfl, rfl, .inr ⟨_, rfl, _, _, rfl, rfl, mulx_ok (a := 32) (b := 32) (by decide) (by split <;> decide) (by decide), _, rfl, p3, _, rfl, .inl (.inl h3), fun p4 n4 => ?_⟩⟩
    have s15 : ∀ xs, Same H (upd H4 p4 (.lst xs)) := fun xs => (s1.trans s14).trans (same_new n4)
    have s16 : ∀ xs, Same H1 (upd H4 p4 (.lst xs)) := fun xs => s14.trans (same_new n4)
    have fin : ∀ H5, Same H H5 → ((w1 = "locks" ∧ w2 ∈ (["hold", "keep", "change", "replace"] : List Str)) ∨ (w1 = "changes" ∧ w2 ∈ (["change", "replace"] : List Str))) → (numB 1 1000000 w0 = none → Q .non H5) ∧ ∀ v, numB 1 1000000 w0 = some v → ∀ t, H5 t = none → Q (.ref t) (upd H5 t (.tup [.int v, .str w1, .str w2])) := fun H5 s5 h => by
      have em : mbZ [w0, w1, w2] = (numB 1 1000000 w0).map fun p => ⟨p, w1, w2⟩ := by rw [mbZ_law, if_pos h]
      refine ⟨fun e => ?_, fun v e t nt => ?_⟩
      · rw [e] at em
        exact q2 .non H5 s5 (fun m hm => by rw [em] at hm; cases hm) fun _ => rfl
      · rw [e] at em
        refine q2 _ _ (s5.trans (same_new nt)) (fun m hm => ?_) fun hm => by rw [em] at hm; cases hm
        rw [em] at hm
        cases hm
        exact dx_mb upd_same
    rcases hw1 with rfl | rfl
    · have e : decide (V.str "locks" = V.str "changes") = false := by decide +kernel
      rw [e]
      have ec : cutV [V.str "hold", .str "keep", .str "change", .str "replace"] (some (2 * if false = true then 1 else 0)) none = [V.str "hold", .str "keep", .str "change", .str "replace"] := cut_from (n := 0) (by simp)
      rw [ec]
      have i4 : inV (V.str w2) [V.str "hold", .str "keep", .str "change", .str "replace"] = decide (w2 ∈ (["hold", "keep", "change", "replace"] : List Str)) := in_strs (l := ["hold", "keep", "change", "replace"])
      have sH := s15 [V.str "hold", .str "keep", .str "change", .str "replace"]
      have s1H := s16 [V.str "hold", .str "keep", .str "change", .str "replace"]
      refine ⟨p4, _, rfl, .inl (.inl (.inl upd_same)), rfl, rfl, _, rfl, ?_⟩
      rw [if_pos rfl, i4]
      generalize upd H4 p4 (.lst [V.str "hold", .str "keep", .str "change", .str "replace"]) = H5 at sH s1H ⊢
      refine ite2 (fun c => ?_) fun c => ?_
      · refine no (if_neg fun h => ?_) H5 sH
        rcases h with h | h
        · rw [decide_eq_true h.2] at c
          cases c
        · exact absurd h.1 (by decide +kernel)
      have hin : w2 ∈ (["hold", "keep", "change", "replace"] : List Str) := by
        cases q : decide (w2 ∈ (["hold", "keep", "change", "replace"] : List Str)) with
        | true => exact of_decide_eq_true q
        | false => rw [q] at c; exact absurd rfl c
      obtain ⟨f1, f2⟩ := fin H5 sH (.inl ⟨rfl, hin⟩)
      dsimp only [tNext]
      cases en : numB 1 1000000 w0 with
      | none =>
        exact ⟨_, rfl, rfl, _, rfl, ite2 (fun _ => f1 en) fun c => (c rfl).elim⟩
      | some v =>
        refine ⟨_, rfl, rfl, _, rfl, ite2 (fun c => by cases of_decide_eq_true c) fun _ => ?_⟩
        exact ⟨_, rfl, _, rfl, p, _, 1, .str _, rfl, rfl, hL s1H, atI_nat (j := 1) rfl, _, rfl, p, _, 2, .str w2, rfl, rfl, hL s1H, atI_nat (j := 2) rfl, lz (n := 3) (by decide), fun t nt => f2 v en t nt⟩
    · have e : decide (V.str "changes" = V.str "changes") = true := by decide +kernel
      rw [e]
      have ec : cutV [V.str "hold", .str "keep", .str "change", .str "replace"] (some (2 * if true = true then 1 else 0)) none = [V.str "change", .str "replace"] := cut_from (n := 2) (by simp)
      rw [ec]
      have i4 : inV (V.str w2) [V.str "change", .str "replace"] = decide (w2 ∈ (["change", "replace"] : List Str)) := in_strs (l := ["change", "replace"])
      have sH := s15 [V.str "change", .str "replace"]
      have s1H := s16 [V.str "change", .str "replace"]
      refine ⟨p4, _, rfl, .inl (.inl (.inl upd_same)), rfl, rfl, _, rfl, ?_⟩
      rw [if_pos rfl, i4]
      generalize upd H4 p4 (.lst [V.str "change", .str "replace"]) = H5 at sH s1H ⊢
      refine ite2 (fun c => ?_) fun c => ?_
      · refine no (if_neg fun h => ?_) H5 sH
        rcases h with h | h
        · exact absurd h.1 (by decide +kernel)
        · rw [decide_eq_true h.2] at c
          cases c
      have hin : w2 ∈ (["change", "replace"] : List Str) := by
        cases q : decide (w2 ∈ (["change", "replace"] : List Str)) with
        | true => exact of_decide_eq_true q
        | false => rw [q] at c; exact absurd rfl c
      obtain ⟨f1, f2⟩ := fin H5 sH (.inr ⟨rfl, hin⟩)
      dsimp only [tNext]
      cases en : numB 1 1000000 w0 with
      | none =>
        exact ⟨_, rfl, rfl, _, rfl, ite2 (fun _ => f1 en) fun c => (c rfl).elim⟩
      | some v =>
        refine ⟨_, rfl, rfl, _, rfl, ite2 (fun c => by cases of_decide_eq_true c) fun _ => ?_⟩
        exact ⟨_, rfl, _, rfl, p, _, 1, .str _, rfl, rfl, hL s1H, atI_nat (j := 1) rfl, _, rfl, p, _, 2, .str w2, rfl, rfl, hL s1H, atI_nat (j := 2) rfl, lz (n := 3) (by decide), fun t nt => f2 v en t nt⟩
end
end K92

set_option maxRecDepth 100000
set_option maxHeartbeats 800000
namespace K92
open PySem PySem.Spec L2 Rm
open PyProof.Rows hiding St
section
variable {P : Program} {w : World} {K : PySem.W.Frag} {mg : Str → Option Value} {base : Heap}
theorem sum_tot : ∀ ps : List Str, (ps.map (·.length)).sum + ps.length = tot ps
  | [] => rfl
  | p :: r => by
    have := sum_tot r
    rw [tot_cons, List.map_cons, List.sum_cons, List.length_cons]
    omega
theorem join_tot (ps : List Str) : (Txt.join " " ps).length ≤ tot ps := by
  have a := join_sum (y := " ") ps
  have l1 : (" " : Str).length = 1 := by decide +kernel
  rw [l1, Nat.mul_one] at a
  have b := sum_tot ps
  omega
theorem cut_glue {z a : Str} {n : Nat} (h : cutS z none (some (n : Int)) = a) : z = a ++ cutS z (some (n : Int)) none := by
  apply tl_inj
  rw [TL.tl_append, ← h]
  have e1 : HT.sIx z.length z.length (some (n : Int)) = min n z.length := HT.sIx_nat ..
  have e2 : HT.sIx z.length 0 (some (n : Int)) = min n z.length := HT.sIx_nat ..
  have e3 : HT.sIx z.length z.length none = z.length := rfl
  have e4 : HT.sIx z.length 0 none = 0 := rfl
  unfold cutS
  rw [e1, e2, e3, e4, TL.tl_mk, TL.tl_mk, List.drop_zero, Nat.sub_zero, List.take_of_length_le (l := List.drop _ _) (by rw [List.length_drop]; exact Nat.le_refl _)]
  exact (List.take_append_drop _ _).symm
def spLWr (K : PySem.W.Frag) : Sp := fun vs H Q _ => ∃ z, vs = [.str z] ∧ z.length ≤ 90000 ∧ asA z = true ∧ ∀ x H', Same H H' → (∀ w, wrZ z = some w → Dx K H' x (wrD w)) → (wrZ z = none → x = .non) → Q x H'
theorem sc__law_write_of : FnScope ["_law_line", "_law_parts", "_law_number_here", "_law_some", "_law_words", "_law_version", "_law_rest", "_law_mark", "_law_one"] ["_law_line"] (defScope s__law_write_of) :=
  ⟨rfl, rfl, rfl, by decide +kernel, rfl, by decide +kernel, by decide +kernel⟩
theorem ok_lwr {f : Addr} {fd : FuncData} (F : Fun K "_law_write_of" "_law_write_of" s__law_write_of f fd) (B : Bl mg)
    (D__law_number : Ce P w K mg base CX0 1 "_law_number" ["_law_word", "_law_low", "_law_high"] spLNum) (D__law_is_name : Ce P w K mg base CX0 1 "_law_is_name" ["_law_value"] (spBS K nmD))
    (D__law_member_of : Ce P w K mg base CX0 2 "_law_member_of" ["_law_text"] (spLMem K)) :
    FnG P w K mg base CX0 3 f fd ["_law_line"] (spLWr K) := by
  refine fn_q F sc__law_write_of (fun vs H Q E h => ?_) (fun cdv A outer s H vs Q E hr hG h => ?_)
  · obtain ⟨z, rfl, _⟩ := h
    rfl
  · obtain ⟨z, rfl, zl, za, q⟩ := h
    have hu := hu_of hr
    refine ⟨_, (pss_cons (ps_if (pt_cmpR op_eq (pe_slice sl_str (pv 0) po_none (po_some pe_int)) pe_str (nomark _)) (pss_cons (ps_set (i := 1) sc__law_write_of.nd rfl (Or.inl rfl) (pe_bm PySem.F.plainAttrs_str PySem.F.slot_str_split PySem.F.type_str_split mt_split (pe_slice sl_str (pv 0) (po_some pe_int) po_none) (pa_cons pe_str pa_nil)))
      (pss_cons (ps_par (i := 2) (j := 3) (by rfl) sc__law_write_of.nd rfl rfl (by decide) rfl rfl (pa_cons (pe_ce D__law_number (hr.mono (by decide)) hG (pa_cons (pe_ix ix_list (pv 1) pe_int (fun _ _ => rfl)) (pa_cons pe_int (pa_cons (pe_op op_powX pe_int pe_int) pa_nil))) pass0) (pa_cons (pe_lc (own := [("_law_one", 8)]) (by rfl) sc__law_write_of.nd (pi_list (pe_slice sl_list (pv 1) (po_some pe_int) po_none)) (blkOk_by (own := [("_law_one", 8)]) (N := ["_law_line", "_law_parts", "_law_number_here", "_law_some", "_law_words", "_law_version", "_law_rest", "_law_mark", "_law_one"]) (sc := defScope s__law_write_of) (by decide +kernel))
        (fun _ _ _ _ _ => (pg_name (i := 8) sc__law_write_of.nd rfl (Or.inl rfl))) (fun _ _ _ _ _ => pts_nil) (fun _ _ _ _ _ => (pe_ce D__law_member_of (hr.mono (by decide)) hG (pa_cons (pv 8) pa_nil) pass0))) pa_nil)) (by rfl))
      (pss_cons (ps_if (PW.pt (pw_or (pt_cmpR op_isN (pv 2) pe_non (nomark _)) (pw_or (pt_cmpR (op_inDt hr.units) pe_non (pv 3) (by rfl)) (pw_or (pt_cmpR op_gt (pe_callB call_len_seq (by rfl) B.n_len (by decide +kernel) (pa_cons (pv 3) pa_nil)) pe_int (nomark _)) (pw_or1 (pt_cmpR op_lt (pe_card (hr.mono (by decide)) rfl (by rfl) B.n_len (by rfl) B.n_set (pv 3)) (pe_callB call_len_seq (by rfl) B.n_len (by decide +kernel) (pa_cons (pv 3) pa_nil)) (nomark _))))))) (pss_one (ps_ret pe_non)) pss_nil)
      (pss_one (ps_ret (pe_tup (pa_cons pe_str (pa_cons (pv 2) (pa_cons (pe_callTy call_tuple_of (by rfl) B.n_tuple (by decide +kernel) (pa_cons (pv 3) pa_nil)) pa_nil))))))))) pss_nil)
      (pss_cons (ps_set (i := 4) sc__law_write_of.nd rfl (Or.inl rfl) (pe_bm PySem.F.plainAttrs_str PySem.F.slot_str_split PySem.F.type_str_split mt_split (pv 0) (pa_cons pe_str pa_nil)))
      (pss_cons (ps_if (PW.pt (pw_or (pt_cmpR op_lt (pe_callB call_len_seq (by rfl) B.n_len (by decide +kernel) (pa_cons (pv 4) pa_nil)) pe_int (nomark _)) (pw_or (pt_cmpR op_ne (pe_ix ix_list (pv 4) pe_int (fun _ _ => rfl)) pe_str (nomark _)) (pw_or1 (pt_not (pt_val (pe_ce D__law_is_name (hr.mono (by decide)) hG (pa_cons (pe_ix ix_list (pv 4) pe_int (fun _ _ => rfl)) pa_nil) pass0))))))) (pss_one (ps_ret pe_non)) pss_nil)
      (pss_cons (ps_par (i := 5) (j := 6) (by rfl) sc__law_write_of.nd rfl rfl (by decide) rfl rfl (pa_cons (pe_ce D__law_number (hr.mono (by decide)) hG (pa_cons (pe_ix ix_list (pv 4) pe_int (fun _ _ => rfl)) (pa_cons pe_int (pa_cons (pe_op op_powX pe_int pe_int) pa_nil))) pass0) (pa_cons (pe_slice sl_list (pv 4) (po_some pe_int) po_none) pa_nil)) (by rfl))
      (pss_cons (ps_if (pt_cmpR op_isN (pv 5) pe_non (nomark _)) (pss_one (ps_ret pe_non)) pss_nil)
      (pss_cons (ps_if (pt_cmpR (op_eqD hr.units) (pv 6) (pe_lst (pa_cons pe_str pa_nil)) (nomark _)) (pss_one (ps_ret (pe_tup (pa_cons pe_str (pa_cons (pe_ix ix_list (pv 4) pe_int (fun _ _ => rfl)) (pa_cons (pv 5) (pa_cons pe_non pa_nil))))))) pss_nil)
      (pss_cons (ps_if (PW.pt (pw_and (pt_cmpR op_eq (pe_callB call_len_seq (by rfl) B.n_len (by decide +kernel) (pa_cons (pv 6) pa_nil)) pe_int (nomark _)) (pw_and1 (pt_cmpR op_eq (pe_ix ix_list (pv 6) pe_int (fun _ _ => rfl)) pe_str (nomark _))))) (pss_one (ps_set (i := 7) sc__law_write_of.nd rfl (Or.inl rfl) (pe_ce D__law_number (hr.mono (by decide)) hG (pa_cons (pe_ix ix_list (pv 6) pe_int (fun _ _ => rfl)) (pa_cons pe_int (pa_cons (pe_op op_powX pe_int pe_int) pa_nil))) pass0))) (pss_one (ps_set (i := 7) sc__law_write_of.nd rfl (Or.inl rfl) (pe_ce D__law_member_of (hr.mono (by decide)) hG (pa_cons (pe_bm PySem.F.plainAttrs_str PySem.F.slot_str_join PySem.F.type_str_join mt_join pe_str (pa_cons (pv 6) pa_nil)) pa_nil) pass0))))
      (pss_one (ps_ret (pe_ifExp (pt_cmpR op_isN (pv 7) pe_non (nomark _)) pe_non (pe_tup (pa_cons pe_str (pa_cons (pe_ix ix_list (pv 4) pe_int (fun _ _ => rfl)) (pa_cons (pv 5) (pa_cons (pv 7) pa_nil))))))))))))))), ?_⟩
    have z2 : z.length + 2 ≤ sizeLine := Nat.le_trans (show _ ≤ 90002 by omega) (by decide)
    have zs : z.length ≤ sizeLine := Nat.le_trans (show _ ≤ 90002 by omega) (by decide)
    let Sg (c1 c2 c3 c4 c5 c6 c7 : Option V) : L2.St := [some (.str z), c1, c2, c3, c4, c5, c6, c7, none]
    refine Rm.seq_mid (fun σ' H' => σ' = Sg none none none none none none none ∧ H = H' ∧ ¬ cutS z none (some 4) = "set ") ?_ (fun N hN => ?_)
    rotate_left
    · refine ⟨_, rfl, 4, rfl, z, rfl, zs, rfl, _, rfl, ite2 (fun c => ?_) fun c => hN _ _ ⟨rfl, rfl, fun h => c (decide_eq_true (by rw [h]))⟩⟩
      have c4 : cutS z none (some 4) = "set " := V.str.inj (of_decide_eq_true c)
      have zy : z = ("set " : Str) ++ cutS z (some 4) none := cut_glue c4
      have yl : (cutS z (some 4) none).length ≤ 90000 := Nat.le_trans (cutS_length z (some (4 : Int)) none) zl
      have y2 : (cutS z (some 4) none).length + 2 ≤ sizeLine := Nat.le_trans (show _ ≤ 90002 by omega) (by decide)
      refine ⟨_, rfl, 4, rfl, z, rfl, zs, rfl, cutS z (some 4) none, ", ", rfl, rfl, by decide +kernel, y2, fun p np => ?_⟩
      generalize cutS z (some 4) none = y at zy yl y2 ⊢
      obtain ⟨hd, ms, e1⟩ := List.exists_cons_of_ne_nil (co_ne y)
      have ln1 := co_len y
      rw [e1, List.length_cons] at ln1
      have pc : ∀ m ∈ hd :: ms, m.length ≤ 90000 := fun m hm => by
        rw [← e1] at hm
        have := (co_piece hm).1
        omega
      have ez := wrZ_set e1
      rw [← zy] at ez
      rw [e1]
      have s1 := same_new (o := .lst ((hd :: ms).map V.str)) np
      have hp := upd_same (H := H) (a := p) (o := .lst ((hd :: ms).map V.str))
      generalize upd H p (.lst ((hd :: ms).map V.str)) = H1 at s1 hp ⊢
      refine ⟨_, rfl, p, _, 0, .str hd, rfl, rfl, .inl (.inl hp), atI_nat (j := 0) rfl, _, _, rfl, rfl, pow32 (by decide) (by decide) (by decide) (by decide), hd, 1, 1000000, rfl, by decide, pc hd (.head _), fun H2 s2 => ?_⟩
      have hp2 := s2 _ _ hp
      refine ⟨_, rfl, 1, rfl, p, _, rfl, .inl (.inl hp2), fun p3 np3 => ?_⟩
      have ec : cutV ((hd :: ms).map V.str) (some 1) none = ms.map V.str := cut_from (n := 1) (by simp)
      rw [ec]
      have s3 := (s1.trans s2).trans (same_new (o := .lst (ms.map V.str)) np3)
      have hp3 := upd_same (H := H2) (a := p3) (o := .lst (ms.map V.str))
      generalize upd H2 p3 (.lst (ms.map V.str)) = H3 at s3 hp3 ⊢
      let os := ms.map fun m => mbZ (Txt.split m " ")
      refine ⟨p3, rfl, ⟨_, .inl (.inl hp3)⟩, fun A nA => lc_list (xs := ms.map V.str) (fun i H' => Same H3 H' ∧ ∃ xs, H' A = some (.lst xs) ∧ xs.length ≤ i ∧ DxAll K H' xs ((os.take i).map obD)) ⟨same_new nA, [], upd_same, Nat.le_refl _, .nil⟩ (fun i H' _ e => .inl (.inl (e.1 _ _ hp3))) ?_ ?_⟩
      · rintro i x H5 hx ⟨s5, xs, hA, hl, hd5⟩
        obtain ⟨m, hm, rfl⟩ := str_get hx
        have mm : m ∈ hd :: ms := .tail _ (List.mem_of_getElem? hm)
        have im : i < ms.length := (List.getElem?_eq_some_iff.mp hm).1
        have hom : os[i]? = some (mbZ (Txt.split m " ")) := by
          rw [List.getElem?_map, hm]
          rfl
        refine ⟨rfl, _, rfl, m, rfl, pc m mm, fun x H7 s7 h1 h2 => ?_⟩
        have hA7 := s7 _ _ hA
        refine ⟨xs, hA7, Nat.lt_of_le_of_lt (show xs.length ≤ 90001 by omega) (by decide), same_put nA (s5.trans s7), xs ++ [x], upd_same, by rw [List.length_append]; exact Nat.succ_le_succ hl, ?_⟩
        have dx : Dx K H7 x (obD (mbZ (Txt.split m " "))) := by
          cases e : mbZ (Txt.split m " ") with
          | none => rw [h2 e]; exact .non
          | some mb => exact h1 mb e
        rw [take_snoc hom, List.map_append]
        refine dxa_keepT (TupK.put hA7 (fun _ e => by cases e) fun _ _ e => by cases e) ?_ (dxa_snoc (hd5.upR (.of s7)) dx)
        have := tO_ob ((os.take i) ++ [mbZ (Txt.split m " ")])
        rwa [List.map_append] at this
      · rintro H5 ⟨s5, xs, hA, hl, hx⟩
        have lo : os.length = ms.length := List.length_map ..
        rw [List.length_map, ← lo, List.take_length] at hx
        have lx := dxa_len hx
        rw [List.length_map] at lx
        have sH := s3.trans s5
        have ok : ∀ m, some m ∈ os → okM m = true := fun mb hmb => by
          obtain ⟨m, _, e⟩ := List.mem_map.mp hmb
          exact mbZ_ok e
        have ez : wrZ z = (numB 1 1000000 hd).bind fun n => (allS os).bind fun l => if decide (l.length ≤ 40) && decide l.Nodup then some (.set n l) else none := ez
        have no : wrZ z = none → ∀ H', Same H H' → Q .non H' := fun h H' s => q .non H' s (fun w hw => by rw [h] at hw; cases hw) fun _ => rfl
        clear_value os
        refine ⟨_, _, rfl, ?_⟩
        cases en : numB 1 1000000 hd with
        | none =>
          rw [en] at ez
          exact ⟨_, rfl, rfl, _, rfl, ite2 (fun _ => no ez H5 sH) fun c => (c rfl).elim⟩
        | some n =>
          rw [en] at ez
          have ez : wrZ z = (allS os).bind fun l => if decide (l.length ≤ 40) && decide l.Nodup then some (.set n l) else none := ez
          refine ⟨_, rfl, rfl, _, rfl, ite2 (fun c => by cases of_decide_eq_true c) fun _ => ?_⟩
          refine ⟨_, rfl, .none, A, xs, os.map obD, .non, rfl, .inl (.inl (.inl hA)), dpAll_of (lay_ob ok) hx, rfl, lay_ob ok, by decide, _, rfl, ?_⟩
          rw [if_neg (by simp), any_ob]
          refine ite2 (fun c => ?_) fun c => ?_
          · have e : allS os = none := Option.isNone_iff_eq_none.mp c
            rw [e] at ez
            exact no ez H5 sH
          obtain ⟨l, e⟩ : ∃ l, allS os = some l := by
            cases e : allS os with
            | none => rw [e] at c; exact absurd rfl c
            | some l => exact ⟨l, rfl⟩
          rw [e] at ez
          have ez3 : wrZ z = if decide (l.length ≤ 40) && decide l.Nodup then some (.set n l) else none := ez
          have eo := allS_is e
          subst eo
          rw [List.map_map] at hx
          have hx : DxAll K H5 xs (l.map mbD) := hx
          rw [List.length_map] at lx
          rw [List.length_map] at lo
          refine ⟨_, rfl, A, xs, rfl, .inl (.inl (.inl hA)), _, _, rfl, rfl, _, rfl, ite2 (fun c => ?_) fun c => ?_⟩
          · have c := of_decide_eq_true c
            rw [decide_eq_false (show ¬ l.length ≤ 40 by omega), Bool.false_and] at ez3
            exact ite2 (fun _ => no ez3 H5 sH) fun z => absurd rfl z
          have c : ¬ (40 : Int) < (xs.length : Int) := fun h => c (decide_eq_true h)
          have l40 : l.length ≤ 40 := by omega
          rw [decide_eq_true l40, Bool.true_and] at ez3
          refine ⟨_, rfl, A, xs, l.map mbD, rfl, .inl (.inl hA), hx, fun d hd => ?_, by omega, fun k nle niff => ⟨_, rfl, A, xs, rfl, .inl (.inl (.inl hA)), _, _, rfl, rfl, _, rfl, ite2 (fun c => ?_) fun c => ?_⟩⟩
          · obtain ⟨m, _, rfl⟩ := List.mem_map.mp hd
            exact ft_mb m
          · have c := of_decide_eq_true c
            rw [List.length_map, nd_mb] at niff
            have nn : ¬ l.Nodup := fun h => by
              have := niff.mpr h
              omega
            rw [decide_eq_false nn] at ez3
            exact no ez3 H5 sH
          · have c : ¬ ((k : Nat) : Int) < (xs.length : Int) := fun h => c (decide_eq_true h)
            rw [List.length_map, nd_mb] at niff
            rw [List.length_map] at nle
            have nn : l.Nodup := niff.mp (by omega)
            rw [decide_eq_true nn] at ez3
            have ez3 : wrZ z = some (.set n l) := ez3
            refine ⟨_, rfl, _, rfl, A, xs, rfl, .inl ⟨.inl (.inl hA), fun t nt => ⟨(show 3 ≤ sizeLine by decide), fun u nu => ?_⟩⟩⟩
            have t1 := same_new (o := .tup xs) nt
            have t2 := same_new (o := .tup [V.str "set", oN (some n), .ref t]) nu
            have ht : Dx K (upd (upd H5 t (.tup xs)) u (.tup [V.str "set", oN (some n), .ref t])) (.ref t) (.tuple (l.map mbD)) := .tup (.inl (.inl (t2 _ _ upd_same))) (hx.upR (.of (t1.trans t2)))
            refine q _ _ (sH.trans (t1.trans t2)) (fun w hw => ?_) fun hw => by rw [ez3] at hw; cases hw
            rw [ez3] at hw
            cases hw
            exact .tup (.inl (.inl upd_same)) (.cons (.str _) (.cons (.int _) (.cons ht .nil)))
    · rintro _ _ ⟨rfl, rfl, ns⟩
      have ez := wrZ_mark ns
      refine ⟨_, rfl, rfl, z, " ", rfl, rfl, by decide +kernel, z2, fun p np => ?_⟩
      have wd : ∀ u ∈ Txt.split z " ", u.length ≤ 90000 ∧ asA u = true := fun u hu => ⟨Nat.le_trans (split_len sep_sp hu) zl, asA_sub za fun c hc => split_sub hu hc⟩
      have rst : ∀ r : List Str, (∀ p ∈ r, p ∈ Txt.split z " ") → r ≠ [] → Txt.split (Txt.join " " r) " " = r := fun r h ne => split_rest h ne
      have tt : tot (Txt.split z " ") ≤ 90001 := by
        have := tot_split (z := z) sep_sp
        omega
      generalize Txt.split z " " = ws at ez wd rst tt ⊢
      have s1 := same_new (o := .lst (ws.map V.str)) np
      have hp := upd_same (H := H) (a := p) (o := .lst (ws.map V.str))
      generalize upd H p (.lst (ws.map V.str)) = H1 at s1 hp ⊢
      have no : markL ws = none → ∀ H', Same H H' → Q .non H' := fun h H' s => q .non H' s (fun w hw => by rw [ez, h] at hw; cases hw) fun _ => rfl
      dsimp only [gName]
      refine ⟨_, rfl, p, _, rfl, .inl (.inl (.inl hp)), _, _, rfl, rfl, _, rfl, ite2 (fun c => ?_) fun c => ?_⟩
      · have c := of_decide_eq_true c
        rw [List.length_map] at c
        refine no ?_ H1 s1
        match ws with
        | [] => rfl
        | [_] => rfl
        | [_, _] => rfl
        | [_, _, _] =>
          show (if _ ∧ ([] : List Str) ≠ [] then _ else _) = _
          exact if_neg fun h => h.2 rfl
        | _ :: _ :: _ :: _ :: _ => simp at c; omega
      obtain ⟨w0, nm, v, r0, r, rfl⟩ : ∃ a b c d e, ws = a :: b :: c :: d :: e := by
        have l4 : 4 ≤ ws.length := by
          have c : ¬ (((ws.map V.str).length : Nat) : Int) < 4 := fun h => c (decide_eq_true h)
          rw [List.length_map] at c
          omega
        match ws, l4 with
        | a :: b :: c :: d :: e, _ => exact ⟨a, b, c, d, e, rfl⟩
      have eM : markL (w0 :: nm :: v :: r0 :: r) = if w0 = "mark" ∧ (r0 :: r) ≠ [] then markZ nm (numZ v) (r0 :: r) else none := rfl
      have hL : ∀ {H2 : Hp}, Same H1 H2 → SqL K H2 p ((w0 :: nm :: v :: r0 :: r).map V.str) := fun s => .inl (.inl (s _ _ hp))
      refine ⟨_, rfl, p, _, 0, .str w0, rfl, rfl, hL (.refl _), atI_nat (j := 0) rfl, rfl, _, rfl, ite2 (fun c => ?_) fun c => ?_⟩
      · have nm0 : ¬ w0 = "mark" := fun h => by
          rw [h] at c
          simp at c
        exact ite2 (fun _ => no (by rw [eM, if_neg fun h => nm0 h.1]) H1 s1) fun z => absurd rfl z
      have w0m : w0 = "mark" := Classical.byContradiction fun h => c (by
        have : ¬ V.str w0 = V.str "mark" := fun e => h (V.str.inj e)
        simp [this])
      rw [if_pos ⟨w0m, by simp⟩] at eM
      have nmw := wd nm (by simp)
      refine ⟨_, rfl, p, _, 1, .str nm, rfl, rfl, hL (.refl _), atI_nat (j := 1) rfl, _, _, rfl, .str nm, sm_text nmw.2 (by omega), fun H2 s2 => ⟨_, rfl, ite2 (fun c => ?_) fun c => ?_⟩⟩
      · refine no ?_ H2 (s1.trans s2)
        have c : (!lnZ nm) = true := c
        rw [Bool.not_eq_true'] at c
        rw [eM]
        unfold markZ
        exact if_neg (by rw [c]; simp)
      have hnm : lnZ nm = true := by
        have c : ¬ (!lnZ nm) = true := c
        cases e : lnZ nm with
        | true => rfl
        | false => exact absurd (by rw [e]; rfl) c
      have eM2 : markL (w0 :: nm :: v :: r0 :: r) = (numB 0 1000000 v).bind fun v => (mkZ (r0 :: r)).map fun k => .mark nm v k := by
        rw [eM]
        unfold markZ
        rw [if_pos hnm, rng_num]
      refine ⟨_, rfl, p, _, 2, .str v, rfl, rfl, hL s2, atI_nat (j := 2) rfl, _, _, rfl, rfl, pow32 (by decide) (by decide) (by decide) (by decide), v, 0, 1000000, rfl, by decide, (wd v (by simp)).1, fun H3 s3 => ?_⟩
      refine ⟨_, rfl, 3, rfl, p, _, rfl, hL (s2.trans s3), fun p3 np3 => ?_⟩
      have ec : cutV ((w0 :: nm :: v :: r0 :: r).map V.str) (some 3) none = (r0 :: r).map V.str := cut_from (n := 3) (by simp)
      rw [ec]
      have s4 := (s2.trans s3).trans (same_new (o := .lst ((r0 :: r).map V.str)) np3)
      have hp3 := upd_same (H := H3) (a := p3) (o := .lst ((r0 :: r).map V.str))
      generalize upd H3 p3 (.lst ((r0 :: r).map V.str)) = H4 at s4 hp3 ⊢
      have sH4 := s1.trans s4
      refine ⟨_, _, rfl, ?_⟩
      cases ev : numB 0 1000000 v with
      | none =>
        rw [ev] at eM2
        exact ⟨_, rfl, rfl, _, rfl, ite2 (fun _ => no eM2 H4 sH4) fun c => (c rfl).elim⟩
      | some i =>
        rw [ev] at eM2
        have eM3 : markL (w0 :: nm :: v :: r0 :: r) = (mkZ (r0 :: r)).map fun k => .mark nm i k := eM2
        refine ⟨_, rfl, rfl, _, rfl, ite2 (fun c => by cases of_decide_eq_true c) fun _ => ?_⟩
        have asr : ∀ u ∈ r0 :: r, asA u = true := fun u hu => (wd u (.tail _ (.tail _ (.tail _ hu)))).2
        have fin : ∀ (k : MK) (x : V) (H5 : Hp), mkZ (r0 :: r) = some k → Same H1 H5 → Dx K H5 x (mkD k) → ∀ t, H5 t = none → Q (.ref t) (upd H5 t (.tup [V.str "mark", .str nm, .int i, x])) := fun k x H5 ek s5 hx t nt => by
          rw [ek] at eM3
          refine q _ _ ((s1.trans s5).trans (same_new nt)) (fun w hw => ?_) fun hw => by rw [ez, eM3] at hw; cases hw
          rw [ez, eM3] at hw
          cases hw
          exact .tup (.inl (.inl upd_same)) (.cons (.str _) (.cons (.str _) (.cons (.int _) (.cons (hx.upR (.of (same_new nt))) .nil))))
        refine ⟨_, rfl, (show 1 ≤ sizeLine by decide), fun p4 np4 => ?_⟩
        have s5 := s4.trans (same_new (o := .lst [V.str "none"]) np4)
        have hp35 := (same_new (o := .lst [V.str "none"]) np4) _ _ hp3
        have hp4 := upd_same (H := H4) (a := p4) (o := .lst [V.str "none"])
        generalize upd H4 p4 (.lst [V.str "none"]) = H5 at s5 hp35 hp4 ⊢
        obtain ⟨c1, c2⟩ := sh_strs asr
        obtain ⟨c3, c4⟩ := sh_strs (ws := [("none" : Str)]) (by decide +kernel)
        have eqE : PyData.eqv (.list ((r0 :: r).map .str)) (.list ([("none" : Str)].map .str)) = decide ((r0 :: r) = [("none" : Str)]) := by
          simp only [PyData.eqv]
          exact eqvAll_strs _ _
        refine ⟨.list ((r0 :: r).map .str), .list ([("none" : Str)].map .str), .lst (.inl (.inl hp35)) (dp_strs (r0 :: r)), .lst (.inl (.inl hp4)) (dp_strs [("none" : Str)]), c2, c4, _, rfl, ?_⟩
        rw [eqE]
        refine ite2 (fun c => ?_) fun c => ?_
        · have c := of_decide_eq_true c
          have ek : mkZ (r0 :: r) = some .none := by
            rw [c]
            exact if_pos rfl
          exact ⟨_, rfl, p, _, 1, .str nm, rfl, rfl, hL s5, atI_nat (j := 1) rfl, _, rfl, (show 4 ≤ sizeLine by decide), fun t nt => fin .none .non H5 ek s5 .non t nt⟩
        have nn : ¬ (r0 :: r) = [("none" : Str)] := fun h => c (decide_eq_true h)
        have l1 : (" " : Str).length = 1 := by decide +kernel
        have tr : tot (r0 :: r) ≤ 90000 := by
          rw [tot_cons, tot_cons, tot_cons] at tt
          omega
        have rst' := rst (r0 :: r) (fun p hp => .tail _ (.tail _ (.tail _ hp))) (by simp)
        have em0 : mkZ (r0 :: r) = if (r0 :: r)[0]? = some ("set" : Str) ∧ (r0 :: r).length = 2 then (rng 1 1000000 (numZ ((r0 :: r).getD 1 ""))).map .num else (mbZ (r0 :: r)).map .mem := if_neg nn
        dsimp only [tNext]
        refine Rm.seq_mid (fun σ' H' => ∃ mv, σ' = Sg none none none (some (.ref p)) (some (.int i)) (some (.ref p3)) (some mv) ∧ Same H1 H' ∧ (∀ k, mkZ (r0 :: r) = some k → Dx K H' mv (mkD k) ∧ mv ≠ .non) ∧ (mkZ (r0 :: r) = none → mv = .non)) ?_ (fun N hN => ?_)
        rotate_left
        · refine ⟨_, rfl, p3, _, rfl, .inl (.inl (.inl hp35)), rfl, _, rfl, ite2 (fun c => ?_) fun c => ?_⟩
          · have l2 : (r0 :: r).length = 2 := by
              have := V.int.inj (of_decide_eq_true c)
              rw [List.length_map] at this
              exact_mod_cast this
            refine ⟨_, rfl, p3, _, 0, .str r0, rfl, rfl, .inl (.inl hp35), atI_nat (j := 0) rfl, rfl, _, rfl, ite2 (fun c2 => ?_) fun c2 => ?_⟩
            · have r0s : r0 = "set" := V.str.inj (of_decide_eq_true c2)
              obtain ⟨r1, rfl⟩ : ∃ r1, r = [r1] := by
                match r, l2 with
                | [x], _ => exact ⟨x, rfl⟩
              have em : mkZ [r0, r1] = (numB 1 1000000 r1).map .num := by
                rw [em0, if_pos ⟨by rw [r0s]; rfl, rfl⟩, rng_num]
                rfl
              refine ⟨_, rfl, p3, _, 1, .str r1, rfl, rfl, .inl (.inl hp35), atI_nat (j := 1) rfl, _, _, rfl, rfl, pow32 (by decide) (by decide) (by decide) (by decide), r1, 1, 1000000, rfl, by decide, (wd r1 (by simp)).1, fun H6 s6 => hN _ _ ⟨_, rfl, s5.trans s6, fun k hk => ?_, fun hk => ?_⟩⟩
              · rw [em] at hk
                cases e : numB 1 1000000 r1 with
                | none => rw [e] at hk; cases hk
                | some n =>
                  rw [e] at hk
                  cases hk
                  exact ⟨.int n, fun h => by cases h⟩
              · rw [em] at hk
                cases e : numB 1 1000000 r1 with
                | none => rfl
                | some n => rw [e] at hk; cases hk
            have em : mkZ (r0 :: r) = (mbZ (r0 :: r)).map .mem := by
              rw [em0, if_neg]
              rintro ⟨h, _⟩
              have h : r0 = "set" := by simpa using h
              exact c2 (decide_eq_true (by rw [h]))
            refine ⟨rfl, _, rfl, _, p3, r0 :: r, rfl, rfl, .inl (.inl (.inl hp35)), by rw [l1, Nat.mul_one, sum_tot]; omega, Txt.join " " (r0 :: r), rfl, by have := join_tot (r0 :: r); omega, fun x H6 s6 h1 h2 => hN _ _ ⟨x, rfl, s5.trans s6, fun k hk => ?_, fun hk => ?_⟩⟩
            · rw [em] at hk
              rw [rst'] at h1
              cases e : mbZ (r0 :: r) with
              | none => rw [e] at hk; cases hk
              | some m =>
                rw [e] at hk
                cases hk
                have hx := h1 m e
                refine ⟨hx, fun h => ?_⟩
                rw [h] at hx
                cases hx
            · rw [em] at hk
              rw [rst'] at h2
              cases e : mbZ (r0 :: r) with
              | none => exact h2 e
              | some m => rw [e] at hk; cases hk
          have em : mkZ (r0 :: r) = (mbZ (r0 :: r)).map .mem := by
            rw [em0, if_neg]
            rintro ⟨_, h⟩
            exact c (decide_eq_true (by rw [List.length_map, h]; rfl))
          refine ite2 (fun z => absurd z (by simp)) fun _ => ?_
          refine ⟨rfl, _, rfl, _, p3, r0 :: r, rfl, rfl, .inl (.inl (.inl hp35)), by rw [l1, Nat.mul_one, sum_tot]; omega, Txt.join " " (r0 :: r), rfl, by have := join_tot (r0 :: r); omega, fun x H6 s6 h1 h2 => hN _ _ ⟨x, rfl, s5.trans s6, fun k hk => ?_, fun hk => ?_⟩⟩
          · rw [em] at hk
            rw [rst'] at h1
            cases e : mbZ (r0 :: r) with
            | none => rw [e] at hk; cases hk
            | some m =>
              rw [e] at hk
              cases hk
              have hx := h1 m e
              refine ⟨hx, fun h => ?_⟩
              rw [h] at hx
              cases hx
          · rw [em] at hk
            rw [rst'] at h2
            cases e : mbZ (r0 :: r) with
            | none => exact h2 e
            | some m => rw [e] at hk; cases hk
        · rintro _ H6 ⟨mv, rfl, s6, hk, hn⟩
          cases ek : mkZ (r0 :: r) with
          | none =>
            obtain rfl := hn ek
            rw [ek] at eM3
            exact ⟨_, rfl, rfl, _, rfl, ite2 (fun _ => no eM3 H6 (s1.trans s6)) fun c => (c rfl).elim⟩
          | some k =>
            obtain ⟨hx, xn⟩ := hk k ek
            refine ⟨_, rfl, rfl, _, rfl, ite2 (fun c => absurd (of_decide_eq_true c) xn) fun _ => ?_⟩
            exact ⟨_, rfl, p, _, 1, .str nm, rfl, rfl, hL s6, atI_nat (j := 1) rfl, _, rfl, _, rfl, (show 4 ≤ sizeLine by decide), fun t nt => fin k mv H6 ek s6 hx t nt⟩
end
end K92

set_option maxRecDepth 100000
set_option maxHeartbeats 800000
namespace K92
open PySem PySem.Spec L2 Rm
open PyProof.Rows hiding St
section
variable {P : Program} {w : World} {K : PySem.W.Frag} {mg : Str → Option Value} {base : Heap}
def rdR : Nat ⊕ MG → PyData
  | .inl k => .list [.str "line", .int ((k : Nat) : Int)]
  | .inr g => .list [.str "told", mgD g]
def spMgOf (K : PySem.W.Frag) : Sp := fun vs H Q _ => ∃ x d, vs = [x] ∧ Dx K H x d ∧ Okm d ∧ ∀ p H', Same H H' → Dx K H' (.ref p) (rdR (valM d)) → Q (.ref p) H'
theorem dx_line {K : PySem.W.Frag} {H : Hp} {p : Addr} {k : Nat} (h : H p = some (.lst [.str "line", .int ((k : Nat) : Int)])) : Dx K H (.ref p) (rdR (.inl k)) := .lst (.inl (.inl h)) (.cons (.str _) (.cons (.int _) .nil))
theorem dx_told {K : PySem.W.Frag} {H : Hp} {p : Addr} {y : V} {g : MG} (h : H p = some (.lst [.str "told", y])) (hy : Dx K H y (mgD g)) : Dx K H (.ref p) (rdR (.inr g)) := .lst (.inl (.inl h)) (.cons (.str _) (.cons hy .nil))
theorem sc__law_found : FnScope ["_law_text", "e"] ["_law_text"] (defScope s__law_found) :=
  ⟨rfl, rfl, rfl, by decide +kernel, rfl, by decide +kernel, by decide +kernel⟩
theorem ok_lfound {f BT : Addr} {fd : FuncData} (F : Fun K "_law_found" "_law_found" s__law_found f fd) (g_BadText : mg "BadText" = some (.ref BT))
    (D_read_marking : Ce P w K mg base (L2.CX P w) 7 "read_marking" ["text"] (spRdX K BT))
    (XF_BadText : XfC K BT) (no_BadText_line : PySem.W.findIn K (.ref BT) "line" = some none) (em : PySem.W.exmOne K (.ref BT) (.ref BT) = some true) :
    FnG P w K mg base CX0 8 f fd ["_law_text"] (spMgOf K) := by
  refine fn_q F sc__law_found (fun vs H Q E h => ?_) (fun cdv A outer s H vs Q E hr hG h => ?_)
  · obtain ⟨x, d, rfl, _⟩ := h
    rfl
  · obtain ⟨x, d, rfl, hx, ok, q⟩ := h
    have N_BadText : Names (cxOf CX0 P w K mg base ["_law_text", "e"] "_law_found" (defScope s__law_found) f cdv A outer s H E).nox "BadText" (.ref BT) :=
      ⟨rfl, by decide, .inl g_BadText⟩
    refine ⟨_, (pss_one (ps_try_as (i := 1) rfl rfl sc__law_found.nd rfl rfl N_BadText takes0 (fun W pn xe tk po => (pss_one (ps_ret (pe_lst (pa_cons pe_str (pa_cons (pe_ceE D_read_marking (hr.mono (by decide)) hG (pa_cons (pv 0) pa_nil) (fun σ => passAt tk σ)) pa_nil))))))
      (fun a oe cls d pn hz hf => (pss_one (ps_ret (pe_lst (pa_cons pe_str (pa_cons (pe_xf XF_BadText no_BadText_line hz hf (pv 1)) pa_nil)))))))), ?_⟩
    refine ⟨_, rfl, x, d, rfl, hx, ok, fun ops ho y H' s1 hy => ?_, fun k hk e H' s1 he => ?_⟩
    · refine ⟨(show 2 ≤ sizeLine by decide), fun p np => ?_⟩
      refine q p _ (s1.trans (same_new np)) ?_
      rw [ho]
      exact dx_told upd_same (hy.upR (.of (same_new np)))
    · refine ⟨true, em, fun _ a na => ?_, fun z => by cases z⟩
      refine ⟨_, rfl, rfl, rfl, e, _, .int ((k : Nat) : Int), rfl, upd_same, rfl, (show 2 ≤ sizeLine by decide), fun p np => ?_⟩
      refine q p _ ((s1.trans (same_new he)).trans (same_new np)) ?_
      rw [hk]
      exact dx_line upd_same
end
end K92

set_option maxRecDepth 100000
set_option maxHeartbeats 800000
namespace K92
open PySem PySem.Spec L2 Rm
open PyProof.Rows hiding St
section
variable {P : Program} {w : World} {K : PySem.W.Frag} {mg : Str → Option Value} {base : Heap}
theorem sc__law_marking_of : FnScope ["_law_text", "_law_found_here", "_law_at", "_law_line", "_law_write"] ["_law_text"] (defScope s__law_marking_of) :=
  ⟨rfl, rfl, rfl, by decide +kernel, rfl, by decide +kernel, by decide +kernel⟩
theorem ok_lmof {f : Addr} {fd : FuncData} (F : Fun K "_law_marking_of" "_law_marking_of" s__law_marking_of f fd) (B : Bl mg)
    (D__law_write_of : Ce P w K mg base CX0 3 "_law_write_of" ["_law_line"] (spLWr K)) :
    FnG P w K mg base CX0 4 f fd ["_law_text"] (spMgOf K) := by
  refine fn_q F sc__law_marking_of (fun vs H Q E h => ?_) (fun cdv A outer s H vs Q E hr hG h => ?_)
  · obtain ⟨x, d, rfl, _⟩ := h
    rfl
  · obtain ⟨x, d, rfl, hx, ok, q⟩ := h
    have hu := hu_of hr
    refine ⟨_, (pss_cons (ps_if (pt_not (pt_val (pe_callB call_isi (by rfl) B.n_isinstance (by decide +kernel) (pa_cons (pv 0) (pa_cons (pe_bltn (v := .ty "str") (u := .type "str") (by rfl) B.n_str (by decide +kernel) rfl) pa_nil))))) (pss_one (ps_ret (pe_lst (pa_cons pe_str (pa_cons pe_int pa_nil))))) pss_nil)
      (pss_cons (ps_set (i := 1) sc__law_marking_of.nd rfl (Or.inl rfl) (pe_lst pa_nil))
      (pss_cons (ps_for PassesOwn.never rfl (pi_enum (by rfl) B.n_enumerate (pa_cons (pe_ifExp (pt_cmpR op_ne (pv 0) pe_str (nomark _)) (pe_bm PySem.F.plainAttrs_str PySem.F.slot_str_split PySem.F.type_str_split mt_split (pv 0) (pa_cons pe_str pa_nil)) (pe_lst pa_nil)) pa_nil)) (pg_tup rfl (pgs_cons (pg_name (i := 2) sc__law_marking_of.nd rfl (Or.inl rfl)) (pgs_cons (pg_name (i := 3) sc__law_marking_of.nd rfl (Or.inl rfl)) pgs_nil))) (pss_one (ps_if (PW.pt (pw_and (pt_cmpR op_eq (pv 3) (pe_op op_add_str pe_str (pe_callTy call_strIS (by rfl) B.n_str (by decide +kernel) (pa_cons (pe_op op_add (pe_callB call_len_seq (by rfl) B.n_len (by decide +kernel) (pa_cons (pv 1) pa_nil)) pe_int) pa_nil))) (nomark _)) (pw_and1 (pt_cmpR op_lt (pe_callB call_len_seq (by rfl) B.n_len (by decide +kernel) (pa_cons (pv 1) pa_nil)) pe_int (nomark _))))) (pss_one (ps_expr (pe_bm PySem.F.plainAttrs_list PySem.F.slot_list_append PySem.F.type_list_append mt_append (pv 1) (pa_cons (pe_tup pa_nil) pa_nil)))) (pss_cons (ps_set (i := 4) sc__law_marking_of.nd rfl (Or.inl rfl) (pe_ce D__law_write_of (hr.mono (by decide)) hG (pa_cons (pv 3) pa_nil) pass0))
      (pss_cons (ps_if (PW.pt (pw_or (pt_cmpR op_isN (pv 4) pe_non (nomark _)) (pw_or1 (pt_cmpR (op_eqE (Nat.lt_of_succ_lt hu)) (pv 1) (pe_lst pa_nil) (nomark _))))) (pss_one (ps_ret (pe_lst (pa_cons pe_str (pa_cons (pe_op op_add (pv 2) pe_int) pa_nil))))) pss_nil)
      (pss_one (ps_asg (pe_op op_catA (pe_ix ix_list (pv 1) (pe_un un_neg pe_int) (fun _ _ => rfl)) (pe_tup (pa_cons (pv 4) pa_nil))) (pg_sub (pv 1) (pe_un un_neg pe_int) set_list))))))))
      (pss_one (ps_ret (pe_lst (pa_cons pe_str (pa_cons (pe_callTy call_tuple_of (by rfl) B.n_tuple (by decide +kernel) (pa_cons (pv 1) pa_nil)) pa_nil)))))))), ?_⟩
    have lzz : ∀ {n : Nat}, n ≤ 64 → n ≤ sizeLine := fun h => Nat.le_trans h (by decide)
    refine ⟨_, rfl, x, .ty "str", _, _, _, rfl, .ty _, hx.tyx, kit_str d, ?_⟩
    by_cases hs : ∃ z, d = .str z
    rotate_left
    · have n : ∀ z, d ≠ .str z := fun z h => hs ⟨z, h⟩
      have bad : V.bl (isS d) = V.bl false := by
        cases d with
        | str z => exact absurd rfl (n z)
        | _ => rfl
      rw [bad]
      refine ⟨false, rfl, (show 2 ≤ sizeLine by decide), fun p np => q p _ (same_new np) ?_⟩
      have e : valM d = .inl 1 := by
        cases d with
        | str z => exact absurd rfl (n z)
        | _ => rfl
      rw [e]
      exact dx_line upd_same
    obtain ⟨z, rfl⟩ := hs
    cases hx
    obtain ⟨zl, zs⟩ := ok z rfl
    refine ⟨true, rfl, (show 0 ≤ sizeLine by decide), fun p np => ?_⟩
    have s1 := same_new (o := .lst []) np
    have hp := upd_same (H := H) (a := p) (o := .lst [])
    generalize upd H p (.lst []) = H1 at s1 hp ⊢
    have q : ∀ p H', Same H H' → Dx K H' (.ref p) (rdR (rdE 0 [] (linesZ z))) → Q (.ref p) H' := q
    have wl : ∀ w ∈ linesZ z, w.length ≤ 90000 ∧ asA w = true := fun w hw => by
      obtain ⟨a, b⟩ := linesZ_sub hw
      exact ⟨Nat.le_trans a zl, asA_sub zs b⟩
    have ez : linesZ z = if z = "" then [] else Txt.split z "\n" := by
      unfold linesZ
      by_cases h : z = ""
      · subst h
        rfl
      · have : 0 < z.length := by
          rcases Nat.eq_zero_or_pos z.length with a | a
          · exact absurd (str_ext (List.eq_nil_of_length_eq_zero (show z.cps.toList.length = 0 from a))) h
          · exact a
        rw [if_pos this, if_neg h]
    dsimp only
    refine Rm.seq_mid (fun σ' H' => (∃ c3 c4 c2, σ' = [some (.str z), some (.ref p), c2, c3, c4]) ∧ Same H H' ∧ ∃ g, LsAt K H' p (g.map wsD) ∧ rdG [] (linesZ z) = some g) ?_ (fun N hN => ?_)
    · rintro _ H' ⟨⟨c3, c4, c2, rfl⟩, sH, g, ⟨us, hu1, lu, hu2⟩, er⟩
      refine ⟨_, rfl, p, us, rfl, .inl ⟨.inl (.inl hu1), fun y ny => ⟨(show 2 ≤ sizeLine by decide), fun l nl => ?_⟩⟩⟩
      have s2 := same_new (o := .tup us) ny
      have s3 := same_new (o := .lst [V.str "told", .ref y]) nl
      refine q l _ (sH.trans (s2.trans s3)) ?_
      rw [rdE_all er]
      exact dx_told upd_same (.tup (.inl (.inl (s3 _ _ upd_same))) (hu2.upR (.of (s2.trans s3))))
    by_cases hz : z = ""
    · have c0 : (!decide (V.str z = V.str "")) = false := by rw [decide_eq_true (by rw [hz])]; rfl
      refine ⟨_, rfl, rfl, _, rfl, ?_⟩
      rw [c0]
      refine ⟨(show 0 ≤ sizeLine by decide), fun l nl => ⟨l, [], rfl, .inl (.inl upd_same), for_it (walk_enum (K := K) (a := l) (xs := [])) (fun i σ H' => σ = [some (.str z), some (.ref p), none, none, none] ∧ H' = upd H1 l (.lst [])) ⟨rfl, rfl⟩
        (fun i σ H' _ e => .inl (.inl (by rw [e.2]; exact upd_same))) (fun i x σ H' H3 hi => absurd hi (Nat.not_lt_zero _)) ?_⟩⟩
      rintro σ H' ⟨rfl, rfl⟩
      refine hN _ _ ⟨⟨_, _, _, rfl⟩, s1.trans (same_new nl), [], ⟨[], (same_new nl) _ _ hp, rfl, .nil⟩, ?_⟩
      rw [ez, if_pos hz]
      rfl
    have c1 : (!decide (V.str z = V.str "")) = true := by
      rw [decide_eq_false fun e => hz (V.str.inj e)]
      rfl
    rw [if_neg hz] at ez
    refine ⟨_, rfl, rfl, _, rfl, ?_⟩
    rw [c1]
    refine ⟨_, rfl, rfl, z, "\n", rfl, rfl, by decide +kernel, Nat.le_trans (show _ ≤ 90002 by omega) (by decide), fun l nl => ?_⟩
    rw [← ez]
    have ll : (linesZ z).length ≤ 90001 := by
      have := linesZ_len z
      omega
    generalize linesZ z = ls at q hN wl ll ⊢
    have s2 := same_new (o := .lst (ls.map V.str)) nl
    have hl2 := upd_same (H := H1) (a := l) (o := .lst (ls.map V.str))
    have hp2 := s2 _ _ hp
    have lp : l ≠ p := fun e => by rw [e, hp] at nl; cases nl
    generalize upd H1 l (.lst (ls.map V.str)) = H2 at s2 hl2 hp2 ⊢
    have s12 := s1.trans s2
    refine ⟨l, _, rfl, .inl (.inl hl2), for_it (walk_enum (K := K) (a := l) (xs := ls.map V.str))
      (fun i σ H' => (∃ c2 c3 c4, σ = [some (.str z), some (.ref p), c2, c3, c4]) ∧ (Same H H' ∧ H' l = some (.lst (ls.map V.str))) ∧ ∃ gi, LsAt K H' p (gi.map wsD) ∧ rdG [] (ls.take i) = some gi ∧ gi.length ≤ 60 ∧ ∀ ws ∈ gi, ws.length ≤ i)
      ⟨⟨_, _, _, rfl⟩, ⟨s12, hl2⟩, [], ⟨[], hp2, rfl, .nil⟩, rfl, by decide, fun _ h => by cases h⟩ (fun i σ H' _ e => .inl (.inl e.2.1.2)) ?_ ?_⟩
    · rintro i x σ H' H3 hi ⟨⟨c2, c3, c4, rfl⟩, ⟨sH, hl⟩, gi, lsa, hgi, l60, lw⟩ ⟨T, a1, b1, rfl, nT, rfl, ea, eb⟩
      obtain rfl := Option.some.inj ea
      obtain ⟨u, hu1, rfl⟩ := str_get eb
      obtain ⟨ul, us⟩ := wl u (List.mem_of_getElem? hu1)
      have hT := upd_same (H := H') (a := T) (o := .tup [.int ((i : Nat) : Int), .str u])
      have s3 := same_new (o := .tup [.int ((i : Nat) : Int), .str u]) nT
      have sH3 := sH.trans s3
      have hl3 := s3 _ _ hl
      have lsa := lsa.up s3
      generalize upd H' T (.tup [.int ((i : Nat) : Int), .str u]) = H3 at hT s3 sH3 hl3 lsa ⊢
      refine ⟨_, _, rfl, .inl (.inl hT), rfl, _, _, rfl, _, _, rfl, rfl, ?_⟩
      obtain ⟨vs, hv, lv, hdv⟩ := id lsa
      rw [List.length_map] at lv
      have lA : ((gi.length + 1 : Nat) : Int).natAbs < 10 ^ 30 := by omega
      have lg := log_lt lA
      have l31 : (sI ((gi.length + 1 : Nat) : Int)).length ≤ 31 := (wk2_num lA).wk.l31
      have lz : ("at " : Str).length = 3 := by decide +kernel
      have le : ("at " : Str).length + (sI ((gi.length + 1 : Nat) : Int)).length ≤ sizeLine := by
        rw [lz]
        exact Nat.le_trans (show _ ≤ 34 by omega) (by decide)
      have en : ((vs.length : Nat) : Int) + 1 = ((gi.length + 1 : Nat) : Int) := by omega
      have nxt : ∀ {g'}, stG gi u = some g' → rdG [] (ls.take (i + 1)) = some g' := fun {g'} h => by
        rw [take_snoc hu1, rdG_app, hgi]
        show (stG gi u).bind (fun g' => some g') = _
        rw [h]
        rfl
      dsimp only [gName]
      refine ⟨_, rfl, _, rfl, p, vs, rfl, .inl (.inl (.inl hv)), _, _, rfl, rfl, .int ((gi.length + 1 : Nat) : Int), sI ((gi.length + 1 : Nat) : Int), by show [V.int (((vs.length : Nat) : Int) + 1)] = _; rw [en], rfl, ?_, _, _, rfl, rfl, le, ?_⟩
      · intro j e
        cases e
        omega
      have eA : ("at " : Str) ++ sI ((gi.length + 1 : Nat) : Int) = Rm.atT ((gi.length + 1 : Nat) : Int) := by rw [← at_n, st_em]
      rw [eA]
      have bad : stG gi u = none → ∀ (H5 : Hp) (l2 : Addr), Same H H5 → H5 l2 = none → Q (.ref l2) (upd H5 l2 (.lst [V.str "line", .int (((i : Nat) : Int) + 1)])) := fun b H5 l2 s5 n5 => by
        refine q l2 _ (s5.trans (same_new n5)) ?_
        rw [rdE_bad hgi hu1 b]
        have e : ((i : Nat) : Int) + 1 = (((i + 1 : Nat)) : Int) := by omega
        rw [e]
        exact dx_line upd_same
      refine ⟨rfl, _, rfl, ite2 (fun c => ?_) fun c => ?_⟩
      · have cz : u = Rm.atT ((gi.length + 1 : Nat) : Int) := V.str.inj (of_decide_eq_true c)
        have ew : wrZ u = none := by rw [cz]; exact wrZ_at lA
        refine ⟨_, rfl, p, vs, rfl, .inl (.inl (.inl hv)), _, _, rfl, rfl, _, rfl, ite2 (fun c2 => ?_) fun c2 => ?_⟩
        · have c2 := of_decide_eq_true c2
          have l59 : gi.length < 60 := by omega
          have sg : stG gi u = some (gi ++ [[]]) := by
            unfold stG
            rw [ew, if_neg (fun x => by cases x.1), if_pos ⟨cz, l59⟩]
          refine ⟨_, rfl, .inl ⟨rfl, vs, .inl (.inl hv)⟩, (show 0 ≤ sizeLine by decide), fun t nt => ?_⟩
          have s4 := same_new (o := .tup []) nt
          have ht := upd_same (H := H3) (a := t) (o := .tup [])
          have sH4 := sH3.trans s4
          have hl4 := s4 _ _ hl3
          have hv4 := s4 _ _ hv
          have hdv4 := hdv.upR (.of s4)
          generalize upd H3 t (.tup []) = H4 at s4 ht sH4 hl4 hv4 hdv4 ⊢
          refine ⟨p, vs, _, rfl, rfl, hv4, Nat.lt_of_le_of_lt (show vs.length ≤ 60 by omega) (by decide), ⟨_, _, _, rfl⟩, ⟨same_put np sH4, (upd_ne lp).trans hl4⟩, _, ?_, nxt sg, by simp; omega, fun us hu => ?_⟩
          · have := LsAt.snoc hv4 (ds := gi.map wsD) (by rw [List.length_map, lv]) hdv4 (d := wsD []) (.tup (.inl (.inl ht)) .nil) (by have := tO_mgs (gi ++ [[]]); rwa [List.map_append] at this)
            rwa [List.map_append]
          · rcases List.mem_append.mp hu with hu | hu
            · have := lw us hu
              omega
            · rw [List.mem_singleton.mp hu]
              exact Nat.zero_le _
        · have n60 : ¬ gi.length < 60 := fun h => c2 (decide_eq_true (by omega))
          have b := bad (st_none (fun x => by rw [ew] at x; cases x.1) fun h => n60 h.2)
          refine ⟨_, rfl, u, rfl, ul, us, fun x H4 s4 hw hn => ?_⟩
          obtain rfl := hn ew
          refine ⟨_, rfl, rfl, _, rfl, ite2 (fun _ => ?_) fun c => (c rfl).elim⟩
          exact ite2 (fun _ => ⟨_, rfl, _, _, rfl, rfl, (show 2 ≤ sizeLine by decide), fun l2 n2 => b H4 l2 (sH3.trans s4) n2⟩) fun z => absurd rfl z
      · have nz : ¬ u = Rm.atT ((gi.length + 1 : Nat) : Int) := fun h => c (decide_eq_true (by rw [h]))
        refine ite2 (fun z => absurd z (by simp)) fun _ => ?_
        refine ⟨_, rfl, u, rfl, ul, us, fun x H4 s4 hw hn => ?_⟩
        cases ew : wrZ u with
        | none =>
          obtain rfl := hn ew
          have b := bad (st_none (fun x => by rw [ew] at x; cases x.1) fun h => nz h.1)
          refine ⟨_, rfl, rfl, _, rfl, ite2 (fun _ => ?_) fun c => (c rfl).elim⟩
          exact ite2 (fun _ => ⟨_, rfl, _, _, rfl, rfl, (show 2 ≤ sizeLine by decide), fun l2 n2 => b H4 l2 (sH3.trans s4) n2⟩) fun z => absurd rfl z
        | some w =>
          have hxw := hw w ew
          have xn : x ≠ .non := fun e => by
            rw [e] at hxw
            cases w <;> cases hxw
          refine ⟨_, rfl, rfl, _, rfl, ite2 (fun c => absurd (of_decide_eq_true c) xn) fun _ => ?_⟩
          have sH4 := sH3.trans s4
          have hl4 := s4 _ _ hl3
          have lsa4 := lsa.up s4
          refine ⟨_, rfl, lzz (n := 0) (by decide), fun p5 np5 => ?_⟩
          have s5 := same_new (o := .lst []) np5
          have sH5 := sH4.trans s5
          have hl5 := s5 _ _ hl4
          obtain ⟨vs4, hv5, lv5, hdv5⟩ := lsa4.up s5
          rw [List.length_map] at lv5
          have hp5 := upd_same (H := H4) (a := p5) (o := .lst [])
          have hxw5 := hxw.upR (.of s5)
          generalize upd H4 p5 (.lst []) = H5 at s5 sH5 hl5 hv5 hdv5 hp5 hxw5 ⊢
          refine ⟨p, vs4, p5, rfl, .inl (.inl hv5), rfl, .inl (.inl hp5), _, rfl, ?_⟩
          by_cases g0 : gi = []
          · have e0 : vs4 = [] := List.eq_nil_of_length_eq_zero (by rw [lv5, g0]; rfl)
            subst e0
            have b := bad (st_none (fun x => x.2 g0) fun h => nz h.1)
            exact ite2 (fun _ => ⟨_, rfl, _, _, rfl, rfl, (show 2 ≤ sizeLine by decide), fun l2 n2 => b H5 l2 sH5 n2⟩) fun z => absurd rfl z
          obtain ⟨r, ws, rfl⟩ : ∃ r ws, gi = r ++ [ws] := by
            rcases List.eq_nil_or_concat gi with e | ⟨r, ws, e⟩
            · exact absurd e g0
            · exact ⟨r, ws, by rw [e, List.concat_eq_append]⟩
          rw [List.length_append, List.length_singleton] at lv5
          obtain ⟨us', t, rfl⟩ : ∃ a b, vs4 = a ++ [b] := by
            rcases List.eq_nil_or_concat vs4 with e | ⟨a, b, e⟩
            · rw [e] at lv5; simp at lv5
            · exact ⟨a, b, by rw [e, List.concat_eq_append]⟩
          rw [List.length_append, List.length_singleton] at lv5
          have lu : us'.length = r.length := by omega
          obtain ⟨ws', hws, hdt⟩ := dxa_map (f := wsD) hdv5 (i := us'.length) (x := t) (by simp)
          obtain rfl : ws = ws' := by
            rw [lu] at hws
            simpa using hws
          have hdu : DxAll K H5 us' (r.map wsD) := by
            have := dxa_take us'.length hdv5
            rw [List.take_left, lu, List.map_append, List.take_left' (by rw [List.length_map])] at this
            exact this
          have sg : stG (r ++ [ws]) u = some (r ++ [ws ++ [w]]) := by
            unfold stG
            rw [if_pos ⟨by rw [ew]; rfl, by simp⟩, ew]
            show some (addW (r ++ [ws]) w) = _
            rw [addW_snoc]
          have lws := lw ws (by simp)
          have i4 : i ≤ 90000 := by
            have := (List.getElem?_eq_some_iff.mp hu1).1
            omega
          refine ite2 (fun z => absurd z (by simp)) fun _ => ?_
          obtain ⟨a, xs, rfl, hst, hdx⟩ : ∃ a xs, t = .ref a ∧ SqT K H5 a xs ∧ DxAll K H5 xs (ws.map wrD) := by
            cases hdt with
            | tup hst hdx => exact ⟨_, _, rfl, hst, hdx⟩
          have lxs := dxa_len hdx
          rw [List.length_map] at lxs
          refine ⟨_, rfl, 1, rfl, p, us' ++ [.ref a], _, .ref a, rfl, rfl, .inl (.inl hv5), atI_last _ _, _, rfl, lzz (n := 1) (by decide), fun q1 nq1 => ?_⟩
          have s6 := same_new (o := .tup [x]) nq1
          have hq1 := upd_same (H := H5) (a := q1) (o := .tup [x])
          have hx6 := hxw5.upR (.of s6)
          generalize upd H5 q1 (.tup [x]) = H6 at s6 hq1 hx6 ⊢
          have ix : ixN (us' ++ [V.ref a]).length (-1) = some us'.length := by
            rw [List.length_append, List.length_singleton]
            unfold ixN
            rw [if_neg (by decide), if_pos (by omega)]
            congr 1
            omega
          have fin : ∀ (v : V) (H7 : Hp), Same H6 H7 → Dx K H7 v (wsD (ws ++ [w])) → (Same H (upd H7 p (.lst ((us' ++ [V.ref a]).set us'.length v))) ∧ upd H7 p (.lst ((us' ++ [V.ref a]).set us'.length v)) l = some (.lst (ls.map V.str))) ∧ ∃ gi, LsAt K (upd H7 p (.lst ((us' ++ [V.ref a]).set us'.length v))) p (gi.map wsD) ∧ rdG [] (ls.take (i + 1)) = some gi ∧ gi.length ≤ 60 ∧ ∀ ws ∈ gi, ws.length ≤ i + 1 := fun v H7 s7 hv7 => by
            have st : (us' ++ [V.ref a]).set us'.length v = us' ++ [v] := by simp
            rw [st]
            have s67 := s6.trans s7
            have k : TupK H7 (upd H7 p (.lst (us' ++ [v]))) := TupK.put (s67 _ _ hv5) (fun _ e => by cases e) fun _ _ e => by cases e
            refine ⟨⟨same_put np (sH5.trans s67), (upd_ne lp).trans (s67 _ _ hl5)⟩, r ++ [ws ++ [w]], ⟨_, upd_same, by simp [lu], ?_⟩, nxt sg, by simpa using l60, fun us hu => ?_⟩
            · refine dxa_keepT k (tO_mgs _) ?_
              rw [List.map_append]
              exact dxa_snoc (hdu.upR (.of s67)) hv7
            · rcases List.mem_append.mp hu with hu | hu
              · have := lw us (by simp [hu])
                omega
              · rw [List.mem_singleton.mp hu]
                simp
                omega
          refine ⟨a, q1, xs, [x], rfl, rfl, sqt_up s6 hst, .inl (.inl hq1), Nat.le_trans (show _ ≤ 90002 by simp; omega) (by decide), fun e => ?_, fun _ e => (by cases e), fun ne _ t2 nt2 => ?_⟩
          · subst e
            have w0 : ws = [] := List.eq_nil_of_length_eq_zero (by rw [← lxs]; rfl)
            subst w0
            exact ⟨_, rfl, 1, rfl, p, _, _, _, rfl, rfl, s6 _ _ hv5, ix, ⟨_, _, _, rfl⟩, fin (.ref q1) H6 (.refl _) (.tup (.inl (.inl hq1)) (.cons hx6 .nil))⟩
          · have s7 := same_new (o := .tup (xs ++ [x])) nt2
            refine ⟨_, rfl, 1, rfl, p, _, _, _, rfl, rfl, s7 _ _ (s6 _ _ hv5), ix, ⟨_, _, _, rfl⟩, fin (.ref t2) _ s7 (.tup (.inl (.inl upd_same)) ?_)⟩
            rw [List.map_append]
            exact dxa_snoc (hdx.upR (.of (s6.trans s7))) (hx6.upR (.of s7))
    · rintro σ H' ⟨⟨c2, c3, c4, rfl⟩, ⟨sH, _⟩, gi, lsa, hgi, _⟩
      rw [List.length_map, List.take_length] at hgi
      exact hN _ _ ⟨⟨_, _, _, rfl⟩, sH, gi, lsa, hgi⟩
end
end K92

set_option maxRecDepth 100000
set_option maxHeartbeats 800000
namespace K92
open PySem PySem.Spec L2 Rm
open PyProof.Rows hiding St
section
variable {P : Program} {w : World} {K : PySem.W.Frag} {mg : Str → Option Value} {base : Heap}
/-! ### lists of texts, made of one list -/
def Gl (c : Nat) (H : Hp) (p : Addr) (T N : Nat) : Prop := ∃ ys : List Str, H p = some (.lst (ys.map V.str)) ∧ (∀ y ∈ ys, asA y = true) ∧ tot ys ≤ T ∧ nls c ys ≤ N
theorem Gl.up {c : Nat} {H H' : Hp} {p : Addr} {T T' N N' : Nat} (h : Gl c H p T N) (s : Same H H') (l : T ≤ T') (l2 : N ≤ N') : Gl c H' p T' N' := by
  obtain ⟨ys, a, b, d, e⟩ := h
  exact ⟨ys, s _ _ a, b, Nat.le_trans d l, Nat.le_trans e l2⟩
def okE (c : Nat) (p0 : Addr) (ls : List Str) (te : TE) (σ : L2.St) (T N : Nat) : Prop := ∀ (H1 : Hp) (R : VK), H1 p0 = some (.lst (ls.map V.str)) → (∀ p H2, Same H1 H2 → Gl c H2 p T N → R (.ref p) H2) → te σ H1 R
def okP (po : TO) (σ : L2.St) : Prop := ∀ (H1 : Hp) (R : Option Int → Hp → Prop), (∀ i, R i H1) → po σ H1 R
def okV (po : TO) (σ : L2.St) (k : Option Int) : Prop := ∀ (H1 : Hp) (R : Option Int → Hp → Prop), R k H1 → po σ H1 R
def cutL (ys : List Str) (lo hi : Option Int) : List Str := (ys.drop (HT.sIx ys.length 0 lo)).take (HT.sIx ys.length ys.length hi - HT.sIx ys.length 0 lo)
theorem cutL_map (ys : List Str) (lo hi : Option Int) : cutV (ys.map V.str) lo hi = (cutL ys lo hi).map V.str := by
  unfold cutV cutL
  rw [List.length_map, List.map_take, List.map_drop]
theorem cutL_sub {ys : List Str} {lo hi : Option Int} {y : Str} (h : y ∈ cutL ys lo hi) : y ∈ ys := List.mem_of_mem_drop (List.mem_of_mem_take h)
theorem cutL_tot (ys : List Str) (lo hi : Option Int) : tot (cutL ys lo hi) ≤ tot ys := Nat.le_trans (tot_take _ _) (tot_drop _ _)
theorem cutL_nls (c : Nat) (ys : List Str) (lo hi : Option Int) : nls c (cutL ys lo hi) ≤ nls c ys := Nat.le_trans (nls_take _ _ _) (nls_drop _ _ _)
theorem cutL_A (ys : List Str) {k : Int} (k0 : 0 ≤ k) : cutL ys none (some k) = ys.take k.toNat := by
  obtain ⟨n, rfl⟩ := Int.eq_ofNat_of_zero_le k0
  unfold cutL
  rw [HT.sIx_nat, Int.toNat_natCast]
  show (ys.drop 0).take (min n ys.length - 0) = _
  rw [List.drop_zero, Nat.sub_zero]
  by_cases h : n ≤ ys.length
  · rw [Nat.min_eq_left h]
  · rw [Nat.min_eq_right (by omega), List.take_length, List.take_of_length_le (by omega)]
theorem cutL_B (ys : List Str) {k : Int} (k0 : 0 ≤ k) (hi : Option Int) : ∃ m, cutL ys (some k) hi = (ys.drop k.toNat).take m := by
  obtain ⟨n, rfl⟩ := Int.eq_ofNat_of_zero_le k0
  unfold cutL
  rw [HT.sIx_nat, Int.toNat_natCast]
  by_cases h : n ≤ ys.length
  · exact ⟨_, by rw [Nat.min_eq_left h]⟩
  · refine ⟨0, ?_⟩
    rw [Nat.min_eq_right (by omega), List.drop_length, List.take_nil, List.take_zero]
section
variable {c : Nat} {p0 : Addr} {ls : List Str} {σ : L2.St} {T T' Ta Tb N N' Na Nb : Nat} {te ta tb : TE} {lo hi : TO} {v : TE}
theorem okE.mono (h : okE c p0 ls te σ T N) (l : T ≤ T') (l2 : N ≤ N') : okE c p0 ls te σ T' N' := fun H1 R hb k => h H1 R hb fun p H2 s g => k p H2 s (g.up (.refl _) l l2)
theorem ok_var (za : ∀ y ∈ ls, asA y = true) (hv : ∀ (H : Hp) (R : VK), R (.ref p0) H → v σ H R) : okE c p0 ls v σ (tot ls) (nls c ls) :=
  fun H1 R hb k => hv H1 R (k p0 H1 (.refl _) ⟨ls, hb, za, Nat.le_refl _, Nat.le_refl _⟩)
theorem ok_sl (za : ∀ y ∈ ls, asA y = true) (hv : ∀ (H : Hp) (R : VK), R (.ref p0) H → v σ H R) (hlo : okP lo σ) (hhi : okP hi σ) : okE c p0 ls (tSl (rSlL K) v lo hi) σ (tot ls) (nls c ls) :=
  fun H1 R hb k => hv H1 _ (hlo H1 _ fun i => hhi H1 _ fun j => ⟨p0, _, rfl, .inl (.inl hb), fun p np => by
    rw [cutL_map]
    exact k p _ (same_new np) ⟨cutL ls i j, upd_same, fun y hy => za y (cutL_sub hy), cutL_tot ls i j, cutL_nls c ls i j⟩⟩)
/-- [:k] -/
theorem ok_slA (za : ∀ y ∈ ls, asA y = true) {k : Int} (k0 : 0 ≤ k) (hv : ∀ (H : Hp) (R : VK), R (.ref p0) H → v σ H R) (hlo : okV lo σ none) (hhi : okV hi σ (some k)) : okE c p0 ls (tSl (rSlL K) v lo hi) σ (tot (ls.take k.toNat)) (nls c (ls.take k.toNat)) :=
  fun H1 R hb q => hv H1 _ (hlo H1 _ (hhi H1 _ ⟨p0, _, rfl, .inl (.inl hb), fun p np => by
    rw [cutL_map]
    refine q p _ (same_new np) ⟨cutL ls none (some k), upd_same, fun y hy => za y (cutL_sub hy), ?_, ?_⟩
    · rw [cutL_A ls k0]
      exact Nat.le_refl _
    · rw [cutL_A ls k0]
      exact Nat.le_refl _⟩))
/-- [k:] and [k:..] -/
theorem ok_slB (za : ∀ y ∈ ls, asA y = true) {k : Int} (k0 : 0 ≤ k) (hv : ∀ (H : Hp) (R : VK), R (.ref p0) H → v σ H R) (hlo : okV lo σ (some k)) (hhi : okP hi σ) : okE c p0 ls (tSl (rSlL K) v lo hi) σ (tot (ls.drop k.toNat)) (nls c (ls.drop k.toNat)) :=
  fun H1 R hb q => hv H1 _ (hlo H1 _ (hhi H1 _ fun j => ⟨p0, _, rfl, .inl (.inl hb), fun p np => by
    rw [cutL_map]
    obtain ⟨m, em⟩ := cutL_B ls k0 j
    refine q p _ (same_new np) ⟨cutL ls (some k) j, upd_same, fun y hy => za y (cutL_sub hy), ?_, ?_⟩
    · rw [em]
      exact tot_take _ _
    · rw [em]
      exact nls_take _ _ _⟩))
theorem ok_rev (h : okE c p0 ls te σ T N) : okE c p0 ls (Rm.tRevL K te (tUn (rU fun i => V.int (-i)) (tC (V.int 1)))) σ T N :=
  fun H1 R hb k => h H1 _ hb fun p H2 s ⟨ys, a, b, d, e⟩ => ⟨1, rfl, rfl, p, _, rfl, .inl (.inl a), fun q nq => by
    rw [← List.map_reverse]
    exact k q _ (s.trans (same_new nq)) ⟨ys.reverse, upd_same, fun y hy => b y (List.mem_reverse.mp hy), by rw [tot_rev]; exact d, by rw [nls_rev]; exact e⟩⟩
theorem ok_cat (ha : okE c p0 ls ta σ Ta Na) (hb' : okE c p0 ls tb σ Tb Nb) (hz : Ta + Tb ≤ sizeLine) : okE c p0 ls (tOp rCat ta tb) σ (Ta + Tb) (Na + Nb) :=
  fun H1 R hb k => ha H1 _ hb fun p H2 s ⟨ys, a, b, d, e⟩ => hb' H2 _ (s _ _ hb) fun q H3 s2 ⟨zs, a2, b2, d2, e2⟩ => ⟨p, q, _, _, rfl, rfl, s2 _ _ a, a2, by
    rw [List.length_map, List.length_map]
    have := tot_len ys
    have := tot_len zs
    omega, fun r nr => by
    rw [← List.map_append]
    refine k r _ ((s.trans s2).trans (same_new nr)) ⟨ys ++ zs, upd_same, fun y hy => ?_, by rw [tot_app]; omega, by rw [nls_app]; omega⟩
    rcases List.mem_append.mp hy with h | h
    · exact b y h
    · exact b2 y h⟩
theorem ok_sgl {z : Str} (za : asA z = true) (zl : z.length + 1 ≤ T) (zc : cn z + c ≤ N) (hv : ∀ (H : Hp) (R : VK), R (.str z) H → v σ H R) : okE c p0 ls (tLst (tCons v tNil)) σ T N :=
  fun H1 R hb k => hv H1 _ ⟨(show 1 ≤ sizeLine by decide), fun p np => k p _ (same_new np) ⟨[z], upd_same, fun y hy => by rw [List.mem_singleton.mp hy]; exact za, by rw [tot_cons]; exact zl, by rw [nls_cons]; exact zc⟩⟩
def okA (c : Nat) (p0 : Addr) (ls : List Str) (t : TA) (σ : L2.St) (T N n : Nat) : Prop := ∀ (H1 : Hp) (R : List V → Hp → Prop), H1 p0 = some (.lst (ls.map V.str)) →
  (∀ vs H2, Same H1 H2 → vs.length = n → (∀ v ∈ vs, ∃ p, v = .ref p ∧ Gl c H2 p T N) → R vs H2) → t σ H1 R
theorem ok_nil : okA c p0 ls tNil σ T N 0 := fun H1 R hb k => k [] H1 (.refl _) rfl fun _ h => by cases h
theorem ok_cons {t : TA} {n : Nat} (h : okE c p0 ls te σ T N) (h2 : okA c p0 ls t σ T N n) : okA c p0 ls (tCons te t) σ T N (n + 1) :=
  fun H1 R hb k => h H1 _ hb fun p H2 s g => h2 H2 _ (s _ _ hb) fun vs H3 s2 l a => k (.ref p :: vs) H3 (s.trans s2) (by rw [List.length_cons, l]) fun v hv => by
    rcases List.mem_cons.mp hv with rfl | hv
    · exact ⟨p, rfl, g.up s2 (Nat.le_refl _) (Nat.le_refl _)⟩
    · exact a v hv
end
theorem okA.use {c : Nat} {p0 : Addr} {ls : List Str} {t : TA} {σ : L2.St} {T N n : Nat} {H1 : Hp} {R : List V → Hp → Prop} (hb : H1 p0 = some (.lst (ls.map V.str)))
    (k : ∀ vs H2, Same H1 H2 → vs.length = n → (∀ v ∈ vs, ∃ p, v = .ref p ∧ Gl c H2 p T N) → R vs H2) (h : okA c p0 ls t σ T N n) : t σ H1 R := h H1 R hb k
theorem tot_eq (ys : List Str) : (ys.map (·.length)).sum + ys.length = tot ys := by
  induction ys with
  | nil => rfl
  | cons y ys ih =>
    rw [tot_cons, List.map_cons, List.sum_cons, List.length_cons]
    omega
theorem asA_join {sep : Str} (h : asA sep = true) {ys : List Str} (hy : ∀ y ∈ ys, asA y = true) : asA (Txt.join sep ys) = true := by
  unfold asA
  refine List.all_eq_true.mpr fun c hc => ?_
  rcases join_mem hc with m | ⟨p, hp, m⟩
  · unfold asA at h
    exact List.all_eq_true.mp h c m
  · have z := hy p hp
    unfold asA at z
    exact List.all_eq_true.mp z c m
theorem up128A : ∀ c : Fin 128, (Txt.upper ⟨#[c.val]⟩).length ≤ 3 ∧ asA (Txt.upper ⟨#[c.val]⟩) = true ∧ cn (Txt.upper ⟨#[c.val]⟩) ≤ 1 := by decide +kernel
theorem up_cut {z : Str} (h : asA z = true) {k : Int} (k0 : 0 ≤ k) : (Txt.upper (cutS z (some k) (some (k + 1)))).length ≤ 3 ∧ asA (Txt.upper (cutS z (some k) (some (k + 1)))) = true ∧ cn (Txt.upper (cutS z (some k) (some (k + 1)))) ≤ 1 := by
  have hl : (cutS z (some k) (some (k + 1))).cps.toList.length ≤ 1 := by
    obtain ⟨n, rfl⟩ := Int.eq_ofNat_of_zero_le k0
    unfold cutS
    simp only
    rw [show ((n : Int) + 1) = ((n + 1 : Nat) : Int) by omega, HT.sIx_nat, HT.sIx_nat, List.length_take]
    have : min (n + 1) z.length - min n z.length ≤ 1 := by omega
    omega
  have hc := asA_cut (lo := some k) (hi := some (k + 1)) h
  generalize cutS z (some k) (some (k + 1)) = x at hl hc ⊢
  match hx : x.cps.toList with
  | [] =>
    have e : x = "" := str_ext (by rw [hx]; decide +kernel)
    rw [e]
    decide +kernel
  | [c] =>
    have e : x = ⟨#[c]⟩ := str_ext (by rw [hx])
    have lt : c < 128 := by
      unfold asA at hc
      rw [hx] at hc
      simpa using hc
    rw [e]
    exact up128A ⟨c, lt⟩
  | _ :: _ :: _ => rw [hx] at hl; simp at hl
def spBentT (K : PySem.W.Frag) : Sp := fun vs H Q _ => ∃ (t : Addr) (o : HO) (z : Str) (q : Addr) (os : List Str), vs = [.ref t, .str z, .ref q] ∧ H t = some o ∧ IsTape o ∧ asA z = true ∧ z.length ≤ 45000 ∧ H q = some (.lst (os.map V.str)) ∧ (∀ y ∈ os, asA y = true ∧ y.length ≤ 10 ∧ cn y = 0) ∧ 1 ≤ os.length ∧ os.length ≤ 100 ∧
  ∀ z' H', asA z' = true → z'.length ≤ 2 * z.length + 40 → cn z' ≤ 2 * cn z + 3 → Nxt t H H' → Q (.str z') H'
theorem sc__law_bent : FnScope ["_law_tape_here", "_law_text", "_law_odd", "_law_road", "_law_at", "_law_lines", "_law_some", "_law_words", "_law_one", "_law_signs", "_law_sign"] ["_law_tape_here", "_law_text", "_law_odd"] (defScope s__law_bent) :=
  ⟨rfl, rfl, rfl, by decide +kernel, rfl, by decide +kernel, by decide +kernel⟩
theorem ok_bent {f : Addr} {fd : FuncData} (F : Fun K "_law_bent" "_law_bent" s__law_bent f fd) (B : Bl mg)
    (D__law_pick : Ce P w K mg base CX0 1 "_law_pick" ["_law_tape_here", "_law_many"] spPick) (D__law_one_of : Ce P w K mg base CX0 2 "_law_one_of" ["_law_tape_here", "_law_items"] (spOne K)) :
    FnG P w K mg base CX0 3 f fd ["_law_tape_here", "_law_text", "_law_odd"] (spBentT K) := by
  refine fn_q F sc__law_bent (fun vs H Q E h => ?_) (fun cdv A outer s H vs Q E hr hG h => ?_)
  · obtain ⟨t, o, z, q, os, rfl, _⟩ := h
    rfl
  · obtain ⟨t, o, z, qa, os, rfl, ht, ho, za, zl, hq, hos, o1, o2, q⟩ := h
    have hu := hu_of hr
    refine ⟨_, (pss_cons (ps_set (i := 3) sc__law_bent.nd rfl (Or.inl rfl) (pe_ce D__law_pick (hr.mono (by decide)) hG (pa_cons (pv 0) (pa_cons pe_int pa_nil)) pass0))
      (pss_cons (ps_if (pt_cmpR op_eq (pv 3) pe_int (nomark _)) (pss_cons (ps_set (i := 4) sc__law_bent.nd rfl (Or.inl rfl) (pe_ce D__law_pick (hr.mono (by decide)) hG (pa_cons (pv 0) (pa_cons (pe_op op_add (pe_callB call_len_str (by rfl) B.n_len (by decide +kernel) (pa_cons (pv 1) pa_nil)) pe_int) pa_nil)) pass0))
      (pss_one (ps_ret (pe_op op_add_str (pe_op op_add_str (pe_slice sl_str (pv 1) po_none (po_some (pv 4))) (pe_bm0 PySem.F.plainAttrs_str PySem.F.slot_str_upper PySem.F.type_str_upper mt_upper (pe_slice sl_str (pv 1) (po_some (pv 4)) (po_some (pe_op op_add (pv 4) pe_int))))) (pe_slice sl_str (pv 1) (po_some (pe_op op_add (pv 4) pe_int)) po_none))))) pss_nil)
      (pss_cons (ps_if (pt_cmpR op_lt (pv 3) pe_int (nomark _)) (pss_cons (ps_set (i := 5) sc__law_bent.nd rfl (Or.inl rfl) (pe_bm PySem.F.plainAttrs_str PySem.F.slot_str_split PySem.F.type_str_split mt_split (pv 1) (pa_cons pe_str pa_nil)))
      (pss_cons (ps_set (i := 4) sc__law_bent.nd rfl (Or.inl rfl) (pe_ce D__law_pick (hr.mono (by decide)) hG (pa_cons (pv 0) (pa_cons (pe_callB call_len_seq (by rfl) B.n_len (by decide +kernel) (pa_cons (pv 5) pa_nil)) pa_nil)) pass0))
      (pss_cons (ps_set (i := 6) sc__law_bent.nd rfl (Or.inl rfl) (pe_lst (pa_cons (pe_op op_cat (pe_slice sl_list (pv 5) po_none (po_some (pv 4))) (pe_slice sl_list (pv 5) (po_some (pe_op op_add (pv 4) pe_int)) po_none)) (pa_cons (pe_op op_cat (pe_op op_cat (pe_slice sl_list (pv 5) po_none (po_some (pv 4))) (pe_slice sl_list (pv 5) (po_some (pv 4)) (po_some (pe_op op_add (pv 4) pe_int)))) (pe_slice sl_list (pv 5) (po_some (pv 4)) po_none)) (pa_cons (pe_op op_cat (pe_op op_cat (pe_slice sl_list (pv 5) po_none (po_some (pv 4))) (pe_lst (pa_cons pe_str pa_nil))) (pe_slice sl_list (pv 5) (po_some (pv 4)) po_none)) pa_nil)))))
      (pss_cons (ps_set (i := 6) sc__law_bent.nd rfl (Or.inl rfl) (pe_op op_cat (pv 6) (pe_lst (pa_cons (pe_op op_cat (pv 5) (pe_lst (pa_cons pe_str pa_nil))) (pa_cons (pe_op op_cat (pe_op op_cat (pe_slice sl_list (pv 5) po_none (po_some (pv 4))) (pe_rev (pe_slice sl_list (pv 5) (po_some (pv 4)) (po_some (pe_op op_add (pv 4) pe_int))) (pe_un un_neg pe_int))) (pe_slice sl_list (pv 5) (po_some (pe_op op_add (pv 4) pe_int)) po_none)) pa_nil)))))
      (pss_one (ps_ret (pe_bm PySem.F.plainAttrs_str PySem.F.slot_str_join PySem.F.type_str_join mt_join pe_str (pa_cons (pe_ce D__law_one_of (hr.mono (by decide)) hG (pa_cons (pv 0) (pa_cons (pv 6) pa_nil)) pass0) pa_nil)))))))) pss_nil)
      (pss_cons (ps_if (pt_cmpR op_lt (pv 3) pe_int (nomark _)) (pss_cons (ps_set (i := 7) sc__law_bent.nd rfl (Or.inl rfl) (pe_bm PySem.F.plainAttrs_str PySem.F.slot_str_split PySem.F.type_str_split mt_split (pv 1) (pa_cons pe_str pa_nil)))
      (pss_cons (ps_par (i := 4) (j := 8) (by rfl) sc__law_bent.nd rfl rfl (by decide) rfl rfl (pa_cons (pe_ce D__law_pick (hr.mono (by decide)) hG (pa_cons (pv 0) (pa_cons (pe_callB call_len_seq (by rfl) B.n_len (by decide +kernel) (pa_cons (pv 7) pa_nil)) pa_nil)) pass0) (pa_cons (pe_ce D__law_one_of (hr.mono (by decide)) hG (pa_cons (pv 0) (pa_cons (pv 2) pa_nil)) pass0) pa_nil)) (by rfl))
      (pss_cons (ps_set (i := 6) sc__law_bent.nd rfl (Or.inl rfl) (pe_lst (pa_cons (pe_op op_cat (pe_slice sl_list (pv 7) po_none (po_some (pv 4))) (pe_slice sl_list (pv 7) (po_some (pe_op op_add (pv 4) pe_int)) po_none)) (pa_cons (pe_op op_cat (pe_op op_cat (pe_slice sl_list (pv 7) po_none (po_some (pv 4))) (pe_lst (pa_cons (pv 8) pa_nil))) (pe_slice sl_list (pv 7) (po_some (pv 4)) po_none)) (pa_cons (pe_op op_cat (pe_op op_cat (pe_slice sl_list (pv 7) po_none (po_some (pv 4))) (pe_lst (pa_cons (pv 8) pa_nil))) (pe_slice sl_list (pv 7) (po_some (pe_op op_add (pv 4) pe_int)) po_none)) pa_nil)))))
      (pss_one (ps_ret (pe_bm PySem.F.plainAttrs_str PySem.F.slot_str_join PySem.F.type_str_join mt_join pe_str (pa_cons (pe_ce D__law_one_of (hr.mono (by decide)) hG (pa_cons (pv 0) (pa_cons (pv 6) pa_nil)) pass0) pa_nil))))))) pss_nil)
      (pss_cons (ps_set (i := 9) sc__law_bent.nd rfl (Or.inl rfl) (pe_lst (pa_cons pe_str (pa_cons pe_str (pa_cons pe_str (pa_cons pe_str (pa_cons pe_str (pa_cons pe_str (pa_cons pe_str (pa_cons pe_str (pa_cons pe_str (pa_cons pe_str (pa_cons pe_str pa_nil)))))))))))))
      (pss_cons (ps_par (i := 4) (j := 10) (by rfl) sc__law_bent.nd rfl rfl (by decide) rfl rfl (pa_cons (pe_ce D__law_pick (hr.mono (by decide)) hG (pa_cons (pv 0) (pa_cons (pe_op op_add (pe_callB call_len_str (by rfl) B.n_len (by decide +kernel) (pa_cons (pv 1) pa_nil)) pe_int) pa_nil)) pass0) (pa_cons (pe_ce D__law_one_of (hr.mono (by decide)) hG (pa_cons (pv 0) (pa_cons (pv 9) pa_nil)) pass0) pa_nil)) (by rfl))
      (pss_one (ps_ret (pe_op op_add_str (pe_op op_add_str (pe_slice sl_str (pv 1) po_none (po_some (pv 4))) (pv 10)) (pe_slice sl_str (pv 1) (po_some (pe_op op_add (pv 4) (pe_ce D__law_pick (hr.mono (by decide)) hG (pa_cons (pv 0) (pa_cons pe_int pa_nil)) pass0))) po_none)))))))))), ?_⟩
    have szl : ∀ {n : Nat}, n ≤ 1000000 → n ≤ sizeLine := fun h => Nat.le_trans h (by decide)
    have zsl : z.length ≤ sizeLine := szl (by omega)
    have qt : qa ≠ t := fun e => by
      obtain ⟨dg, mx, rfl, _⟩ := ho
      rw [e, ht] at hq
      cases hq
    refine ⟨_, rfl, t, o, 7, rfl, ht, ho, by decide, by decide, fun r o1 r0 r1 ho1 => ?_⟩
    have N1 : Nxt t H (upd H t o1) := ⟨fun b u hb ne => by rw [upd_ne ne]; exact hb, o1, upd_same, ho1⟩
    have hq1 := (upd_ne (o := o1) qt).trans hq
    generalize upd H t o1 = H1 at N1 hq1 ⊢
    obtain ⟨_, oa, hta, hoa⟩ := id N1
    have fin : ∀ {T N : Nat} {sep : Str} {pp : Addr} {Hx : Hp}, sep.length = 1 → asA sep = true → T ≤ 2 * z.length + 40 → N ≤ 2 * cn z + 3 → Gl (cn sep) Hx pp T N → Nxt t H Hx → ∃ a p ys, V.str sep = V.str a ∧ [V.ref pp] = [V.ref p] ∧ (SqL K Hx p (List.map V.str ys) ∨ SqT K Hx p (List.map V.str ys)) ∧
        (List.map (fun x => x.length) ys).sum + ys.length * a.length ≤ 16777216 ∧ Q (.str (Txt.join a ys)) Hx := fun {T M sep pp Hx} sl sa hT hM ⟨ys, a, b, c, d⟩ N => by
      refine ⟨sep, pp, ys, rfl, rfl, .inl (.inl (.inl a)), ?_, q _ _ (asA_join sa b) ?_ (Nat.le_trans (nls_joinle _ _) (Nat.le_trans d hM)) N⟩
      · have := tot_eq ys
        rw [sl]
        omega
      · have := Rm.join_tot (y := sep) (by omega) ys
        omega
    refine ⟨_, rfl, rfl, _, rfl, ite2 (fun c => ?_) fun c => ?_⟩
    · refine ⟨_, rfl, _, rfl, z, rfl, zsl, _, _, rfl, rfl, t, oa, _, rfl, hta, hoa, by omega, by omega, fun k o2 k0 k1 ho2 => ?_⟩
      have N2 := N1.turn ho2
      obtain ⟨u3, ua, uc⟩ := up_cut za k0
      have cc : cn (cutS z none (some k) ++ Txt.upper (cutS z (some k) (some (k + 1))) ++ cutS z (some (k + 1)) none) ≤ 2 * cn z + 3 := by
        have d1 := cn_cut z none (some k)
        have d2 := cn_cut z (some (k + 1)) none
        rw [cn_app, cn_app]
        omega
      have l1 := cutS_length z none (some k)
      have l2 := cutS_length z (some k) (some (k + 1))
      have l3 := cutS_length z (some (k + 1)) none
      have lc : (cutS z none (some k) ++ Txt.upper (cutS z (some k) (some (k + 1)))).length ≤ z.length + 3 := by rw [len_app]; omega
      have lc2 : (cutS z none (some k) ++ Txt.upper (cutS z (some k) (some (k + 1))) ++ cutS z (some (k + 1)) none).length ≤ 2 * z.length + 40 := by rw [len_app]; omega
      refine ⟨_, rfl, _, rfl, k, rfl, z, rfl, zsl, _, rfl, _, rfl, k, rfl, _, rfl, _, _, rfl, rfl, k + 1, rfl, z, rfl, zsl, rfl, _, rfl, rfl, Nat.le_trans (show _ ≤ 100000 by omega) (by decide), _, _, rfl, rfl, szl (by omega), ?_⟩
      refine ⟨_, rfl, _, rfl, _, _, rfl, rfl, k + 1, rfl, z, rfl, zsl, _, _, rfl, rfl, szl (by omega), ?_⟩
      exact q _ _ (asA_app (asA_app (asA_cut za) ua) (asA_cut za)) lc2 cc N2
    refine ⟨_, rfl, _, _, rfl, rfl, _, rfl, ite2 (fun c => ?_) fun c => ?_⟩
    · refine ⟨_, rfl, rfl, z, "\n", rfl, rfl, by decide +kernel, szl (by omega), fun p np => ?_⟩
      have la : ∀ y ∈ Txt.split z "\n", asA y = true := fun y hy => asA_sub za fun c hc => split_sub hy hc
      have lt : tot (Txt.split z "\n") ≤ z.length + 1 := tot_split sep_nl
      have ln : nls (cn "\n") (Txt.split z "\n") = cn z + 1 := by rw [nls_split sep_nl, cn_nl]
      have ll := tot_len (Txt.split z "\n")
      have l1 : 1 ≤ (Txt.split z "\n").length := List.length_pos_iff.mpr (split_ne sep_nl)
      have N2 := N1.go (same_new (o := .lst ((Txt.split z "\n").map V.str)) np)
      have hp := upd_same (H := H1) (a := p) (o := .lst ((Txt.split z "\n").map V.str))
      have ht2 := same_new (o := .lst ((Txt.split z "\n").map V.str)) np _ _ hta
      generalize upd H1 p (.lst ((Txt.split z "\n").map V.str)) = H2 at N2 hp ht2 ⊢
      have pt : p ≠ t := fun e => by rw [e, hta] at np; cases np
      refine ⟨_, rfl, _, rfl, p, _, rfl, .inl (.inl (.inl hp)), t, oa, _, rfl, ht2, hoa, by rw [List.length_map]; omega, by rw [List.length_map]; omega, fun k o2 k0 k1 ho2 => ?_⟩
      have N3 := N2.turn ho2
      have hp3 := (upd_ne (o := o2) pt).trans hp
      generalize upd H2 t o2 = H3 at N3 hp3 ⊢
      clear hp ht2 N2
      dsimp only [gName, tSeq, tAsg, tLst]
      have td := tot_td (Txt.split z "\n") k.toNat
      have nd := nls_td (cn "\n") (Txt.split z "\n") k.toNat
      refine okA.use (c := cn "\n") (p0 := p) (ls := Txt.split z "\n") (T := 2 * z.length + 30) (N := 2 * cn z + 3) (n := 3) hp3 (fun vs H4 s4 l4 a4 => ⟨by rw [l4]; decide, fun ps nps => ?_⟩) ?_
      rotate_left
      · exact (ok_cons (okE.mono (ok_cat (ok_slA la k0 (by exact fun H R h => ⟨_, rfl, h⟩) (by exact fun H R h => h) (by exact fun H R h => ⟨_, rfl, _, rfl, h⟩)) (ok_sl la (by exact fun H R h => ⟨_, rfl, h⟩) (by exact fun H R h => ⟨_, rfl, _, _, rfl, rfl, _, rfl, h _⟩) (by exact fun H R h => h none)) (szl (by omega))) (by omega) (by omega)) (ok_cons (okE.mono (ok_cat (ok_cat (ok_slA la k0 (by exact fun H R h => ⟨_, rfl, h⟩) (by exact fun H R h => h) (by exact fun H R h => ⟨_, rfl, _, rfl, h⟩)) (ok_slB la k0 (by exact fun H R h => ⟨_, rfl, h⟩) (by exact fun H R h => ⟨_, rfl, _, rfl, h⟩) (by exact fun H R h => ⟨_, rfl, _, _, rfl, rfl, _, rfl, h _⟩)) (szl (by omega))) (ok_slB la k0 (by exact fun H R h => ⟨_, rfl, h⟩) (by exact fun H R h => ⟨_, rfl, _, rfl, h⟩) (by exact fun H R h => h none)) (szl (by omega))) (by omega) (by omega)) (ok_cons (okE.mono (ok_cat (ok_cat (ok_slA la k0 (by exact fun H R h => ⟨_, rfl, h⟩) (by exact fun H R h => h) (by exact fun H R h => ⟨_, rfl, _, rfl, h⟩)) (ok_sgl (T := 11) (N := 1) (z := "") (by decide +kernel) (by decide +kernel) (by decide +kernel) (by exact fun H R h => h)) (szl (by omega))) (ok_slB la k0 (by exact fun H R h => ⟨_, rfl, h⟩) (by exact fun H R h => ⟨_, rfl, _, rfl, h⟩) (by exact fun H R h => h none)) (szl (by omega))) (by omega) (by omega)) ok_nil)))
      have s5 := s4.trans (same_new (o := .lst vs) nps)
      have hps := upd_same (H := H4) (a := ps) (o := .lst vs)
      have a5 : ∀ v ∈ vs, ∃ p, v = .ref p ∧ Gl (cn "\n") (upd H4 ps (.lst vs)) p (2 * z.length + 30) (2 * cn z + 3) := fun v hv => by
        obtain ⟨x, e, g⟩ := a4 v hv
        exact ⟨x, e, g.up (same_new nps) (Nat.le_refl _) (Nat.le_refl _)⟩
      have N5 := N3.go s5
      have hp5 := s5 _ _ hp3
      generalize upd H4 ps (.lst vs) = H5 at N5 hps a5 hp5 ⊢
      clear s5 a4 s4 nps
      dsimp only [gName, tSeq, tAsg, tLst, tOp]
      refine ⟨_, rfl, okA.use (c := cn "\n") (p0 := p) (ls := Txt.split z "\n") (T := 2 * z.length + 30) (N := 2 * cn z + 3) (n := 2) hp5 (fun us H6 s6 l6 a6 => ⟨by rw [l6]; decide, fun pu nu => ?_⟩) ?_⟩
      rotate_left
      · exact (ok_cons (okE.mono (ok_cat (ok_var la (by exact fun H R h => ⟨_, rfl, h⟩)) (ok_sgl (T := 11) (N := 1) (z := "") (by decide +kernel) (by decide +kernel) (by decide +kernel) (by exact fun H R h => h)) (szl (by omega))) (by omega) (by omega)) (ok_cons (okE.mono (ok_cat (ok_cat (ok_slA la k0 (by exact fun H R h => ⟨_, rfl, h⟩) (by exact fun H R h => h) (by exact fun H R h => ⟨_, rfl, _, rfl, h⟩)) (ok_rev (ok_slB la k0 (by exact fun H R h => ⟨_, rfl, h⟩) (by exact fun H R h => ⟨_, rfl, _, rfl, h⟩) (by exact fun H R h => ⟨_, rfl, _, _, rfl, rfl, _, rfl, h _⟩))) (szl (by omega))) (ok_sl la (by exact fun H R h => ⟨_, rfl, h⟩) (by exact fun H R h => ⟨_, rfl, _, _, rfl, rfl, _, rfl, h _⟩) (by exact fun H R h => h none)) (szl (by omega))) (by omega) (by omega)) ok_nil))
      refine ⟨ps, pu, _, _, rfl, rfl, (same_new nu) _ _ (s6 _ _ hps), upd_same, by rw [l4, l6]; decide, fun pc nc => ?_⟩
      have s7 := (same_new (o := .lst us) nu).trans (same_new (o := .lst (vs ++ us)) nc)
      have N7 := N5.go (s6.trans s7)
      have hpc := upd_same (H := upd H6 pu (.lst us)) (a := pc) (o := .lst (vs ++ us))
      have a7 : ∀ v ∈ vs ++ us, ∃ p, v = .ref p ∧ Gl (cn "\n") (upd (upd H6 pu (.lst us)) pc (.lst (vs ++ us))) p (2 * z.length + 30) (2 * cn z + 3) := fun v hv => by
        rcases List.mem_append.mp hv with h | h
        · obtain ⟨x, e, g⟩ := a5 v h
          exact ⟨x, e, g.up (s6.trans s7) (Nat.le_refl _) (Nat.le_refl _)⟩
        · obtain ⟨x, e, g⟩ := a6 v h
          exact ⟨x, e, g.up s7 (Nat.le_refl _) (Nat.le_refl _)⟩
      generalize upd (upd H6 pu (.lst us)) pc (.lst (vs ++ us)) = H7 at N7 hpc a7 ⊢
      obtain ⟨_, o7, ht7, ho7⟩ := id N7
      have l5 : (vs ++ us).length = 5 := by rw [List.length_append, l4, l6]
      refine ⟨rfl, _, rfl, _, rfl, t, pc, o7, vs ++ us, rfl, ht7, ho7, .inl (.inl hpc), by omega, by omega, fun i v o8 hv ho8 => ?_⟩
      obtain ⟨pp, rfl, g⟩ := a7 v (List.mem_of_getElem? hv)
      refine fin (T := 2 * z.length + 30) (N := 2 * cn z + 3) (by decide +kernel) (by decide +kernel) (by omega) (by omega) ?_ (N7.turn ho8)
      obtain ⟨ys, a, b, c, d⟩ := g
      exact ⟨ys, (upd_ne fun e => by
        obtain ⟨_, _, rfl, _⟩ := ho7
        rw [e, ht7] at a
        cases a).trans a, b, c, d⟩
    refine ⟨_, rfl, _, _, rfl, rfl, _, rfl, ite2 (fun c => ?_) fun c => ?_⟩
    · refine ⟨_, rfl, rfl, z, " ", rfl, rfl, by decide +kernel, szl (by omega), fun p np => ?_⟩
      have la : ∀ y ∈ Txt.split z " ", asA y = true := fun y hy => asA_sub za fun c hc => split_sub hy hc
      have lt : tot (Txt.split z " ") ≤ z.length + 1 := tot_split sep_sp
      have ln : nls (cn " ") (Txt.split z " ") = cn z := by rw [nls_split sep_sp, cn_sp, Nat.add_zero]
      have ll := tot_len (Txt.split z " ")
      have l1 : 1 ≤ (Txt.split z " ").length := List.length_pos_iff.mpr (split_ne sep_sp)
      have N2 := N1.go (same_new (o := .lst ((Txt.split z " ").map V.str)) np)
      have hp := upd_same (H := H1) (a := p) (o := .lst ((Txt.split z " ").map V.str))
      have ht2 := same_new (o := .lst ((Txt.split z " ").map V.str)) np _ _ hta
      have hq2 := same_new (o := .lst ((Txt.split z " ").map V.str)) np _ _ hq1
      generalize upd H1 p (.lst ((Txt.split z " ").map V.str)) = H2 at N2 hp ht2 hq2 ⊢
      have pt : p ≠ t := fun e => by rw [e, hta] at np; cases np
      refine ⟨_, rfl, _, rfl, p, _, rfl, .inl (.inl (.inl hp)), t, oa, _, rfl, ht2, hoa, by rw [List.length_map]; omega, by rw [List.length_map]; omega, fun k o2 k0 k1 ho2 => ?_⟩
      refine ⟨_, rfl, _, rfl, t, qa, o2, _, rfl, upd_same, ho2, .inl (.inl ((upd_ne qt).trans hq2)), by rw [List.length_map]; omega, by rw [List.length_map]; omega, fun i v o3 hv ho3 => ⟨_, _, rfl, ?_⟩⟩
      obtain ⟨one, h1, rfl⟩ := str_get hv
      obtain ⟨wa, w10, wc⟩ := hos one (List.mem_of_getElem? h1)
      have wl11 : one.length + 1 ≤ 11 := by omega
      rw [upd_upd]
      have N3 := N2.turn ho3
      have hp3 := (upd_ne (o := o3) pt).trans hp
      generalize upd H2 t o3 = H3 at N3 hp3 ⊢
      clear hp ht2 N2 hq2 hv h1
      dsimp only [gName, tSeq, tAsg, tLst]
      have td := tot_td (Txt.split z " ") k.toNat
      have nd := nls_td (cn " ") (Txt.split z " ") k.toNat
      refine okA.use (c := cn " ") (p0 := p) (ls := Txt.split z " ") (T := 2 * z.length + 30) (N := 2 * cn z + 3) (n := 3) hp3 (fun vs H4 s4 l4 a4 => ⟨by rw [l4]; decide, fun ps nps => ?_⟩) ?_
      rotate_left
      · exact (ok_cons (okE.mono (ok_cat (ok_slA la k0 (by exact fun H R h => ⟨_, rfl, h⟩) (by exact fun H R h => h) (by exact fun H R h => ⟨_, rfl, _, rfl, h⟩)) (ok_sl la (by exact fun H R h => ⟨_, rfl, h⟩) (by exact fun H R h => ⟨_, rfl, _, _, rfl, rfl, _, rfl, h _⟩) (by exact fun H R h => h none)) (szl (by omega))) (by omega) (by omega)) (ok_cons (okE.mono (ok_cat (ok_cat (ok_slA la k0 (by exact fun H R h => ⟨_, rfl, h⟩) (by exact fun H R h => h) (by exact fun H R h => ⟨_, rfl, _, rfl, h⟩)) (ok_sgl (T := 11) (N := 0) (z := one) wa wl11 (by rw [wc, cn_sp]; exact Nat.le_refl _) (by exact fun H R h => ⟨_, rfl, h⟩)) (szl (by omega))) (ok_slB la k0 (by exact fun H R h => ⟨_, rfl, h⟩) (by exact fun H R h => ⟨_, rfl, _, rfl, h⟩) (by exact fun H R h => h none)) (szl (by omega))) (by omega) (by omega)) (ok_cons (okE.mono (ok_cat (ok_cat (ok_slA la k0 (by exact fun H R h => ⟨_, rfl, h⟩) (by exact fun H R h => h) (by exact fun H R h => ⟨_, rfl, _, rfl, h⟩)) (ok_sgl (T := 11) (N := 0) (z := one) wa wl11 (by rw [wc, cn_sp]; exact Nat.le_refl _) (by exact fun H R h => ⟨_, rfl, h⟩)) (szl (by omega))) (ok_sl la (by exact fun H R h => ⟨_, rfl, h⟩) (by exact fun H R h => ⟨_, rfl, _, _, rfl, rfl, _, rfl, h _⟩) (by exact fun H R h => h none)) (szl (by omega))) (by omega) (by omega)) ok_nil)))
      have s5 := s4.trans (same_new (o := .lst vs) nps)
      have hps := upd_same (H := H4) (a := ps) (o := .lst vs)
      have a5 : ∀ v ∈ vs, ∃ p, v = .ref p ∧ Gl (cn " ") (upd H4 ps (.lst vs)) p (2 * z.length + 30) (2 * cn z + 3) := fun v hv => by
        obtain ⟨x, e, g⟩ := a4 v hv
        exact ⟨x, e, g.up (same_new nps) (Nat.le_refl _) (Nat.le_refl _)⟩
      have N5 := N3.go s5
      generalize upd H4 ps (.lst vs) = H5 at N5 hps a5 ⊢
      obtain ⟨_, o7, ht7, ho7⟩ := id N5
      refine ⟨rfl, _, rfl, _, rfl, t, ps, o7, vs, rfl, ht7, ho7, .inl (.inl hps), by omega, by omega, fun i v o8 hv ho8 => ?_⟩
      obtain ⟨pp, rfl, g⟩ := a5 v (List.mem_of_getElem? hv)
      refine fin (T := 2 * z.length + 30) (N := 2 * cn z + 3) (by decide +kernel) (by decide +kernel) (by omega) (by omega) ?_ (N5.turn ho8)
      obtain ⟨ys, a, b, c, d⟩ := g
      exact ⟨ys, (upd_ne fun e => by
        obtain ⟨_, _, rfl, _⟩ := ho7
        rw [e, ht7] at a
        cases a).trans a, b, c, d⟩
    · refine ⟨szl (n := 11) (by decide), fun ps nps => ?_⟩
      have N2 := N1.go (same_new (o := .lst ((["", " ", "0", "-", "\n", ",", "a", "Z", "9", "_", "\t"] : List Str).map V.str)) nps)
      have ht2 := same_new (o := .lst ((["", " ", "0", "-", "\n", ",", "a", "Z", "9", "_", "\t"] : List Str).map V.str)) nps _ _ hta
      have hps := upd_same (H := H1) (a := ps) (o := .lst ((["", " ", "0", "-", "\n", ",", "a", "Z", "9", "_", "\t"] : List Str).map V.str))
      have pt : ps ≠ t := fun e => by rw [e, hta] at nps; cases nps
      refine ⟨_, rfl, _, rfl, z, rfl, zsl, _, _, rfl, rfl, t, oa, _, rfl, ht2, hoa, by omega, by omega, fun k o2 k0 k1 ho2 => ?_⟩
      refine ⟨_, rfl, _, rfl, t, ps, o2, (["", " ", "0", "-", "\n", ",", "a", "Z", "9", "_", "\t"] : List Str).map V.str, rfl, upd_same, ho2, .inl (.inl ((upd_ne pt).trans hps)), (show 1 ≤ 11 by decide), (show 11 ≤ 1000000 by decide), fun i v o3 hv ho3 => ⟨_, _, rfl, ?_⟩⟩
      obtain ⟨sg, h1, rfl⟩ := str_get hv
      obtain ⟨sa, s1, sc⟩ : asA sg = true ∧ sg.length ≤ 1 ∧ cn sg ≤ 1 := by
        have h : ∀ y ∈ (["", " ", "0", "-", "\n", ",", "a", "Z", "9", "_", "\t"] : List Str), asA y = true ∧ y.length ≤ 1 ∧ cn y ≤ 1 := by decide +kernel
        exact h sg (List.mem_of_getElem? h1)
      rw [upd_upd]
      have N3 := N2.turn ho3
      have ht3 := upd_same (H := upd H1 ps (.lst ((["", " ", "0", "-", "\n", ",", "a", "Z", "9", "_", "\t"] : List Str).map V.str))) (a := t) (o := o3)
      have c1 := cutS_length z none (some k)
      have lc : (cutS z none (some k) ++ sg).length ≤ z.length + 1 := by rw [len_app]; omega
      refine ⟨_, rfl, _, rfl, k, rfl, z, rfl, zsl, _, rfl, _, _, rfl, rfl, szl (by omega), _, rfl, _, rfl, _, rfl, t, o3, 2, rfl, ht3, ho3, by decide, by decide, fun m o4 m0 m1 ho4 => ?_⟩
      have c2 := cutS_length z (some (k + m)) none
      refine ⟨_, _, rfl, rfl, k + m, rfl, z, rfl, zsl, _, _, rfl, rfl, szl (by omega), ?_⟩
      refine q _ _ (asA_app (asA_app (asA_cut za) sa) (asA_cut za)) (by rw [len_app]; omega) (by
        have d1 := cn_cut z none (some k)
        have d2 := cn_cut z (some (k + m)) none
        rw [cn_app, cn_app]
        omega) (N3.turn ho4)
end
end K92

set_option maxRecDepth 100000
set_option maxHeartbeats 800000
namespace K92
open PySem PySem.Spec L2 Rm
open PyProof.Rows hiding St
section
variable {P : Program} {w : World} {K : PySem.W.Frag} {mg : Str → Option Value} {base : Heap}
/-! ### any values, in ascii -/
def strA : PyData → Bool
  | .str z => asA z && decide (cn z ≤ 200)
  | _ => true
theorem strA_all {ds : List PyData} (h : ds.all strA = true) {i : Nat} {d : PyData} (e : ds[i]? = some d) : strA d = true := List.all_eq_true.mp h d (List.mem_of_getElem? e)
def spAnyA (K : PySem.W.Frag) : Sp := fun vs H Q _ => ∃ t o, vs = [.ref t] ∧ H t = some o ∧ IsTape o ∧ ∀ v d H', Dx K (nw H H') v d → Sv d → strA d = true → Nxt t H H' → Q v H'
theorem ok_anyA {f : Addr} {fd : FuncData} (F : Fun K "_law_any" "_law_any" s__law_any f fd)
    (D__law_one_of : Ce P w K mg base CX0 2 "_law_one_of" ["_law_tape_here", "_law_items"] (spOne K)) :
    FnG P w K mg base CX0 3 f fd ["_law_tape_here"] (spAnyA K) := by
  refine fn_q F sc__law_any (fun vs H Q E h => ?_) (fun cdv A outer s H vs Q E hr hG h => ?_)
  · obtain ⟨t, o, rfl, _⟩ := h
    rfl
  · obtain ⟨t, o, rfl, ht, ho, q⟩ := h
    have hu := hu_of hr
    refine ⟨_, (pss_cons (ps_set (i := 1) sc__law_any.nd rfl (Or.inl rfl) (pe_lst (pa_cons pe_non (pa_cons pe_bl (pa_cons pe_bl (pa_cons pe_int (pa_cons pe_int (pa_cons pe_int (pa_cons pe_int (pa_cons (pe_op op_sub pe_int pe_int) (pa_cons (pe_op op_powX pe_int pe_int) (pa_cons pe_str (pa_cons pe_str (pa_cons pe_str (pa_cons pe_str (pa_cons pe_str (pa_cons pe_str (pa_cons pe_str pa_nil))))))))))))))))))
      (pss_cons (ps_set (i := 1) sc__law_any.nd rfl (Or.inl rfl) (pe_op op_cat (pv 1) (pe_lst (pa_cons pe_str (pa_cons (pe_tup pa_nil) (pa_cons (pe_lst pa_nil) (pa_cons pe_dnewK (pa_cons (pe_tup (pa_cons pe_int pa_nil)) (pa_cons (pe_lst (pa_cons pe_int pa_nil)) (pa_cons (pe_disp (pps_cons pe_str pe_int pps_nil) (by rfl) (by rfl) (fun z => by cases z) (by decide)) (pa_cons (pe_tup (pa_cons pe_int (pa_cons pe_str (pa_cons pe_str pa_nil)))) (pa_cons (pe_tup (pa_cons pe_str pa_nil)) (pa_cons (pe_lst (pa_cons pe_str pa_nil)) (pa_cons pe_str pa_nil))))))))))))))
      (pss_one (ps_ret (pe_ce D__law_one_of (hr.mono (by decide)) hG (pa_cons (pv 0) (pa_cons (pv 1) pa_nil)) pass0))))), ?_⟩
    let x1 : List V := [.non, .bl true, .bl false, .int 0, .int 1, .int 2, .int 7, .int (0 - 1), .int (10 ^ (40 : Int).toNat), .str "", .str "a", .str "x",
      .str "hold", .str "locks", .str "Hold", .str "change "]
    have l16 : 16 ≤ sizeLine := by decide
    have lz : ∀ n, n ≤ 16 → n ≤ sizeLine := fun n h => Nat.le_trans h l16
    refine ⟨0, 1, rfl, rfl, 10, 40, rfl, rfl, ⟨by decide, by decide⟩, l16, fun p1 n1 => ?_⟩
    have N1 := new_at (.lst x1) n1 ht
    refine ⟨_, rfl, lz 0 (by decide), fun p2 n2 => ?_⟩
    have N2 := new_at (.tup []) n2 N1.th
    refine ⟨lz 0 (by decide), fun p3 n3 => ?_⟩
    have N3 := new_at (.lst []) n3 N2.th
    refine fun p4 n4 => ?_
    have N4 := new_at (.dK []) n4 N3.th
    refine ⟨lz 1 (by decide), fun p5 n5 => ?_⟩
    have N5 := new_at (.tup [.int 1]) n5 N4.th
    refine ⟨lz 1 (by decide), fun p6 n6 => ?_⟩
    have N6 := new_at (.lst [.int 1]) n6 N5.th
    refine fun p7 n7 => ⟨upd_same, [(.inr "x", .int 1)], rfl, by show 1 ≤ 15; decide, ?_⟩
    rw [upd_upd]
    have N7 := new_at (.dK [(.inr "x", .int 1)]) n7 N6.th
    refine ⟨lz 3 (by decide), fun p8 n8 => ?_⟩
    have N8 := new_at (.tup [.int 1, .str "locks", .str "hold"]) n8 N7.th
    refine ⟨lz 1 (by decide), fun p9 n9 => ?_⟩
    have N9 := new_at (.tup [.str "hold"]) n9 N8.th
    refine ⟨lz 1 (by decide), fun p10 n10 => ?_⟩
    have N10 := new_at (.lst [.str "hold"]) n10 N9.th
    refine ⟨lz 11 (by decide), fun p11 n11 => ?_⟩
    let x2 : List V := [.str "abcdefg", .ref p2, .ref p3, .ref p4, .ref p5, .ref p6, .ref p7, .ref p8, .ref p9, .ref p10, .str "1"]
    have N11 := new_at (.lst x2) n11 N10.th
    have S1 := ((((((((N2.s.trans N3.s).trans N4.s).trans N5.s).trans N6.s).trans N7.s).trans N8.s).trans N9.s).trans N10.s).trans N11.s
    refine ⟨p1, p11, x1, x2, rfl, rfl, S1 _ _ upd_same, upd_same, (show 27 ≤ sizeLine by decide), fun p12 n12 => ?_⟩
    have N12 := new_at (.lst (x1 ++ x2)) n12 N11.th
    refine ⟨_, rfl, _, rfl, t, p12, o, x1 ++ x2, rfl, N12.th, ho, .inl (.inl upd_same), (show 1 ≤ 27 by decide), (show 27 ≤ 1000000 by decide), fun i v o' hv ho' => ?_⟩
    let ds : List PyData := [.none, .bool true, .bool false, .int 0, .int 1, .int 2, .int 7, .int (0 - 1), .int (10 ^ (40 : Int).toNat), .str "", .str "a", .str "x",
      .str "hold", .str "locks", .str "Hold", .str "change ", .str "abcdefg", .tuple [], .list [], .dict [], .tuple [.int 1], .list [.int 1],
      .dict [(.str "x", .int 1)], .tuple [.int 1, .str "locks", .str "hold"], .tuple [.str "hold"], .list [.str "hold"], .str "1"]
    have t2 := N1.s
    have t3 := t2.trans N2.s
    have t4 := t3.trans N3.s
    have t5 := t4.trans N4.s
    have t6 := t5.trans N5.s
    have t7 := t6.trans N6.s
    have t8 := t7.trans N7.s
    have t9 := t8.trans N8.s
    have t10 := t9.trans N9.s
    have g12 := N12.s
    have g11 := N11.s.trans g12
    have g10 := N10.s.trans g11
    have g9 := N9.s.trans g10
    have g8 := N8.s.trans g9
    have g7 := N7.s.trans g8
    have g6 := N6.s.trans g7
    have g5 := N5.s.trans g6
    have g4 := N4.s.trans g5
    have g3 := N3.s.trans g4
    have hd : ∃ d, ds[i]? = some d ∧ Dx K _ v d := DxAll.get (H := _) (vs := x1 ++ x2) (ds := ds)
      (.cons .non <| .cons (.bl _) <| .cons (.bl _) <| .cons (.int _) <| .cons (.int _) <| .cons (.int _) <| .cons (.int _) <| .cons (.int _) <| .cons (.int _) <|
        .cons (.str _) <| .cons (.str _) <| .cons (.str _) <| .cons (.str _) <| .cons (.str _) <| .cons (.str _) <| .cons (.str _) <| .cons (.str _) <|
        .cons (.tup (.inl (.inl (nw_at (o' := o') ht (none_of t2 n2) (g3 _ _ upd_same)))) .nil) <| .cons (.lst (.inl (.inl (nw_at (o' := o') ht (none_of t3 n3) (g4 _ _ upd_same)))) .nil) <| .cons (.dic (.inl (nw_at (o' := o') ht (none_of t4 n4) (g5 _ _ upd_same))) .nil) <|
        .cons (.tup (.inl (.inl (nw_at (o' := o') ht (none_of t5 n5) (g6 _ _ upd_same)))) (.cons (.int _) .nil)) <| .cons (.lst (.inl (.inl (nw_at (o' := o') ht (none_of t6 n6) (g7 _ _ upd_same)))) (.cons (.int _) .nil)) <|
        .cons (.dic (.inl (nw_at (o' := o') ht (none_of t7 n7) (g8 _ _ upd_same))) (.cons (k := .inr "x") (.int _) .nil)) <|
        .cons (.tup (.inl (.inl (nw_at (o' := o') ht (none_of t8 n8) (g9 _ _ upd_same)))) (.cons (.int _) (.cons (.str _) (.cons (.str _) .nil)))) <|
        .cons (.tup (.inl (.inl (nw_at (o' := o') ht (none_of t9 n9) (g10 _ _ upd_same)))) (.cons (.str _) .nil)) <| .cons (.lst (.inl (.inl (nw_at (o' := o') ht (none_of t10 n10) (g11 _ _ upd_same)))) (.cons (.str _) .nil)) <|
        .cons (.str _) .nil) hv
    obtain ⟨d, h1, h2⟩ := hd
    refine q v d _ h2 (Sv.all (ds := ds) (by decide +kernel) h1) (strA_all (ds := ds) (by decide +kernel) h1) ⟨fun b u hb ne => ?_, _, upd_same, ho'⟩
    rw [upd_ne ne]
    exact N12.s _ _ (S1 _ _ (N1.s _ _ hb))
/-- what was there is there, and the tape -/
def Kp (Hs : Hp) (t : Addr) (H : Hp) : Prop := (∀ b u, Hs b = some u → H b = some u) ∧ ∃ o, H t = some o ∧ IsTape o
theorem Kp.turn {Hs H : Hp} {t : Addr} {o : HO} (k : Kp Hs t H) (nt : Hs t = none) (ho : IsTape o) : Kp Hs t (upd H t o) :=
  ⟨fun b u h => (upd_ne fun e => by rw [e, nt] at h; cases h).trans (k.1 b u h), o, upd_same, ho⟩
theorem Kp.nxt {Hs H H' : Hp} {t : Addr} (k : Kp Hs t H) (nt : Hs t = none) (n : Nxt t H H') : Kp Hs t H' :=
  ⟨fun b u h => n.keep b u (k.1 b u h) (fun e => by rw [e, nt] at h; cases h), n.tape⟩
theorem Kp.same {Hs H H' : Hp} {t : Addr} (k : Kp Hs t H) (s : Same H H') : Kp Hs t H' :=
  ⟨fun b u h => s _ _ (k.1 b u h), let ⟨o, h1, h2⟩ := k.2; ⟨o, s _ _ h1, h2⟩⟩
/-- .. and what is drawn of a value stays -/
structure Kq (Hs G : Hp) (t : Addr) (H : Hp) : Prop where
  kp : Kp Hs t H
  g : Same G H
theorem Kq.turn {Hs G H : Hp} {t : Addr} {o : HO} (k : Kq Hs G t H) (nt : Hs t = none) (gt : G t = none) (ho : IsTape o) : Kq Hs G t (upd H t o) :=
  ⟨k.kp.turn nt ho, fun b u h => (upd_ne fun e => by rw [e, gt] at h; cases h).trans (k.g b u h)⟩
theorem Kq.nxt {Hs G H H' : Hp} {t : Addr} (k : Kq Hs G t H) (nt : Hs t = none) (gt : G t = none) (n : Nxt t H H') : Kq Hs G t H' :=
  ⟨k.kp.nxt nt n, fun b u h => n.keep b u (k.g b u h) fun e => by rw [e, gt] at h; cases h⟩
theorem Kq.same {Hs G H H' : Hp} {t : Addr} (k : Kq Hs G t H) (s : Same H H') : Kq Hs G t H' := ⟨k.kp.same s, k.g.trans s⟩
theorem Kq.put {Hs G H : Hp} {t p : Addr} {o : HO} (k : Kq Hs G t H) (tp : t ≠ p) (hp : Hs p = none) (gp : G p = none) : Kq Hs G t (upd H p o) :=
  ⟨⟨fun b u h => (upd_ne fun e => by rw [e, hp] at h; cases h).trans (k.kp.1 b u h), let ⟨o', h1, h2⟩ := k.kp.2; ⟨o', (upd_ne tp).trans h1, h2⟩⟩,
    fun b u h => (upd_ne fun e => by rw [e, gp] at h; cases h).trans (k.g b u h)⟩
theorem Kq.no {Hs G H : Hp} {t p : Addr} (k : Kq Hs G t H) (n : H p = none) : Hs p = none ∧ G p = none ∧ t ≠ p := by
  refine ⟨?_, none_of k.g n, fun e => ?_⟩
  · cases e : Hs p with
    | none => rfl
    | some u => rw [k.kp.1 p u e] at n; cases n
  · obtain ⟨o, h, _⟩ := k.kp.2
    rw [e, n] at h
    cases h
theorem repl_flat (z : Str) (n : Nat) : (List.replicate n [V.str z]).flatten = (List.replicate n z).map V.str := by
  induction n with
  | zero => rfl
  | succ n ih => rw [List.replicate_succ, List.replicate_succ, List.flatten_cons, ih]; rfl
theorem tot_repl (z : Str) (n : Nat) : tot (List.replicate n z) = n * (z.length + 1) := by
  induction n with
  | zero => simp [tot]
  | succ n ih => rw [List.replicate_succ, tot_cons, ih, Nat.add_mul, Nat.one_mul, Nat.add_comm]
theorem asA_rep {z : Str} {n : Nat} (h : asA z = true) : asA (repS z n) = true := asA_sub h fun c hc => repS_mem hc
theorem tot_all {T : Nat} : ∀ {ys : List Str}, (∀ y ∈ ys, y.length + 1 ≤ T) → tot ys ≤ ys.length * T
  | [], _ => Nat.zero_le _
  | y :: ys, h => by
    rw [tot_cons, List.length_cons, Nat.add_mul, Nat.one_mul]
    have := h y (.head _)
    have := tot_all fun x hx => h x (.tail _ hx)
    omega
theorem ix100 {n : Nat} {k : Int} (k0 : 0 ≤ k) (k1 : k < n) : ixN n k = some k.toNat := by
  unfold ixN
  rw [if_pos k0, if_pos k1]
/-- a text that may be read -/
structure LT (z : Str) : Prop where
  a : asA z = true
  l : z.length ≤ 90000
  c : cn z ≤ 250
structure MT (z : Str) : Prop where
  a : asA z = true
  l : z.length ≤ 78000
  c : cn z ≤ 70
def spLong (K : PySem.W.Frag) : Sp := fun vs H Q _ => ∃ (t : Addr) (o : HO), vs = [.ref t] ∧ H t = some o ∧ IsTape o ∧
  ∀ (p : Addr) (zs : List Str) H', H p = none → p ≠ t → H' p = some (.lst (zs.map V.str)) → zs.length = 4 → (∀ z ∈ zs, LT z) → Nxt t H H' → Q (.ref p) H'
theorem dx_repl {K : PySem.W.Frag} {H : Hp} {q : Addr} (h : H q = some (.tup [])) : ∀ n : Nat, DxAll K H (List.replicate n (.ref q)) ((List.replicate n ([] : List WR)).map wsD)
  | 0 => .nil
  | n + 1 => by
    rw [List.replicate_succ, List.replicate_succ, List.map_cons]
    exact .cons (.tup (.inl (.inl h)) .nil) (dx_repl h n)
theorem dxa_set {K : PySem.W.Frag} {H : Hp} : ∀ {us : List V} {ds : List PyData} {k : Nat} {v : V} {d : PyData}, DxAll K H us ds → Dx K H v d → DxAll K H (us.set k v) (ds.set k d)
  | [], [], _, _, _, h, _ => by simpa using h
  | u :: us, e :: ds, 0, v, d, .cons _ h, hv => .cons hv h
  | u :: us, e :: ds, k + 1, v, d, .cons hu h, hv => .cons hu (dxa_set h hv)
theorem sc__law_long_texts : FnScope ["_law_tape_here", "_law_found_here", "_law_many", "_law_rows", "_law_turn", "_law_lines", "_law_at", "_law_wrong"] ["_law_tape_here"] (defScope s__law_long_texts) :=
  ⟨rfl, rfl, rfl, by decide +kernel, rfl, by decide +kernel, by decide +kernel⟩
theorem ok_long {f : Addr} {fd : FuncData} (F : Fun K "_law_long_texts" "_law_long_texts" s__law_long_texts f fd) (B : Bl mg)
    (D__law_pick : Ce P w K mg base CX0 1 "_law_pick" ["_law_tape_here", "_law_many"] spPick) (D__law_one_of : Ce P w K mg base CX0 2 "_law_one_of" ["_law_tape_here", "_law_items"] (spOne K))
    (D__law_some_marking : Ce P w K mg base CX0 5 "_law_some_marking" ["_law_tape_here", "_law_many"] (spSMg K))
    (D__law_marking_text : Ce P w K mg base CX0 2 "_law_marking_text" ["_law_story"] (spMgT K)) :
    FnG P w K mg base CX0 6 f fd ["_law_tape_here"] (spLong K) := by
  refine fn_q F sc__law_long_texts (fun vs H Q E h => ?_) (fun cdv A outer s H vs Q E hr hG h => ?_)
  · obtain ⟨t, o, rfl, _⟩ := h
    rfl
  · obtain ⟨t, o, rfl, ht, ho, q⟩ := h
    have hu := hu_of hr
    refine ⟨_, (pss_cons (ps_set (i := 1) sc__law_long_texts.nd rfl (Or.inl rfl) (pe_lst pa_nil))
      (pss_cons (ps_for PassesOwn.never rfl (pi_tup (pe_tup (pa_cons pe_int (pa_cons pe_int (pa_cons pe_int pa_nil))))) (pg_name (i := 2) sc__law_long_texts.nd rfl (Or.inl rfl)) (pss_cons (ps_set (i := 3) sc__law_long_texts.nd rfl (Or.inl rfl) (pe_op op_rep (pe_lst (pa_cons (pe_tup pa_nil) pa_nil)) (pv 2)))
      (pss_cons (ps_for PassesOwn.never rfl (pi_range1 (by rfl) B.n_range (pa_cons (pe_op op_add pe_int (pe_ce D__law_pick (hr.mono (by decide)) hG (pa_cons (pv 0) (pa_cons pe_int pa_nil)) pass0)) pa_nil)) (pg_name (i := 4) sc__law_long_texts.nd rfl (Or.inl rfl)) (pss_one (ps_asg (pe_ix ix_tup (pe_ce D__law_some_marking (hr.mono (by decide)) hG (pa_cons (pv 0) (pa_cons pe_int pa_nil)) pass0) pe_int (fun _ _ => rfl)) (pg_sub (pv 3) (pe_ce D__law_pick (hr.mono (by decide)) hG (pa_cons (pv 0) (pa_cons (pv 2) pa_nil)) pass0) set_list))))
      (pss_one (ps_expr (pe_bm PySem.F.plainAttrs_list PySem.F.slot_list_append PySem.F.type_list_append mt_append (pv 1) (pa_cons (pe_ce D__law_marking_text (hr.mono (by decide)) hG (pa_cons (pe_callTy call_tuple_of (by rfl) B.n_tuple (by decide +kernel) (pa_cons (pv 3) pa_nil)) pa_nil) pass0) pa_nil)))))))
      (pss_cons (ps_set (i := 5) sc__law_long_texts.nd rfl (Or.inl rfl) (pe_bm PySem.F.plainAttrs_str PySem.F.slot_str_split PySem.F.type_str_split mt_split (pe_ix ix_list (pv 1) pe_int (fun _ _ => rfl)) (pa_cons pe_str pa_nil)))
      (pss_cons (ps_set (i := 6) sc__law_long_texts.nd rfl (Or.inl rfl) (pe_ce D__law_pick (hr.mono (by decide)) hG (pa_cons (pv 0) (pa_cons (pe_op op_add (pe_callB call_len_seq (by rfl) B.n_len (by decide +kernel) (pa_cons (pv 5) pa_nil)) pe_int) pa_nil)) pass0))
      (pss_cons (ps_set (i := 7) sc__law_long_texts.nd rfl (Or.inl rfl) (pe_ce D__law_one_of (hr.mono (by decide)) hG (pa_cons (pv 0) (pa_cons (pe_lst (pa_cons pe_str (pa_cons pe_str (pa_cons pe_str (pa_cons pe_str (pa_cons pe_str (pa_cons pe_str pa_nil))))))) pa_nil)) pass0))
      (pss_one (ps_ret (pe_op op_cat (pv 1) (pe_lst (pa_cons (pe_bm PySem.F.plainAttrs_str PySem.F.slot_str_join PySem.F.type_str_join mt_join pe_str (pa_cons (pe_op op_cat (pe_op op_cat (pe_slice sl_list (pv 5) po_none (po_some (pv 6))) (pe_lst (pa_cons (pv 7) pa_nil))) (pe_slice sl_list (pv 5) (po_some (pv 6)) po_none)) pa_nil)) pa_nil)))))))))), ?_⟩
    have lz : ∀ {n : Nat}, n ≤ 1000 → n ≤ sizeLine := fun h => Nat.le_trans h (by decide)
    have N0 : Nxt t H H := ⟨fun b u h _ => h, o, ht, ho⟩
    refine ⟨lz (n := 0) (by decide), fun p np => ?_⟩
    obtain ⟨pt, hp0⟩ := nx_new N0 np
    have N1 : Nxt t H (upd H p (.lst [])) := N0.put0 hp0 (Ne.symm pt)
    have hp1 := upd_same (H := H) (a := p) (o := .lst [])
    generalize upd H p (.lst []) = H1 at N1 hp1 ⊢
    let Sg (c2 c3 c4 : Option V) : L2.St := [some (.ref t), some (.ref p), c2, c3, c4, none, none, none]
    dsimp only [gName]
    refine Rm.seq_mid (fun σ' H' => (∃ c2 c3 c4, σ' = Sg c2 c3 c4) ∧ Nxt t H H' ∧ ∃ zs : List Str, H' p = some (.lst (zs.map V.str)) ∧ zs.length = 3 ∧ ∀ z ∈ zs, MT z) ?_ (fun N hN => ?_)
    rotate_left
    · refine ⟨lz (n := 3) (by decide), fun pT nT => ⟨pT, rfl, ⟨_, .inl (.inl upd_same)⟩, ?_⟩⟩
      obtain ⟨Tt, hT0⟩ := nx_new N1 nT
      have pTp : pT ≠ p := fun e => by rw [e, hp1] at nT; cases nT
      have N2 := N1.go (same_new (o := .tup [V.int 60, .int 61, .int 61]) nT)
      have hT2 := upd_same (H := H1) (a := pT) (o := .tup [V.int 60, .int 61, .int 61])
      have hp2 := same_new (o := .tup [V.int 60, .int 61, .int 61]) nT _ _ hp1
      generalize upd H1 pT (.tup [V.int 60, .int 61, .int 61]) = H2 at N2 hT2 hp2 ⊢
      refine for_tup (fun i σ H' => (∃ c2 c3 c4, σ = Sg c2 c3 c4) ∧ Nxt t H H' ∧ H' pT = some (.tup [V.int 60, .int 61, .int 61]) ∧ ∃ zs : List Str, H' p = some (.lst (zs.map V.str)) ∧ zs.length = i ∧ ∀ z ∈ zs, MT z)
        ⟨⟨_, _, _, rfl⟩, N2, hT2, [], hp2, rfl, fun _ h => by cases h⟩ (fun i σ H' _ e => .inl (.inl e.2.2.1)) ?_ (fun σ H' ⟨a, b, _, c⟩ => hN _ _ ⟨a, b, c⟩)
      rintro i x σ H3 hx ⟨⟨c2, c3, c4, rfl⟩, N3, hT3, zs, hp3, lzs, hzs⟩
      obtain ⟨many, m60, m61, rfl⟩ : ∃ k : Nat, 60 ≤ k ∧ k ≤ 61 ∧ x = .int (k : Int) := by
        have m := List.mem_of_getElem? hx
        simp only [List.mem_cons, List.not_mem_nil, or_false] at m
        rcases m with e | e | e
        · exact ⟨60, by decide, by decide, e⟩
        · exact ⟨61, by decide, by decide, e⟩
        · exact ⟨61, by decide, by decide, e⟩
      have i3 : i < 3 := (List.getElem?_eq_some_iff.mp hx).1
      clear hx
      refine ⟨lz (n := 0) (by decide), fun p5 n5 => ⟨lz (n := 1) (by decide), fun p6 n6 => ?_⟩⟩
      refine ⟨_, rfl, p6, (many : Int), [.ref p5], rfl, rfl, upd_same, by omega, by omega, lz (by simp; omega), fun r nr => ?_⟩
      have hrep : (List.replicate (many : Int).toNat [V.ref p5]).flatten = List.replicate many (V.ref p5) := by
        rw [Int.toNat_natCast]
        clear nr
        clear m60 m61
        induction many with
        | zero => rfl
        | succ n ih => rw [List.replicate_succ, List.replicate_succ, List.flatten_cons, ih]; rfl
      rw [hrep]
      have s5 := same_new (o := .tup []) n5
      have s6 := same_new (o := .lst [V.ref p5]) n6
      have s7 := same_new (o := .lst (List.replicate many (V.ref p5))) nr
      have s57 := (s5.trans s6).trans s7
      have N4 := N3.go s57
      have h5 := (s6.trans s7) _ _ (upd_same (H := H3) (a := p5) (o := .tup []))
      have hr4 := upd_same (H := upd (upd H3 p5 (.tup [])) p6 (.lst [V.ref p5])) (a := r) (o := .lst (List.replicate many (V.ref p5)))
      have hT4 := s57 _ _ hT3
      have hp4 := s57 _ _ hp3
      have nr3 : H3 r = none := none_of (s5.trans s6) nr
      obtain ⟨rt, hr0⟩ := nx_new N3 nr3
      have rp : r ≠ p := fun e => by rw [e, hp3] at nr3; cases nr3
      have rT : r ≠ pT := fun e => by rw [e, hT3] at nr3; cases nr3
      generalize upd (upd (upd H3 p5 (.tup [])) p6 (.lst [V.ref p5])) r (.lst (List.replicate many (V.ref p5))) = H4 at N4 h5 hr4 hT4 hp4 ⊢
      clear n5 n6 nr s5 s6 s7 s57 nr3 hrep
      dsimp only [gName]
      refine Rm.seq_mid (fun σ' H' => (∃ c4, σ' = Sg (some (.int (many : Int))) (some (.ref r)) c4) ∧ Nxt t H H' ∧ H' pT = some (.tup [V.int 60, .int 61, .int 61]) ∧ H' p = some (.lst (zs.map V.str)) ∧
        ∃ (us : List V) (g : MG), H' r = some (.lst us) ∧ DxAll K H' us (g.map wsD) ∧ g.length = many ∧ szG g ≤ 70 ∧ ∀ ws ∈ g, ws.length ≤ 3 ∧ ∀ w ∈ ws, okR w = true) ?_ (fun N hN => ?_)
      rotate_left
      · obtain ⟨_, o4, ht4, ho4⟩ := id N4
        refine ⟨_, rfl, t, o4, 3, rfl, ht4, ho4, by decide, by decide, fun n o5 n0 n1 ho5 => ⟨_, _, rfl, rfl, _, rfl, by omega, by omega,
          for_range (fun j σ H' => (∃ c4, σ = Sg (some (.int (many : Int))) (some (.ref r)) c4) ∧ Nxt t H H' ∧ H' pT = some (.tup [V.int 60, .int 61, .int 61]) ∧ H' p = some (.lst (zs.map V.str)) ∧
            ∃ (us : List V) (g : MG), H' r = some (.lst us) ∧ DxAll K H' us (g.map wsD) ∧ g.length = many ∧ szG g ≤ many + 3 * j ∧ ∀ ws ∈ g, ws.length ≤ 3 ∧ ∀ w ∈ ws, okR w = true)
          ⟨⟨_, rfl⟩, N4.turn ho5, (upd_ne Tt).trans hT4, (upd_ne pt).trans hp4, _, List.replicate many [], (upd_ne rt).trans hr4, dx_repl ((upd_ne fun e => by obtain ⟨_, _, rfl, _⟩ := ho4; rw [e, ht4] at h5; cases h5).trans h5) many, by simp, by rw [szG_repl]; omega, fun ws hw => by rw [(List.mem_replicate.mp hw).2]; exact ⟨by decide, fun _ h => by cases h⟩⟩ ?_ ?_⟩⟩
        rotate_left
        · rintro σ H' ⟨a1, a2, a3, a4, us, g, b1, b2, b3, b4, b5⟩
          exact hN _ _ ⟨a1, a2, a3, a4, us, g, b1, b2, b3, by omega, b5⟩
        rintro j σ H5 hj ⟨⟨c4, rfl⟩, N5, hT5, hp5, us, g, hr5, hd5, lg, sg, hg⟩
        obtain ⟨_, o6, ht6, ho6⟩ := id N5
        refine ⟨_, rfl, t, o6, 1, rfl, ht6, ho6, by decide, by decide, fun l g1 H6 ok1 lg1 l31 hx1 lt N6 => ?_⟩
        obtain ⟨ws1, rfl⟩ : ∃ ws, g1 = [ws] := by
          match g1, lg1 with
          | [], h => simp at h
          | [ws], _ => exact ⟨ws, rfl⟩
          | _ :: _ :: _, h => simp at h; omega
        obtain ⟨vs1, hl6, v1, rfl, hv1⟩ : ∃ vs1, SqT K H6 l vs1 ∧ ∃ v1, vs1 = [v1] ∧ Dx K H6 v1 (wsD ws1) := by
          cases hx1 with
          | tup hs hx =>
            cases hx with
            | cons h1 h2 =>
              cases h2
              exact ⟨_, hs, _, rfl, h1⟩
        obtain ⟨_, o7, ht7, ho7⟩ := id N6
        have hT6 := N6.keep _ _ hT5 Tt
        have hp6 := N6.keep _ _ hp5 pt
        have hr6 := N6.keep _ _ hr5 rt
        have hd6 := dxa_keepT (TupK.nxt ht6 ho6 N6) (tO_mgs g) hd5
        have lus := dxa_len hd5
        rw [List.length_map] at lus
        refine ⟨l, _, 0, v1, rfl, rfl, hl6, atI_nat (j := 0) rfl, ?_⟩
        refine ⟨_, rfl, _, rfl, _, rfl, t, o7, (many : Int), rfl, ht7, ho7, by omega, by omega, fun k o8 k0 k1 ho8 => ?_⟩
        have N7 := (N5.trans N6).turn ho8
        have n7 : Nxt t H6 (upd H6 t o8) := ⟨fun b u hb ne => by rw [upd_ne ne]; exact hb, o8, upd_same, ho8⟩
        have k7 := TupK.nxt ht7 ho7 n7
        have hd7 := dxa_keepT k7 (tO_mgs g) hd6
        have hv7 : DxAll K (upd H6 t o8) [v1] ([ws1].map wsD) := dxa_keepT k7 (tO_mgs [ws1]) (.cons hv1 .nil)
        have hT7 := (upd_ne (o := o8) Tt).trans hT6
        have hp7 := (upd_ne (o := o8) pt).trans hp6
        have hr7 := (upd_ne (o := o8) rt).trans hr6
        generalize upd H6 t o8 = H7 at N7 hd7 hv7 hT7 hp7 hr7 ⊢
        refine ⟨r, us, k, k.toNat, rfl, rfl, hr7, ix100 k0 (by omega), ?_⟩
        have k8 : TupK H7 (upd H7 r (.lst (us.set k.toNat v1))) := TupK.put hr7 (fun _ e => by cases e) fun _ _ e => by cases e
        have hd8 := dxa_keepT k8 (tO_mgs g) hd7
        have hv8 : DxAll K (upd H7 r (.lst (us.set k.toNat v1))) [v1] ([ws1].map wsD) := dxa_keepT k8 (tO_mgs [ws1]) hv7
        have sz := szG_set (g := g) (k := k.toNat) (ws := ws1)
        have l3 := l31 ws1 (by simp)
        refine ⟨⟨_, rfl⟩, N7.put0 hr0 (Ne.symm rt), (upd_ne (Ne.symm rT)).trans hT7, (upd_ne (Ne.symm rp)).trans hp7, _, g.set k.toNat ws1, upd_same, ?_, by rw [List.length_set]; exact lg, by omega, fun ws hw => ?_⟩
        · rw [List.map_set]
          cases hv8 with
          | cons h1 _ => exact dxa_set hd8 h1
        · rcases List.mem_or_eq_of_mem_set hw with h | h
          · exact hg ws h
          · rw [h]; exact ⟨l3, (ok1.w ws1 (by simp)).2⟩
      rintro _ H5 ⟨⟨c4, rfl⟩, N5, hT5, hp5, us, g, hr5, hd5, lg, sg, hg⟩
      have ok1 : okG1 g := ⟨by omega, fun ws hw => ⟨by have := (hg ws hw).1; omega, (hg ws hw).2⟩⟩
      have lus := dxa_len hd5
      rw [List.length_map] at lus
      refine ⟨_, rfl, .inl ⟨rfl, _, .inl (.inl hp5)⟩, _, rfl, r, us, rfl, .inl ⟨.inl (.inl hr5), fun l nl => ?_⟩⟩
      have s6 := same_new (o := .tup us) nl
      refine ⟨.ref l, g, rfl, .tup (.inl (.inl upd_same)) (hd5.upR (.of s6)), ok1, fun H6 s7 => ?_⟩
      have s67 := s6.trans s7
      refine ⟨p, _, _, rfl, rfl, s67 _ _ hp5, by rw [List.length_map]; exact Nat.lt_of_le_of_lt (show zs.length ≤ 3 by omega) (by decide), ?_⟩
      refine ⟨⟨_, _, _, rfl⟩, (N5.go s67).put0 hp0 (Ne.symm pt), (upd_ne pTp).trans (s67 _ _ hT5), zs ++ [mgT g], by rw [upd_same, List.map_append]; rfl, by rw [List.length_append, lzs]; rfl, fun z hz => ?_⟩
      rcases List.mem_append.mp hz with hz | hz
      · exact hzs z hz
      · rw [List.mem_singleton.mp hz]
        exact ⟨ok1.asc, Nat.le_trans ok1.tlenS (by omega), Nat.le_trans ok1.cnS sg⟩
    rintro _ H2 ⟨⟨c2, c3, c4, rfl⟩, N2, zs, hp2, lzs, hzs⟩
    obtain ⟨z0, z1, z, rfl⟩ : ∃ a b c, zs = [a, b, c] := by
      match zs, lzs with
      | [a, b, c], _ => exact ⟨a, b, c, rfl⟩
    obtain ⟨za, zl, zc⟩ := hzs z (by simp)
    have zsl : z.length + 2 ≤ sizeLine := Nat.le_trans (show _ ≤ 90000 by omega) (by decide)
    refine ⟨_, rfl, p, _, 2, .str z, rfl, rfl, .inl (.inl hp2), atI_nat (j := 2) rfl, ?_⟩
    refine ⟨rfl, z, "\n", rfl, rfl, by decide +kernel, zsl, fun pl npl => ?_⟩
    dsimp only [gName]
    have la : ∀ y ∈ Txt.split z "\n", asA y = true := fun y hy => asA_sub za fun c hc => split_sub hy hc
    have lt : tot (Txt.split z "\n") ≤ z.length + 1 := tot_split sep_nl
    have ln : nls (cn "\n") (Txt.split z "\n") = cn z + 1 := by rw [nls_split sep_nl, cn_nl]
    have ll := tot_len (Txt.split z "\n")
    have s3 := same_new (o := .lst ((Txt.split z "\n").map V.str)) npl
    have N3 := N2.go s3
    have hl3 := upd_same (H := H2) (a := pl) (o := .lst ((Txt.split z "\n").map V.str))
    have hp3 := s3 _ _ hp2
    obtain ⟨lt', _⟩ := nx_new N2 npl
    generalize upd H2 pl (.lst ((Txt.split z "\n").map V.str)) = H3 at s3 N3 hl3 hp3 ⊢
    obtain ⟨_, o3, ht3, ho3⟩ := id N3
    refine ⟨_, rfl, _, rfl, pl, _, rfl, .inl (.inl (.inl hl3)), _, _, rfl, rfl, t, o3, _, rfl, ht3, ho3, by rw [List.length_map]; omega, by rw [List.length_map]; omega, fun k o4 k0 k1 ho4 => ?_⟩
    dsimp only [gName]
    have N4 := N3.turn ho4
    have hl4 := (upd_ne (o := o4) lt').trans hl3
    have hp4 := (upd_ne (o := o4) pt).trans hp3
    generalize upd H3 t o4 = H4 at N4 hl4 hp4 ⊢
    refine ⟨_, rfl, lz (n := 6) (by decide), fun p6 n6 => ?_⟩
    dsimp only [tNil]
    refine one_of (E := E0) (nx_own N4.tape.choose_spec.1 N4.tape.choose_spec.2) n6 (by decide) (by decide) fun v m H5 N5 => ?_
    obtain ⟨wr, rfl, wok⟩ : ∃ y : Str, v = .str y ∧ asA y = true ∧ y.length ≤ 10 ∧ cn y = 0 := by
      have ok : ∀ y ∈ (["at 0", "At 1", "mark x 0", "set 0", "at 61", "at 62"] : List Str), asA y = true ∧ y.length ≤ 10 ∧ cn y = 0 := by decide +kernel
      have m : v ∈ (["at 0", "At 1", "mark x 0", "set 0", "at 61", "at 62"] : List Str).map V.str := m
      obtain ⟨y, hy, rfl⟩ := List.mem_map.mp m
      exact ⟨y, rfl, ok y hy⟩
    obtain ⟨wa, wl, wc⟩ := wok
    have N45 := N4.trans N5
    have hl5 := N5.keep _ _ hl4 lt'
    have hp5 := N5.keep _ _ hp4 pt
    dsimp only [gName]
    have td := tot_td (Txt.split z "\n") k.toNat
    have nd := nls_td (cn "\n") (Txt.split z "\n") k.toNat
    refine ⟨_, rfl, rfl, ok_cat (c := cn "\n") (ok_cat (ok_slA la k0 (by exact fun H R h => ⟨_, rfl, h⟩) (by exact fun H R h => h) (by exact fun H R h => ⟨_, rfl, _, rfl, h⟩)) (ok_sgl (T := 11) (N := 1) (z := wr) wa (by omega) (by rw [wc]; decide +kernel) (by exact fun H R h => ⟨_, rfl, h⟩)) (Nat.le_trans (show _ ≤ 100000 by omega) (by decide))) (ok_slB la k0 (by exact fun H R h => ⟨_, rfl, h⟩) (by exact fun H R h => ⟨_, rfl, _, rfl, h⟩) (by exact fun H R h => h none)) (Nat.le_trans (show _ ≤ 100000 by omega) (by decide)) _ _ hl5 fun pj H6 s6 gl => ?_⟩
    obtain ⟨ys, a1, b1, d1, e1⟩ := gl
    have tq := tot_eq ys
    have nl1 : ("\n" : Str).length = 1 := by decide +kernel
    refine ⟨"\n", pj, ys, rfl, rfl, .inl (.inl (.inl a1)), by rw [nl1]; omega, lz (n := 1) (by decide), fun pq nq => ?_⟩
    have s7 := s6.trans (same_new (o := .lst [V.str (Txt.join "\n" ys)]) nq)
    refine ⟨p, pq, _, _, rfl, rfl, s7 _ _ hp5, upd_same, lz (n := 4) (by decide), fun pr nr => ?_⟩
    have s8 := s7.trans (same_new (o := .lst (([z0, z1, z].map V.str) ++ [V.str (Txt.join "\n" ys)])) nr)
    have N8 := N45.go s8
    obtain ⟨rt', hr0⟩ := nx_new (N45.go s7) nr
    refine q pr [z0, z1, z, Txt.join "\n" ys] _ hr0 rt' (by rw [upd_same]; rfl) rfl (fun y hy => ?_) N8
    have mt : ∀ y ∈ [z0, z1, z], LT y := fun y hy => by
      obtain ⟨a, b, c⟩ := hzs y hy
      exact ⟨a, Nat.le_trans b (by decide), Nat.le_trans c (by decide)⟩
    have hy : y ∈ [z0, z1, z] ∨ y = Txt.join "\n" ys := by
      simp only [List.mem_cons, List.not_mem_nil, or_false] at hy ⊢
      rcases hy with h | h | h | h
      · exact .inl (.inl h)
      · exact .inl (.inr (.inl h))
      · exact .inl (.inr (.inr h))
      · exact .inr h
    rcases hy with h | h
    · exact mt y h
    · rw [h]
      refine ⟨asA_join (by decide +kernel) b1, ?_, ?_⟩
      · have := Rm.join_tot (y := "\n") (by decide +kernel) ys
        omega
      · have := nls_joinle "\n" ys
        omega
end
end K92

set_option maxRecDepth 100000
set_option maxHeartbeats 800000
namespace K92
open PySem PySem.Spec L2 Rm
open PyProof.Rows hiding St
section
variable {P : Program} {w : World} {K : PySem.W.Frag} {mg : Str → Option Value} {base : Heap}
theorem rdE_in : ∀ {ls : List Str} {i : Nat} {g : MG} {k : Nat}, rdE i g ls = .inl k → k ≤ i + ls.length
  | [], i, g, k, h => by cases h
  | z :: zs, i, g, k, h => by
    have h : (match stG g z with
      | none => Sum.inl (i + 1)
      | some g' => rdE (i + 1) g' zs) = (Sum.inl k : Nat ⊕ MG) := h
    rw [List.length_cons]
    cases s : stG g z with
    | none => rw [s] at h; cases h; omega
    | some g' =>
      rw [s] at h
      have := rdE_in (ls := zs) h
      omega
theorem rdE_ri : ∀ {ls : List Str} {i : Nat} {g g' : MG}, rdE i g ls = .inr g' → rdG g ls = some g'
  | [], i, g, g', h => by cases h; rfl
  | z :: zs, i, g, g', h => by
    have h : (match stG g z with
      | none => Sum.inl (i + 1)
      | some g' => rdE (i + 1) g' zs) = (Sum.inr g' : Nat ⊕ MG) := h
    show (stG g z).bind (fun g1 => rdG g1 zs) = some g'
    cases s : stG g z with
    | none => rw [s] at h; cases h
    | some g1 =>
      rw [s] at h
      exact rdE_ri (ls := zs) h
theorem LT.rd {z : Str} (h : LT z) : SmB (rdR (valM (.str z))) := by
  have l := lines_cn z
  have c := h.c
  show SmB (rdR (rdE 0 [] (linesZ z)))
  cases e : rdE 0 [] (linesZ z) with
  | inl k =>
    have := rdE_in e
    exact smB_line (by omega)
  | inr g => exact smB_told (rdE_ri e) (by omega)
theorem LT.okm {z : Str} (h : LT z) : Okm (.str z) := fun y e => by
  cases e
  exact ⟨h.l, h.a⟩
/-- a case -/
def Cs (K : PySem.W.Frag) (G : Hp) (v : V) : Prop := ∃ d, (∀ H, Same G H → Dx K H v d) ∧ Okm d ∧ SmB d ∧ SmB (rdR (valM d))
theorem cs_str {K : PySem.W.Frag} {G : Hp} {z : Str} (h : LT z) : Cs K G (.str z) := ⟨.str z, fun H _ => .str z, h.okm, smB_text h.a (Nat.le_trans h.l (by decide)), h.rd⟩
theorem cs_any {K : PySem.W.Frag} {G : Hp} {v : V} {d : PyData} (hv : Dx K G v d) (s : Sv d) (a : strA d = true) : Cs K G v := by
  have lt : ∀ z, d = .str z → LT z := fun z e => by
    subst e
    have w := s.wt
    simp only [PyData.weight] at w
    have a : (asA z && decide (cn z ≤ 200)) = true := a
    rw [Bool.and_eq_true] at a
    exact ⟨a.1, Nat.le_trans (show z.length ≤ 1000 from w) (by decide), Nat.le_trans (of_decide_eq_true a.2) (by decide)⟩
  refine ⟨d, fun H x => hv.upR (.of x), fun z e => (by subst e; exact (lt z rfl).okm z rfl), s.sm.smB, ?_⟩
  cases d with
  | str z => exact (lt z rfl).rd
  | _ => exact smB_line (by decide)
def OS1 : List Str := ["", "1", "0", "01", "at", "set", "mark", "none", "x", "locks", "hold", "1,", "1000001"]
def OS2 : List Str := ["keep,", "changes", ","]
def OS : List Str := OS1 ++ OS2
theorem os_ok : ∀ y ∈ OS, asA y = true ∧ y.length ≤ 10 ∧ cn y = 0 := by decide +kernel
def bB : Nat → Nat
  | 0 => 10029
  | n + 1 => 2 * bB n + 40
def cB : Nat → Nat
  | 0 => 12
  | n + 1 => 2 * cB n + 3
theorem bB_le {m : Nat} (h : m < 3) : bB m ≤ 45000 := by
  match m, h with
  | 0, _ => exact (by decide)
  | 1, _ => exact (by decide)
  | 2, _ => exact (by decide)
theorem bB_le3 {m : Nat} (h : m ≤ 3) : bB m ≤ 90000 ∧ cB m ≤ 250 := by
  match m, h with
  | 0, _ => exact (by decide)
  | 1, _ => exact (by decide)
  | 2, _ => exact (by decide)
  | 3, _ => exact (by decide)
def SGN : Str := " !\"#$&'()*+,-./0123456789:;<=>?@ABCDEFGHIJKLMNOPQRSTUVWXYZ[\\]^_`abcdefghijklmnopqrstuvwxyz{|}~"
theorem sgn_ok : 1 ≤ SGN.length ∧ SGN.length ≤ 1000 ∧ asA SGN = true ∧ 10 ∉ SGN.cps.toList := by decide +kernel
/-- texts in a list -/
structure LQ (ys : List Str) (n T N : Nat) : Prop where
  l : ys.length ≤ n
  a : ∀ y ∈ ys, asA y = true
  t : ∀ y ∈ ys, y.length + 1 ≤ T
  c : ∀ y ∈ ys, cn y ≤ N
theorem LQ.snoc {ys : List Str} {n T N : Nat} {y : Str} (h : LQ ys n T N) (a : asA y = true) (t : y.length + 1 ≤ T) (c : cn y ≤ N) : LQ (ys ++ [y]) (n + 1) T N := by
  refine ⟨by rw [List.length_append, List.length_singleton]; have := h.l; omega, fun x hx => ?_, fun x hx => ?_, fun x hx => ?_⟩
  all_goals
    rcases List.mem_append.mp hx with m | m
  · exact h.a x m
  · rw [List.mem_singleton.mp m]; exact a
  · exact h.t x m
  · rw [List.mem_singleton.mp m]; exact t
  · exact h.c x m
  · rw [List.mem_singleton.mp m]; exact c
theorem LQ.tot {ys : List Str} {n T N : Nat} (h : LQ ys n T N) : tot ys ≤ n * T := Nat.le_trans (tot_all h.t) (Nat.mul_le_mul_right _ h.l)
theorem nls_all {c N : Nat} : ∀ {ys : List Str}, (∀ y ∈ ys, cn y ≤ N) → nls c ys ≤ ys.length * (N + c)
  | [], _ => Nat.zero_le _
  | y :: ys, h => by
    rw [nls_cons, List.length_cons, Nat.add_mul, Nat.one_mul]
    have := h y (.head _)
    have := nls_all (c := c) fun x hx => h x (.tail _ hx)
    omega
theorem num_txt {i : Int} (h : i.natAbs < 10 ^ 30) : asA (sI i) = true ∧ (sI i).length ≤ 31 ∧ cn (sI i) = 0 :=
  ⟨(wk2_num h).wk.sm, (wk2_num h).wk.l31, cn_0 (sI_free (.inl (by decide)))⟩
theorem jtot2 {y : Str} (h : y.length ≤ 2) : ∀ (ys : List Str), (Txt.join y ys).length ≤ tot ys + ys.length := by
  intro ys
  rw [TL.join_eq]
  induction ys with
  | nil => exact Nat.zero_le _
  | cons p l ih =>
    cases l with
    | nil =>
      rw [tot_cons]
      show p.length ≤ _
      omega
    | cons q r =>
      have e : Str.join y (p :: q :: r) = p ++ y ++ Str.join y (q :: r) := rfl
      rw [e, len_app, len_app, tot_cons, List.length_cons]
      omega
theorem sc_law : FnScope ["_law_script", "_law_odd", "_law_wide", "_law_start", "_law_tape_here", "_law_turn", "_law_text", "_law_change", "_law_many", "_law_cases", "_law_signs", "_law_one", "_law_seen", "_law_k"] ["_law_script"] (defScope s_law) :=
  ⟨rfl, rfl, rfl, by decide +kernel, rfl, by decide +kernel, by decide +kernel⟩
theorem ok_law {f : Addr} {fd : FuncData} (F : Fun K "law" "law" s_law f fd) (B : Bl mg)
    (D__law_tape : Ce P w K mg base CX0 1 "_law_tape" ["_law_script", "_law_start"] (spTape K))
    (D__law_pick : Ce P w K mg base CX0 1 "_law_pick" ["_law_tape_here", "_law_many"] spPick)
    (D__law_one_of : Ce P w K mg base CX0 2 "_law_one_of" ["_law_tape_here", "_law_items"] (spOne K))
    (D_oneC : Ce P w K mg base CX0 2 "_law_one_of" ["_law_tape_here", "_law_items"] spOneC)
    (D__law_any : Ce P w K mg base CX0 3 "_law_any" ["_law_tape_here"] (spAnyA K))
    (D__law_some_marking : Ce P w K mg base CX0 5 "_law_some_marking" ["_law_tape_here", "_law_many"] (spSMg K))
    (D__law_marking_text : Ce P w K mg base CX0 2 "_law_marking_text" ["_law_story"] (spMgT K))
    (D__law_bent : Ce P w K mg base CX0 3 "_law_bent" ["_law_tape_here", "_law_text", "_law_odd"] (spBentT K))
    (D__law_long_texts : Ce P w K mg base CX0 6 "_law_long_texts" ["_law_tape_here"] (spLong K))
    (D__law_found : Ce P w K mg base CX0 8 "_law_found" ["_law_text"] (spMgOf K))
    (D__law_marking_of : Ce P w K mg base CX0 4 "_law_marking_of" ["_law_text"] (spMgOf K)) :
    FnG P w K mg base CX0 9 f fd ["_law_script"] (spLaw K) := by
  refine fn_q F sc_law (fun vs H Q E h => ?_) (fun cdv A outer s H vs Q E hr hG h => ?_)
  · obtain ⟨a, ns, rfl, _⟩ := h
    rfl
  · obtain ⟨a, ns, rfl, ha, hn, hb, q⟩ := h
    have hu := hu_of hr
    refine ⟨_, (pss_cons (ps_set (i := 1) sc_law.nd rfl (Or.inl rfl) (pe_lst (pa_cons pe_str (pa_cons pe_str (pa_cons pe_str (pa_cons pe_str (pa_cons pe_str (pa_cons pe_str (pa_cons pe_str (pa_cons pe_str (pa_cons pe_str (pa_cons pe_str (pa_cons pe_str (pa_cons pe_str (pa_cons pe_str pa_nil)))))))))))))))
      (pss_cons (ps_set (i := 1) sc_law.nd rfl (Or.inl rfl) (pe_op op_cat (pv 1) (pe_lst (pa_cons pe_str (pa_cons pe_str (pa_cons pe_str pa_nil))))))
      (pss_cons (ps_set (i := 2) sc_law.nd rfl (Or.inl rfl) (pe_bm PySem.F.plainAttrs_str PySem.F.slot_str_join PySem.F.type_str_join mt_join pe_str (pa_cons (pe_lc (own := [("_law_k", 13)]) (by rfl) sc_law.nd (pi_range1 (by rfl) B.n_range (pa_cons pe_int pa_nil)) (blkOk_by (own := [("_law_k", 13)]) (N := ["_law_script", "_law_odd", "_law_wide", "_law_start", "_law_tape_here", "_law_turn", "_law_text", "_law_change", "_law_many", "_law_cases", "_law_signs", "_law_one", "_law_seen", "_law_k"]) (sc := defScope s_law) (by decide +kernel))
        (fun _ _ _ _ _ => (pg_name (i := 13) sc_law.nd rfl (Or.inl rfl))) (fun _ _ _ _ _ => pts_nil) (fun _ _ _ _ _ => (pe_op op_add_str (pe_callTy call_strIS (by rfl) B.n_str (by decide +kernel) (pa_cons (pe_op op_add pe_int (pv 13)) pa_nil)) pe_str))) pa_nil)))
      (pss_cons (ps_for PassesOwn.never rfl (pi_range1 (by rfl) B.n_range (pa_cons (pe_callB (call_max2 rfl) (by rfl) B.n_max (by decide +kernel) (pa_cons pe_int (pa_cons (pe_callB (call_min2 rfl) (by rfl) B.n_min (by decide +kernel) (pa_cons pe_int (pa_cons (pe_callB call_len_seq (by rfl) B.n_len (by decide +kernel) (pa_cons (pv 0) pa_nil)) pa_nil))) pa_nil))) pa_nil)) (pg_name (i := 3) sc_law.nd rfl (Or.inl rfl)) (pss_cons (ps_set (i := 4) sc_law.nd rfl (Or.inl rfl) (pe_ce D__law_tape (hr.mono (by decide)) hG (pa_cons (pv 0) (pa_cons (pv 3) pa_nil)) pass0))
      (pss_cons (ps_for PassesOwn.never rfl (pi_range1 (by rfl) B.n_range (pa_cons pe_int pa_nil)) (pg_name (i := 5) sc_law.nd rfl (Or.inl rfl)) (pss_cons (ps_set (i := 6) sc_law.nd rfl (Or.inl rfl) (pe_ce D__law_marking_text (hr.mono (by decide)) hG (pa_cons (pe_ce D__law_some_marking (hr.mono (by decide)) hG (pa_cons (pv 4) (pa_cons (pe_op op_add pe_int (pe_ce D__law_pick (hr.mono (by decide)) hG (pa_cons (pv 4) (pa_cons pe_int pa_nil)) pass0)) pa_nil)) pass0) pa_nil) pass0))
      (pss_cons (ps_for PassesOwn.never rfl (pi_range1 (by rfl) B.n_range (pa_cons (pe_op op_add pe_int (pe_ce D__law_pick (hr.mono (by decide)) hG (pa_cons (pv 4) (pa_cons pe_int pa_nil)) pass0)) pa_nil)) (pg_name (i := 7) sc_law.nd rfl (Or.inl rfl)) (pss_one (ps_set (i := 6) sc_law.nd rfl (Or.inl rfl) (pe_ce D__law_bent (hr.mono (by decide)) hG (pa_cons (pv 4) (pa_cons (pv 6) (pa_cons (pv 1) pa_nil))) pass0))))
      (pss_one (ps_if (pt_cmpR op_ne (pe_callB (call_repB hG hr.units) (by rfl) B.n_repr (by decide +kernel) (pa_cons (pe_ce D__law_found (hr.mono (by decide)) hG (pa_cons (pv 6) pa_nil) pass0) pa_nil)) (pe_callB (call_repB hG hr.units) (by rfl) B.n_repr (by decide +kernel) (pa_cons (pe_ce D__law_marking_of (hr.mono (by decide)) hG (pa_cons (pv 6) pa_nil) pass0) pa_nil)) (nomark _)) (pss_one (ps_ret pe_bl)) pss_nil)))))
      (pss_cons (ps_set (i := 8) sc_law.nd rfl (Or.inl rfl) (pe_bm PySem.F.plainAttrs_str PySem.F.slot_str_join PySem.F.type_str_join mt_join pe_str (pa_cons (pe_lc (own := [("_law_k", 13)]) (by rfl) sc_law.nd (pi_range1 (by rfl) B.n_range (pa_cons pe_int pa_nil)) (blkOk_by (own := [("_law_k", 13)]) (N := ["_law_script", "_law_odd", "_law_wide", "_law_start", "_law_tape_here", "_law_turn", "_law_text", "_law_change", "_law_many", "_law_cases", "_law_signs", "_law_one", "_law_seen", "_law_k"]) (sc := defScope s_law) (by decide +kernel))
        (fun _ _ _ _ _ => (pg_name (i := 13) sc_law.nd rfl (Or.inl rfl))) (fun _ _ _ _ _ => pts_nil) (fun _ _ _ _ _ => (pe_op op_add_str pe_str (pe_callTy call_strIS (by rfl) B.n_str (by decide +kernel) (pa_cons (pe_op op_add (pv 13) pe_int) pa_nil))))) pa_nil)))
      (pss_cons (ps_set (i := 9) sc_law.nd rfl (Or.inl rfl) (pe_lst (pa_cons (pe_ce D__law_any (hr.mono (by decide)) hG (pa_cons (pv 4) pa_nil) pass0) (pa_cons pe_str (pa_cons pe_str (pa_cons pe_str (pa_cons pe_str (pa_cons pe_str (pa_cons (pe_op op_add_str pe_str (pv 2)) (pa_cons (pv 8) (pa_cons (pe_slice sl_str (pv 8) po_none (po_some (pe_un un_neg pe_int))) pa_nil)))))))))))
      (pss_cons (ps_set (i := 9) sc_law.nd rfl (Or.inl rfl) (pe_op op_cat (pv 9) (pe_lst (pa_cons pe_str (pa_cons (pe_op op_add_str pe_str (pe_op op_repN pe_str pe_int)) (pa_cons pe_str (pa_cons (pe_op op_add_str (pe_op op_add_str pe_str (pe_op op_repN pe_str pe_int)) pe_str) pa_nil)))))))
      (pss_cons (ps_set (i := 9) sc_law.nd rfl (Or.inl rfl) (pe_op op_cat (pv 9) (pe_ce D__law_long_texts (hr.mono (by decide)) hG (pa_cons (pv 4) pa_nil) pass0)))
      (pss_cons (ps_set (i := 10) sc_law.nd rfl (Or.inl rfl) pe_str)
      (pss_cons (ps_expr (pe_bm PySem.F.plainAttrs_list PySem.F.slot_list_append PySem.F.type_list_append mt_append (pv 9) (pa_cons (pe_op op_add_str (pe_op op_add_str pe_str (pe_ce D_oneC (hr.mono (by decide)) hG (pa_cons (pv 4) (pa_cons (pv 10) pa_nil)) pass0)) pe_str) pa_nil)))
      (pss_one (ps_for PassesOwn.never rfl (pi_list (pe_op op_cat (pv 9) (pe_lst (pa_cons pe_str (pa_cons pe_str (pa_cons pe_str pa_nil)))))) (pg_name (i := 11) sc_law.nd rfl (Or.inl rfl)) (pss_cons (ps_set (i := 12) sc_law.nd rfl (Or.inl rfl) (pe_callB (call_repB hG hr.units) (by rfl) B.n_repr (by decide +kernel) (pa_cons (pv 11) pa_nil)))
      (pss_one (ps_if (PW.pt (pw_or (pt_cmpR op_ne (pe_callB (call_repB hG hr.units) (by rfl) B.n_repr (by decide +kernel) (pa_cons (pe_ce D__law_found (hr.mono (by decide)) hG (pa_cons (pv 11) pa_nil) pass0) pa_nil)) (pe_callB (call_repB hG hr.units) (by rfl) B.n_repr (by decide +kernel) (pa_cons (pe_ce D__law_marking_of (hr.mono (by decide)) hG (pa_cons (pv 11) pa_nil) pass0) pa_nil)) (nomark _)) (pw_or1 (pt_cmpR op_ne (pe_callB (call_repB hG hr.units) (by rfl) B.n_repr (by decide +kernel) (pa_cons (pv 11) pa_nil)) (pv 12) (nomark _))))) (pss_one (ps_ret pe_bl)) pss_nil))))))))))))))
      (pss_one (ps_ret pe_bl)))))), ?_⟩
    have lz : ∀ {n : Nat}, n ≤ 100 → n ≤ sizeLine := fun h => Nat.le_trans h (by decide)
    have lzz : ∀ {n : Nat}, n ≤ 200000 → n ≤ sizeLine := fun h => Nat.le_trans h (by decide)
    have hlen : (ns.map V.int).length = ns.length := List.length_map ..
    refine ⟨lz (n := 13) (by decide), fun pa na => ⟨_, rfl, lz (n := 3) (by decide), fun pb nb => ⟨pa, pb, _, _, rfl, rfl, (same_new nb) _ _ upd_same, upd_same, lz (n := 16) (by decide), fun qa nq => ?_⟩⟩⟩
    have S0 := ((same_new (H := H) (o := .lst (OS1.map V.str)) na).trans (same_new (o := .lst (OS2.map V.str)) nb)).trans (same_new (o := .lst (OS.map V.str)) nq)
    have hq0 := upd_same (H := upd (upd H pa (.lst (OS1.map V.str))) pb (.lst (OS2.map V.str))) (a := qa) (o := .lst (OS.map V.str))
    have eOS : upd (upd (upd H pa (.lst [V.str "", .str "1", .str "0", .str "01", .str "at", .str "set", .str "mark", .str "none", .str "x", .str "locks", .str "hold", .str "1,", .str "1000001"])) pb (.lst [V.str "keep,", .str "changes", .str ","])) qa
      (.lst ([V.str "", .str "1", .str "0", .str "01", .str "at", .str "set", .str "mark", .str "none", .str "x", .str "locks", .str "hold", .str "1,", .str "1000001"] ++ [V.str "keep,", .str "changes", .str ","])) = upd (upd (upd H pa (.lst (OS1.map V.str))) pb (.lst (OS2.map V.str))) qa (.lst (OS.map V.str)) := rfl
    rw [eOS]
    clear eOS
    generalize upd (upd (upd H pa (.lst (OS1.map V.str))) pb (.lst (OS2.map V.str))) qa (.lst (OS.map V.str)) = H0 at S0 hq0 ⊢
    clear na nb nq
    let Sg (c2 c3 c4 c5 c6 c7 c8 c9 c10 c11 c12 c13 : Option V) : L2.St := [some (.ref a), some (.ref qa), c2, c3, c4, c5, c6, c7, c8, c9, c10, c11, c12, c13]
    dsimp only [gName]
    refine Rm.seq_mid (fun σ' H' => (∃ z, asA z = true ∧ z.length ≤ 3000 ∧ cn z = 0 ∧ σ' = Sg (some (.str z)) none none none none none none none none none none none) ∧ Same H0 H') ?_ (fun N hN => ?_)
    rotate_left
    · refine ⟨rfl, 41, rfl, by decide, by decide, fun D nD => ?_⟩
      refine Rm.lc_range (fun k H' => Same H0 H' ∧ ∃ ys : List Str, H' D = some (.lst (ys.map V.str)) ∧ LQ ys k 50 0) ⟨same_new nD, [], upd_same, ⟨Nat.le_refl _, (fun _ h => by cases h), (fun _ h => by cases h), fun _ h => by cases h⟩⟩ ?_ ?_
      · rintro k H' hk ⟨s1, ys, hD, hy⟩
        have lA : (1 + ((0 : Int) + (k : Nat))).natAbs < 10 ^ 30 := by omega
        obtain ⟨n1, n2, n3⟩ := num_txt lA
        have e1 : (" locks hold" : Str).length = 11 := by decide +kernel
        have e2 : asA (" locks hold" : Str) = true ∧ cn (" locks hold" : Str) = 0 := by decide +kernel
        refine ⟨rfl, _, rfl, _, _, rfl, rfl, .int _, sI _, rfl, rfl, fun j e => (by cases e; exact Nat.lt_trans (log_lt lA) (by decide)), _, _, rfl, rfl, lz (by omega), _, hD, ?_, same_put nD s1, ys ++ [sI (1 + (0 + ((k : Nat) : Int))) ++ " locks hold"], by rw [upd_same, List.map_append]; rfl, ?_⟩
        · rw [List.length_map]
          have := hy.l
          exact Nat.lt_of_le_of_lt (show ys.length ≤ 64 by omega) (by decide)
        · refine hy.snoc (asA_app n1 e2.1) (by rw [len_app]; omega) (by rw [cn_app, n3, e2.2]; exact Nat.le_refl _)
      · rintro H' ⟨s1, ys, hD, hy⟩
        have tq := tot_eq ys
        have tl := hy.tot
        have e1 : (", " : Str).length = 2 := by decide +kernel
        have e2 : cn ", " = 0 := by decide +kernel
        have jl := jtot2 (y := ", ") (by decide +kernel) ys
        have hl := hy.l
        refine ⟨", ", D, ys, rfl, rfl, .inl (.inl (.inl hD)), by rw [e1]; omega, ?_⟩
        refine hN _ _ ⟨⟨_, asA_join (by decide +kernel) hy.a, by omega, ?_, rfl⟩, s1⟩
        have a := nls_joinle ", " ys
        rw [e2] at a
        have b := nls_all (c := 0) hy.c
        omega
    rintro _ H0' ⟨⟨wd, wa, wl, wc, rfl⟩, s0⟩
    have hq1 := s0 _ _ hq0
    have S1 := S0.trans s0
    clear hq0 S0 s0
    refine ⟨_, rfl, _, _, rfl, .inl (sq_up S1 ha), 3, _, rfl, 1, _, rfl, _, rfl, ?_, ?_, for_range (fun i σ H' => (∃ c3 c4 c5 c6 c7 c8 c9 c10 c11 c12 c13, σ = Sg (some (.str wd)) c3 c4 c5 c6 c7 c8 c9 c10 c11 c12 c13) ∧ Same H0' H')
      ⟨⟨_, _, _, _, _, _, _, _, _, _, _, rfl⟩, .refl _⟩ ?_ ?_⟩
    · split <;> split <;> omega
    · split <;> split <;> omega
    rotate_left
    · rintro σ H' _
      exact q _
    rintro i σ Hs hi ⟨⟨c3, c4, c5, c6, c7, c8, c9, c10, c11, c12, c13, rfl⟩, s1⟩
    have hi3 : (i : Int) ≤ 3 := by
      have h2 : (i : Int) < ((if (if ((ns.map V.int).length : Int) < 3 then ((ns.map V.int).length : Int) else 3) > 1 then (if ((ns.map V.int).length : Int) < 3 then ((ns.map V.int).length : Int) else 3) else 1) : Int) := by
        have := hi
        omega
      split at h2 <;> (try split at h2) <;> omega
    dsimp only [gName]
    refine ⟨_, rfl, _, rfl, a, ns, _, rfl, sq_up (S1.trans s1) ha, hn, hb, by omega, by omega, fun t o nt ho => ?_⟩
    have k0 : Kp Hs t (upd Hs t o) := ⟨fun b u h => (same_new nt) _ _ h, o, upd_same, ho⟩
    generalize upd Hs t o = H1 at k0 ⊢
    have hqs : Hs qa = some (.lst (OS.map V.str)) := s1 _ _ hq1
    have ci : some (V.int (0 + ((i : Nat) : Int))) = some (V.int (0 + ((i : Nat) : Int))) := rfl
    dsimp only
    refine Rm.seq_mid (fun σ' H' => (∃ c5 c6 c7, σ' = Sg (some (.str wd)) (some (.int (0 + (i : Nat)))) (some (.ref t)) c5 c6 c7 c8 c9 c10 c11 c12 c13) ∧ Kp Hs t H') ?_ (fun N hN => ?_)
    rotate_left
    · refine ⟨12, rfl, by decide, by decide, for_range (n := 12) (fun j σ H' => (∃ c5 c6 c7, σ = Sg (some (.str wd)) (some (.int (0 + (i : Nat)))) (some (.ref t)) c5 c6 c7 c8 c9 c10 c11 c12 c13) ∧ Kp Hs t H') ⟨⟨_, _, _, rfl⟩, k0⟩ ?_ (fun σ H' h => hN _ _ h)⟩
      rintro j σ Hx hj ⟨⟨d5, d6, d7, rfl⟩, kx⟩
      obtain ⟨o1, ht1, ho1⟩ := id kx.2
      dsimp only [gName]
      refine Rm.seq_mid (fun σ' H' => (∃ z, asA z = true ∧ z.length ≤ 10029 ∧ cn z ≤ 12 ∧ σ' = Sg (some (.str wd)) (some (.int (0 + (i : Nat)))) (some (.ref t)) (some (.int (0 + (j : Nat)))) (some (.str z)) d7 c8 c9 c10 c11 c12 c13) ∧ Kp Hs t H') ?_ (fun N hN => ?_)
      rotate_left
      · refine ⟨_, rfl, _, rfl, t, o1, 3, rfl, ht1, ho1, by decide, by decide, fun n o2 n0 n1 ho2 => ⟨_, _, rfl, rfl, ?_⟩⟩
        have k1 := kx.turn nt ho2
        have ht2 := upd_same (H := Hx) (a := t) (o := o2)
        generalize upd Hx t o2 = H2 at k1 ht2 ⊢
        refine ⟨t, o2, _, rfl, ht2, ho2, by omega, by omega, fun l g H3 ok lg l3 hx lt N3 => ?_⟩
        refine ⟨.ref l, g, rfl, hx, ok.one, fun H4 s4 => ?_⟩
        have g3 : g.length ≤ 3 := by omega
        refine hN _ _ ⟨⟨mgT g, ok.asc, Nat.le_trans (ok.tlen2 l3) (by omega), Nat.le_trans (ok.cn3 l3) (by omega), rfl⟩, (k1.nxt nt N3).same s4⟩
      rintro _ H4 ⟨⟨z, za, zl, zc, rfl⟩, k4⟩
      obtain ⟨o4, ht4, ho4⟩ := id k4.2
      refine Rm.seq_mid (fun σ' H' => (∃ z e7, LT z ∧ σ' = Sg (some (.str wd)) (some (.int (0 + (i : Nat)))) (some (.ref t)) (some (.int (0 + (j : Nat)))) (some (.str z)) e7 c8 c9 c10 c11 c12 c13) ∧ Kp Hs t H') ?_ (fun N hN => ?_)
      rotate_left
      · refine ⟨_, rfl, t, o4, 3, rfl, ht4, ho4, by decide, by decide, fun n o5 n0 n1 ho5 => ⟨_, _, rfl, rfl, _, rfl, by omega, by omega, for_range (fun m σ H' => (∃ z e7, asA z = true ∧ z.length ≤ bB m ∧ cn z ≤ cB m ∧ σ = Sg (some (.str wd)) (some (.int (0 + (i : Nat)))) (some (.ref t)) (some (.int (0 + (j : Nat)))) (some (.str z)) e7 c8 c9 c10 c11 c12 c13) ∧ Kp Hs t H')
          ⟨⟨z, _, za, zl, zc, rfl⟩, k4.turn nt ho5⟩ ?_ ?_⟩⟩
        · rintro m σ H5 hm ⟨⟨y, e7, ya, yl, yc, rfl⟩, k5⟩
          obtain ⟨o6, ht6, ho6⟩ := id k5.2
          have m3 : m < 3 := by omega
          have yb := bB_le m3
          refine ⟨_, rfl, _, rfl, _, rfl, t, o6, y, qa, OS, rfl, ht6, ho6, ya, by omega, k5.1 _ _ hqs, os_ok, by decide, by decide, fun y' H6 ya' yl' yc' N6 => ?_⟩
          exact ⟨⟨y', _, ya', by show _ ≤ 2 * bB m + 40; omega, by show _ ≤ 2 * cB m + 3; omega, rfl⟩, k5.nxt nt N6⟩
        · rintro σ H5 ⟨⟨y, e7, ya, yl, yc, rfl⟩, k5⟩
          have hm : (1 + n).toNat ≤ 3 := by omega
          obtain ⟨b1, b2⟩ := bB_le3 hm
          exact hN _ _ ⟨⟨y, e7, ⟨ya, Nat.le_trans yl b1, Nat.le_trans yc b2⟩, rfl⟩, k5⟩
      rintro _ H5 ⟨⟨y, e7, yt, rfl⟩, k5⟩
      refine ⟨_, rfl, .str y, .str y, rfl, .str _, yt.okm, fun p1 H6 s6 hx6 => ⟨.ref p1, _, rfl, hx6, yt.rd, _, rfl, .str y, .str y, rfl, .str _, yt.okm, fun p2 H7 s7 hx7 => ⟨.ref p2, _, rfl, hx7, yt.rd, rfl, _, rfl, ite2 (fun c => by simp at c) fun _ => ?_⟩⟩⟩
      exact ⟨⟨_, _, _, rfl⟩, k5.same (s6.trans s7)⟩
    rintro _ H2 ⟨⟨e5, e6, e7, rfl⟩, k2⟩
    refine Rm.seq_mid (fun σ' H' => (∃ z, asA z = true ∧ z.length ≤ 4000 ∧ cn z ≤ 100 ∧ σ' = Sg (some (.str wd)) (some (.int (0 + (i : Nat)))) (some (.ref t)) e5 e6 e7 (some (.str z)) c9 c10 c11 c12 c13) ∧ Kp Hs t H') ?_ (fun N hN => ?_)
    rotate_left
    · refine ⟨rfl, 61, rfl, by decide, by decide, fun D nD => ?_⟩
      refine Rm.lc_range (fun k H' => Same H2 H' ∧ ∃ ys : List Str, H' D = some (.lst (ys.map V.str)) ∧ LQ ys k 50 0) ⟨same_new nD, [], upd_same, ⟨Nat.le_refl _, (fun _ h => by cases h), (fun _ h => by cases h), fun _ h => by cases h⟩⟩ ?_ ?_
      · rintro k H' hk ⟨s1, ys, hD, hy⟩
        have lA : (((0 : Int) + (k : Nat)) + 1).natAbs < 10 ^ 30 := by omega
        obtain ⟨n1, n2, n3⟩ := num_txt lA
        have e1 : ("at " : Str).length = 3 := by decide +kernel
        have e2 : asA ("at " : Str) = true ∧ cn ("at " : Str) = 0 := by decide +kernel
        refine ⟨rfl, _, rfl, _, _, rfl, rfl, .int _, sI _, rfl, rfl, fun j e => (by cases e; exact Nat.lt_trans (log_lt lA) (by decide)), _, _, rfl, rfl, lz (by omega), _, hD, ?_, same_put nD s1, ys ++ ["at " ++ sI ((0 + ((k : Nat) : Int)) + 1)], by rw [upd_same, List.map_append]; rfl, ?_⟩
        · rw [List.length_map]
          have := hy.l
          exact Nat.lt_of_le_of_lt (show ys.length ≤ 64 by omega) (by decide)
        · refine hy.snoc (asA_app e2.1 n1) (by rw [len_app]; omega) (by rw [cn_app, n3, e2.2]; exact Nat.le_refl _)
      · rintro H' ⟨s1, ys, hD, hy⟩
        have tq := tot_eq ys
        have tl := hy.tot
        have e1 : ("\n" : Str).length = 1 := by decide +kernel
        have jl := Rm.join_tot (y := "\n") (by decide +kernel) ys
        have hl := hy.l
        refine ⟨"\n", D, ys, rfl, rfl, .inl (.inl (.inl hD)), by rw [e1]; omega, ?_⟩
        refine hN _ _ ⟨⟨_, asA_join (by decide +kernel) hy.a, by omega, ?_, rfl⟩, k2.same s1⟩
        have a := nls_joinle "\n" ys
        rw [cn_nl] at a
        have b := nls_all (c := 1) hy.c
        omega
    rintro _ H3 ⟨⟨my, ma, ml, mc, rfl⟩, k3⟩
    have mt : LT my := ⟨ma, Nat.le_trans ml (by decide), Nat.le_trans mc (by decide)⟩
    have mt6 : LT (cutS my none (some (-6))) := ⟨asA_cut ma, Nat.le_trans (cutS_length my none (some (-6))) mt.l, Nat.le_trans (cn_cut my none (some (-6))) mt.c⟩
    have wt : LT ("at 1\nset 1, " ++ wd) := by
      have e1 : ("at 1\nset 1, " : Str).length = 12 := by decide +kernel
      have e2 : asA ("at 1\nset 1, " : Str) = true ∧ cn ("at 1\nset 1, " : Str) = 1 := by decide +kernel
      exact ⟨asA_app e2.1 wa, by rw [len_app]; omega, by rw [cn_app, e2.2]; omega⟩
    have e12 : ("at 1\nset 1, " : Str).length = 12 := by decide +kernel
    clear k2 hqs
    obtain ⟨G, gt, kq4, hcs⟩ : ∃ G : Hp, True ∧ True ∧ True := ⟨H3, trivial, trivial, trivial⟩
    clear gt kq4 hcs G
    refine Rm.seq_mid (fun σ' H' => ∃ (G : Hp) (l : Addr) (xs : List V), σ' = Sg (some (.str wd)) (some (.int (0 + (i : Nat)))) (some (.ref t)) e5 e6 e7 (some (.str my)) (some (.ref l)) c10 c11 c12 c13 ∧ G t = none ∧ Kq Hs G t H' ∧ H' l = some (.lst xs) ∧ xs.length = 9 ∧ ∀ x ∈ xs, Cs K G x) ?_ (fun N hN => ?_)
    rotate_left
    · obtain ⟨o3, ht3, ho3⟩ := id k3.2
      refine ⟨_, rfl, t, o3, rfl, ht3, ho3, fun v d H4 hv svd sa N4 => ?_⟩
      have gt : nw H3 H4 t = none := by unfold nw; rw [ht3]
      have kq4 : Kq Hs (nw H3 H4) t H4 := ⟨k3.nxt nt N4, nw_same⟩
      have cv : Cs K (nw H3 H4) v := cs_any hv svd sa
      generalize nw H3 H4 = G at gt kq4 cv
      refine ⟨_, rfl, _, _, rfl, rfl, lzz (by rw [e12]; omega), _, rfl, _, rfl, 6, rfl, _, rfl, my, rfl, lzz (by omega), lz (n := 9) (by decide), fun l nl => ?_⟩
      refine hN _ _ ⟨G, l, _, rfl, gt, kq4.same (same_new nl), upd_same, rfl, fun x hx => ?_⟩
      simp only [List.mem_cons, List.not_mem_nil, or_false] at hx
      rcases hx with rfl | rfl | rfl | rfl | rfl | rfl | rfl | rfl | rfl
      · exact cv
      · exact cs_str ⟨by decide +kernel, by decide +kernel, by decide +kernel⟩
      · exact cs_str ⟨by decide +kernel, by decide +kernel, by decide +kernel⟩
      · exact cs_str ⟨by decide +kernel, by decide +kernel, by decide +kernel⟩
      · exact cs_str ⟨by decide +kernel, by decide +kernel, by decide +kernel⟩
      · exact cs_str ⟨by decide +kernel, by decide +kernel, by decide +kernel⟩
      · exact cs_str wt
      · exact cs_str mt
      · exact cs_str mt6
    clear k3
    rintro _ H4 ⟨G, l, xs, rfl, gt, kq4, hl, lx, hx⟩
    refine Rm.seq_mid (fun σ' H' => ∃ (l : Addr) (xs : List V), σ' = Sg (some (.str wd)) (some (.int (0 + (i : Nat)))) (some (.ref t)) e5 e6 e7 (some (.str my)) (some (.ref l)) c10 c11 c12 c13 ∧ Kq Hs G t H' ∧ H' l = some (.lst xs) ∧ xs.length = 13 ∧ ∀ x ∈ xs, Cs K G x) ?_ (fun N hN => ?_)
    rotate_left
    · obtain ⟨R1, hR1, r1, a1, f1⟩ : ∃ R, repS "9" (5000 : Int).toNat = R ∧ R.length ≤ 5000 ∧ asA R = true ∧ cn R = 0 := ⟨_, rfl, by
        rw [repS_len]
        have e1 : ("9" : Str).length = 1 := by decide +kernel
        rw [e1]
        decide, asA_rep (by decide +kernel), cn_0 fun h => absurd (repS_mem h) (by decide +kernel)⟩
      obtain ⟨R2, hR2, r2, a2, f2⟩ : ∃ R, repS "0" (5000 : Int).toNat = R ∧ R.length ≤ 5000 ∧ asA R = true ∧ cn R = 0 := ⟨_, rfl, by
        rw [repS_len]
        have e1 : ("0" : Str).length = 1 := by decide +kernel
        rw [e1]
        decide, asA_rep (by decide +kernel), cn_0 fun h => absurd (repS_mem h) (by decide +kernel)⟩
      have e1 : ("9" : Str).length = 1 := by decide +kernel
      have e1' : ("0" : Str).length = 1 := by decide +kernel
      have e2 : ("at 1\nset " : Str).length = 9 := by decide +kernel
      have e3 : ("at 1\nmark x " : Str).length = 12 := by decide +kernel
      have e4 : (" none" : Str).length = 5 := by decide +kernel
      have c2' : cn ("at 1\nset " : Str) = 1 := by decide +kernel
      have c3' : cn ("at 1\nmark x " : Str) = 1 := by decide +kernel
      have c4' : cn (" none" : Str) = 0 := by decide +kernel
      have l2 : ("at 1\nmark x " ++ R2).length ≤ 6000 := by rw [len_app]; omega
      have t1 : LT ("at 1\nset " ++ R1) := ⟨asA_app (by decide +kernel) a1, by rw [len_app]; omega, by rw [cn_app]; omega⟩
      have t2 : LT ("at 1\nmark x " ++ R2 ++ " none") := ⟨asA_app (asA_app (by decide +kernel) a2) (by decide +kernel), by rw [len_app]; omega, by rw [cn_app, cn_app]; omega⟩
      refine ⟨_, rfl, "9", 5000, rfl, rfl, by decide, by decide, by omega, by omega, ?_⟩
      rw [hR1]
      refine ⟨_, _, rfl, rfl, lzz (by omega), "0", 5000, rfl, rfl, by decide, by decide, by omega, by omega, ?_⟩
      rw [hR2]
      refine ⟨_, _, rfl, rfl, lzz (by omega), _, _, rfl, rfl, lzz (by omega), lz (n := 4) (by decide), fun p1 n1 => ⟨l, p1, _, _, rfl, rfl, (same_new n1) _ _ hl, upd_same, by rw [lx]; exact lz (n := 13) (by decide), fun p2 n2 => ?_⟩⟩
      refine hN _ _ ⟨p2, _, rfl, (kq4.same (same_new n1)).same (same_new n2), upd_same, by rw [List.length_append, lx]; rfl, fun x h => ?_⟩
      rcases List.mem_append.mp h with h | h
      · exact hx x h
      · simp only [List.mem_cons, List.not_mem_nil, or_false] at h
        rcases h with rfl | rfl | rfl | rfl
        · exact cs_str ⟨by decide +kernel, by decide +kernel, by decide +kernel⟩
        · exact cs_str t1
        · exact cs_str ⟨by decide +kernel, by decide +kernel, by decide +kernel⟩
        · exact cs_str t2
    clear kq4 hl lx hx xs
    rintro _ H5 ⟨l, xs, rfl, kq5, hl, lx, hx⟩
    refine Rm.seq_mid (fun σ' H' => ∃ (l : Addr) (xs : List V), σ' = Sg (some (.str wd)) (some (.int (0 + (i : Nat)))) (some (.ref t)) e5 e6 e7 (some (.str my)) (some (.ref l)) c10 c11 c12 c13 ∧ Kq Hs G t H' ∧ (H' l = some (.lst xs) ∧ Hs l = none ∧ G l = none ∧ t ≠ l) ∧ xs.length = 17 ∧ ∀ x ∈ xs, Cs K G x) ?_ (fun N hN => ?_)
    rotate_left
    · obtain ⟨o5, ht5, ho5⟩ := id kq5.kp.2
      have lt : l ≠ t := fun e => by
        obtain ⟨_, _, rfl, _⟩ := ho5
        rw [e, ht5] at hl
        cases hl
      refine ⟨_, rfl, _, rfl, t, o5, rfl, ht5, ho5, fun pz zs H6 _ pzt hz l4 hlt N6 => ?_⟩
      have hl6 := N6.keep _ _ hl lt
      refine ⟨l, pz, _, _, rfl, rfl, hl6, hz, by rw [lx, List.length_map, l4]; exact lz (n := 17) (by decide), fun p2 n2 => ?_⟩
      have kq6 := kq5.nxt nt gt N6
      refine hN _ _ ⟨p2, _, rfl, kq6.same (same_new n2), ⟨upd_same, kq6.no n2⟩, by rw [List.length_append, lx, List.length_map, l4], fun x h => ?_⟩
      rcases List.mem_append.mp h with h | h
      · exact hx x h
      · obtain ⟨y, hy, rfl⟩ := List.mem_map.mp h
        exact cs_str (hlt y hy)
    clear kq5 hl lx hx xs
    rintro _ H6 ⟨l, xs, rfl, kq6, ⟨hl, hsl, hgl, tl⟩, lx, hx⟩
    refine Rm.seq_mid (fun σ' H' => σ' = Sg (some (.str wd)) (some (.int (0 + (i : Nat)))) (some (.ref t)) e5 e6 e7 (some (.str my)) (some (.ref l)) (some (.str SGN)) c11 c12 c13 ∧ H' = H6) ?_ (fun N hN => hN _ _ ⟨rfl, rfl⟩)
    rintro _ _ ⟨rfl, rfl⟩
    refine Rm.seq_mid (fun σ' H' => ∃ (xs : List V), σ' = Sg (some (.str wd)) (some (.int (0 + (i : Nat)))) (some (.ref t)) e5 e6 e7 (some (.str my)) (some (.ref l)) (some (.str SGN)) c11 c12 c13 ∧ Kq Hs G t H' ∧ H' l = some (.lst xs) ∧ xs.length = 18 ∧ ∀ x ∈ xs, Cs K G x) ?_ (fun N hN => ?_)
    rotate_left
    · obtain ⟨o6, ht6, ho6⟩ := id kq6.kp.2
      obtain ⟨g1, g2, g3, g4⟩ := sgn_ok
      have e1 : ("at 1\nmark a" : Str).length = 11 := by decide +kernel
      have e2 : ("b 0 none" : Str).length = 8 := by decide +kernel
      have f1 : cn ("at 1\nmark a" : Str) = 1 := by decide +kernel
      have f2 : cn ("b 0 none" : Str) = 0 := by decide +kernel
      refine ⟨_, rfl, .inl ⟨rfl, _, .inl (.inl hl)⟩, _, rfl, _, rfl, t, o6, SGN, rfl, ht6, ho6, g1, g2, fun c o7 hc ho7 => ?_⟩
      have c1 : (⟨#[c]⟩ : Str).length = 1 := rfl
      have c3 : ("at 1\nmark a" ++ (⟨#[c]⟩ : Str)).length = 12 := by rw [len_app, e1, c1]
      have c4 : ("at 1\nmark a" ++ (⟨#[c]⟩ : Str) ++ "b 0 none").length = 20 := by rw [len_app, c3, e2]
      have ca := asA_one g3 hc
      have cc : cn (⟨#[c]⟩ : Str) ≤ 1 := Nat.le_trans List.count_le_length (Nat.le_refl _)
      have hl7 := (upd_ne (o := o7) (Ne.symm tl)).trans hl
      refine ⟨_, _, rfl, rfl, by rw [e1, c1]; decide, _, _, rfl, rfl, by rw [c3, e2]; decide, l, xs, _, rfl, rfl, hl7, by rw [lx]; decide, ?_⟩
      refine hN _ _ ⟨xs ++ [.str ("at 1\nmark a" ++ (⟨#[c]⟩ : Str) ++ "b 0 none")], rfl, (kq6.turn nt gt ho7).put tl hsl hgl, upd_same, by rw [List.length_append, lx]; rfl, fun x h => ?_⟩
      rcases List.mem_append.mp h with h | h
      · exact hx x h
      · rw [List.mem_singleton.mp h]
        exact cs_str ⟨asA_app (asA_app (by decide +kernel) ca) (by decide +kernel), by rw [c4]; decide, by rw [cn_app, cn_app]; omega⟩
    clear kq6 hl lx hx xs
    rintro _ H7 ⟨xs, rfl, kq7, hl, lx, hx⟩
    refine ⟨_, rfl, lz (n := 3) (by decide), fun p1 n1 => ⟨l, p1, _, _, rfl, rfl, (same_new n1) _ _ hl, upd_same, by rw [lx]; exact lz (n := 21) (by decide), fun p2 n2 => ?_⟩⟩
    have kq9 := (kq7.same (same_new (o := .lst [V.str "at 1\nset 1, 1 locks hold, 1 locks hold", .str "at 1\nset 1,", .str "at 1\nmark x 0 set 0"]) n1)).same (same_new (o := .lst (xs ++ [V.str "at 1\nset 1, 1 locks hold, 1 locks hold", .str "at 1\nset 1,", .str "at 1\nmark x 0 set 0"])) n2)
    have h9 := upd_same (H := upd H7 p1 (.lst [V.str "at 1\nset 1, 1 locks hold, 1 locks hold", .str "at 1\nset 1,", .str "at 1\nmark x 0 set 0"])) (a := p2) (o := .lst (xs ++ [V.str "at 1\nset 1, 1 locks hold, 1 locks hold", .str "at 1\nset 1,", .str "at 1\nmark x 0 set 0"]))
    have hx9 : ∀ x ∈ xs ++ [V.str "at 1\nset 1, 1 locks hold, 1 locks hold", .str "at 1\nset 1,", .str "at 1\nmark x 0 set 0"], Cs K G x := fun x h => by
      rcases List.mem_append.mp h with h | h
      · exact hx x h
      · simp only [List.mem_cons, List.not_mem_nil, or_false] at h
        rcases h with rfl | rfl | rfl
        · exact cs_str ⟨by decide +kernel, by decide +kernel, by decide +kernel⟩
        · exact cs_str ⟨by decide +kernel, by decide +kernel, by decide +kernel⟩
        · exact cs_str ⟨by decide +kernel, by decide +kernel, by decide +kernel⟩
    generalize upd (upd H7 p1 (.lst [V.str "at 1\nset 1, 1 locks hold, 1 locks hold", .str "at 1\nset 1,", .str "at 1\nmark x 0 set 0"])) p2 (.lst (xs ++ [V.str "at 1\nset 1, 1 locks hold, 1 locks hold", .str "at 1\nset 1,", .str "at 1\nmark x 0 set 0"])) = H9 at kq9 h9 ⊢
    generalize xs ++ [V.str "at 1\nset 1, 1 locks hold, 1 locks hold", .str "at 1\nset 1,", .str "at 1\nmark x 0 set 0"] = xs9 at h9 hx9 ⊢
    refine ⟨p2, rfl, ⟨_, .inl (.inl h9)⟩, for_list (fun m σ H' => (∃ e11 e12, σ = Sg (some (.str wd)) (some (.int (0 + (i : Nat)))) (some (.ref t)) e5 e6 e7 (some (.str my)) (some (.ref l)) (some (.str SGN)) e11 e12 c13) ∧ Same H9 H') ⟨⟨_, _, rfl⟩, .refl _⟩ (fun m σ H' _ e => .inl (.inl (e.2 _ _ h9))) ?_ ?_⟩
    · rintro m x σ H' hxm ⟨⟨e11, e12, rfl⟩, s9⟩
      obtain ⟨d, hd, ok, sm, sm2⟩ := hx9 x (List.mem_of_getElem? hxm)
      have g9 := kq9.g.trans s9
      have hdx := hd H' g9
      refine ⟨_, rfl, x, d, rfl, hdx, sm, ?_⟩
      refine ⟨_, rfl, x, d, rfl, hdx, ok, fun q1 Ha sa hxa => ⟨.ref q1, _, rfl, hxa, sm2, _, rfl, x, d, rfl, hd Ha (g9.trans sa), ok, fun q2 Hb sb hxb => ⟨.ref q2, _, rfl, hxb, sm2, rfl, _, rfl, ite2 (fun c => by simp at c) fun _ => ?_⟩⟩⟩
      have gb := (g9.trans sa).trans sb
      refine ⟨_, rfl, x, d, rfl, hd Hb gb, sm, _, rfl, rfl, _, rfl, ite2 (fun c => by simp at c) fun _ => ?_⟩
      exact ⟨⟨_, _, rfl⟩, (s9.trans sa).trans sb⟩
    · rintro σ H' ⟨⟨e11, e12, rfl⟩, s9⟩
      refine ⟨⟨_, _, _, _, _, _, _, _, _, _, _, rfl⟩, s1.trans fun b u h => s9 _ _ (kq9.kp.1 b u h)⟩
end
end K92

set_option maxRecDepth 100000
set_option maxHeartbeats 4000000
namespace K92
open PySem PySem.Spec L2 Rm
open PyProof.Rows hiding St
/-! ### what the top has written -/
theorem all_mk {P : Program} {w : World} {K : PySem.W.Frag} {h : Heap} {mg : Str → Option Value} {fa R T_CHANGES C_BadText C_MarkError : Addr} (X : K.In h) (G : h.Ns mainGlobals mg) (hfa : mg "law" = some (.ref fa))
    (E_BadText : EF P w K mg C_BadText C_MarkError "BadText" "line")
    {t1 t2 t3 t4 u1 u2 u3 u4 : Tok} {rn : Nat} (r_g : PySem.W.nsIn K mainGlobals "RANKS" = some (some (.ref R)))
    (r_l : K.lookup R = some ⟨.type "dict", none, .dict #[⟨PyData.keyHash w.params "hold", .str "hold" t1, .int 1 u1⟩,
      ⟨PyData.keyHash w.params "keep", .str "keep" t2, .int 2 u2⟩, ⟨PyData.keyHash w.params "change", .str "change" t3, .int 3 u3⟩,
      ⟨PyData.keyHash w.params "replace", .str "replace" t4, .int 4 u4⟩] rn, #[]⟩) (r_low : (R == sysModules) = false)
    {v1 v2 : Tok} {cn : Nat} (c_g : PySem.W.nsIn K mainGlobals "CHANGES" = some (some (.ref T_CHANGES)))
    (c_l : K.lookup T_CHANGES = some ⟨.type "tuple", none, .seq #[.str "change" v1, .str "replace" v2] cn, #[]⟩)
    {x1 : Tok} (l_g : PySem.W.nsIn K mainGlobals "LAST_PART" = some (some (.int 1000000 x1))) {x2 : Tok} (k_g : PySem.W.nsIn K mainGlobals "LOCKS" = some (some (.str "locks" x2))) {x3 : Tok} (d_g : PySem.W.nsIn K mainGlobals "CHANGED" = some (some (.str "changes" x3))) {x4 : Tok} (s_g : PySem.W.nsIn K mainGlobals "LAST_SET" = some (some (.int 1000000 x4))) {x5 : Tok} (m_g : PySem.W.nsIn K mainGlobals "MOST_MEMBERS" = some (some (.int 40 x5))) {x6 : Tok} (v_g : PySem.W.nsIn K mainGlobals "LAST_VERSION" = some (some (.int 1000000 x6))) {x7 : Tok} (qd_g : PySem.W.nsIn K mainGlobals "MOST_DIGITS" = some (some (.int 30 x7))) {x8 : Tok} (f_g : PySem.W.nsIn K mainGlobals "MOST_OPERATIONS" = some (some (.int 60 x8))) {x9 : Tok} (n_g : PySem.W.nsIn K mainGlobals "LONGEST_NAME" = some (some (.int 6 x9)))
    {f_is_whole : Addr} {oc_is_whole kV_is_whole dc_is_whole pm_is_whole cd_is_whole ct_is_whole : Value} {od_is_whole an_is_whole : Option Addr} {sl_is_whole : Array (Option Value)}
    (a_is_whole : PySem.W.nsIn K mainGlobals "is_whole" = some (some (.ref f_is_whole))) (l_is_whole : K.lookup f_is_whole = some ⟨oc_is_whole, od_is_whole, .func (PySem.W.fnOf "is_whole" "is_whole" (defArgs s_is_whole) (defBody s_is_whole) (defScope s_is_whole) .none kV_is_whole dc_is_whole pm_is_whole an_is_whole cd_is_whole ct_is_whole), sl_is_whole⟩) (c_is_whole : PySem.W.codeIn K cd_is_whole "is_whole" = true) (k_is_whole : PySem.W.keepIn K (.ref f_is_whole) = true)
    {f_is_within : Addr} {oc_is_within kV_is_within dc_is_within pm_is_within cd_is_within ct_is_within : Value} {od_is_within an_is_within : Option Addr} {sl_is_within : Array (Option Value)}
    (a_is_within : PySem.W.nsIn K mainGlobals "is_within" = some (some (.ref f_is_within))) (l_is_within : K.lookup f_is_within = some ⟨oc_is_within, od_is_within, .func (PySem.W.fnOf "is_within" "is_within" (defArgs s_is_within) (defBody s_is_within) (defScope s_is_within) .none kV_is_within dc_is_within pm_is_within an_is_within cd_is_within ct_is_within), sl_is_within⟩) (c_is_within : PySem.W.codeIn K cd_is_within "is_within" = true) (k_is_within : PySem.W.keepIn K (.ref f_is_within) = true)
    {f_is_name : Addr} {oc_is_name kV_is_name dc_is_name pm_is_name cd_is_name ct_is_name : Value} {od_is_name an_is_name : Option Addr} {sl_is_name : Array (Option Value)}
    (a_is_name : PySem.W.nsIn K mainGlobals "is_name" = some (some (.ref f_is_name))) (l_is_name : K.lookup f_is_name = some ⟨oc_is_name, od_is_name, .func (PySem.W.fnOf "is_name" "is_name" (defArgs s_is_name) (defBody s_is_name) (defScope s_is_name) .none kV_is_name dc_is_name pm_is_name an_is_name cd_is_name ct_is_name), sl_is_name⟩) (c_is_name : PySem.W.codeIn K cd_is_name "is_name" = true) (k_is_name : PySem.W.keepIn K (.ref f_is_name) = true)
    {f_is_mode : Addr} {oc_is_mode kV_is_mode dc_is_mode pm_is_mode cd_is_mode ct_is_mode : Value} {od_is_mode an_is_mode : Option Addr} {sl_is_mode : Array (Option Value)}
    (a_is_mode : PySem.W.nsIn K mainGlobals "is_mode" = some (some (.ref f_is_mode))) (l_is_mode : K.lookup f_is_mode = some ⟨oc_is_mode, od_is_mode, .func (PySem.W.fnOf "is_mode" "is_mode" (defArgs s_is_mode) (defBody s_is_mode) (defScope s_is_mode) .none kV_is_mode dc_is_mode pm_is_mode an_is_mode cd_is_mode ct_is_mode), sl_is_mode⟩) (c_is_mode : PySem.W.codeIn K cd_is_mode "is_mode" = true) (k_is_mode : PySem.W.keepIn K (.ref f_is_mode) = true)
    {f_is_change : Addr} {oc_is_change kV_is_change dc_is_change pm_is_change cd_is_change ct_is_change : Value} {od_is_change an_is_change : Option Addr} {sl_is_change : Array (Option Value)}
    (a_is_change : PySem.W.nsIn K mainGlobals "is_change" = some (some (.ref f_is_change))) (l_is_change : K.lookup f_is_change = some ⟨oc_is_change, od_is_change, .func (PySem.W.fnOf "is_change" "is_change" (defArgs s_is_change) (defBody s_is_change) (defScope s_is_change) .none kV_is_change dc_is_change pm_is_change an_is_change cd_is_change ct_is_change), sl_is_change⟩) (c_is_change : PySem.W.codeIn K cd_is_change "is_change" = true) (k_is_change : PySem.W.keepIn K (.ref f_is_change) = true)
    {f_is_member : Addr} {oc_is_member kV_is_member dc_is_member pm_is_member cd_is_member ct_is_member : Value} {od_is_member an_is_member : Option Addr} {sl_is_member : Array (Option Value)}
    (a_is_member : PySem.W.nsIn K mainGlobals "is_member" = some (some (.ref f_is_member))) (l_is_member : K.lookup f_is_member = some ⟨oc_is_member, od_is_member, .func (PySem.W.fnOf "is_member" "is_member" (defArgs s_is_member) (defBody s_is_member) (defScope s_is_member) .none kV_is_member dc_is_member pm_is_member an_is_member cd_is_member ct_is_member), sl_is_member⟩) (c_is_member : PySem.W.codeIn K cd_is_member "is_member" = true) (k_is_member : PySem.W.keepIn K (.ref f_is_member) = true)
    {f_is_set_number : Addr} {oc_is_set_number kV_is_set_number dc_is_set_number pm_is_set_number cd_is_set_number ct_is_set_number : Value} {od_is_set_number an_is_set_number : Option Addr} {sl_is_set_number : Array (Option Value)}
    (a_is_set_number : PySem.W.nsIn K mainGlobals "is_set_number" = some (some (.ref f_is_set_number))) (l_is_set_number : K.lookup f_is_set_number = some ⟨oc_is_set_number, od_is_set_number, .func (PySem.W.fnOf "is_set_number" "is_set_number" (defArgs s_is_set_number) (defBody s_is_set_number) (defScope s_is_set_number) .none kV_is_set_number dc_is_set_number pm_is_set_number an_is_set_number cd_is_set_number ct_is_set_number), sl_is_set_number⟩) (c_is_set_number : PySem.W.codeIn K cd_is_set_number "is_set_number" = true) (k_is_set_number : PySem.W.keepIn K (.ref f_is_set_number) = true)
    {f_are_different : Addr} {oc_are_different kV_are_different dc_are_different pm_are_different cd_are_different ct_are_different : Value} {od_are_different an_are_different : Option Addr} {sl_are_different : Array (Option Value)}
    (a_are_different : PySem.W.nsIn K mainGlobals "are_different" = some (some (.ref f_are_different))) (l_are_different : K.lookup f_are_different = some ⟨oc_are_different, od_are_different, .func (PySem.W.fnOf "are_different" "are_different" (defArgs s_are_different) (defBody s_are_different) (defScope s_are_different) .none kV_are_different dc_are_different pm_are_different an_are_different cd_are_different ct_are_different), sl_are_different⟩) (c_are_different : PySem.W.codeIn K cd_are_different "are_different" = true) (k_are_different : PySem.W.keepIn K (.ref f_are_different) = true)
    {f_numeral : Addr} {oc_numeral kV_numeral dc_numeral pm_numeral cd_numeral ct_numeral : Value} {od_numeral an_numeral : Option Addr} {sl_numeral : Array (Option Value)}
    (a_numeral : PySem.W.nsIn K mainGlobals "numeral" = some (some (.ref f_numeral))) (l_numeral : K.lookup f_numeral = some ⟨oc_numeral, od_numeral, .func (PySem.W.fnOf "numeral" "numeral" (defArgs s_numeral) (defBody s_numeral) (defScope s_numeral) .none kV_numeral dc_numeral pm_numeral an_numeral cd_numeral ct_numeral), sl_numeral⟩) (c_numeral : PySem.W.codeIn K cd_numeral "numeral" = true) (k_numeral : PySem.W.keepIn K (.ref f_numeral) = true)
    {f_lines_of : Addr} {oc_lines_of kV_lines_of dc_lines_of pm_lines_of cd_lines_of ct_lines_of : Value} {od_lines_of an_lines_of : Option Addr} {sl_lines_of : Array (Option Value)}
    (a_lines_of : PySem.W.nsIn K mainGlobals "lines_of" = some (some (.ref f_lines_of))) (l_lines_of : K.lookup f_lines_of = some ⟨oc_lines_of, od_lines_of, .func (PySem.W.fnOf "lines_of" "lines_of" (defArgs s_lines_of) (defBody s_lines_of) (defScope s_lines_of) .none kV_lines_of dc_lines_of pm_lines_of an_lines_of cd_lines_of ct_lines_of), sl_lines_of⟩) (c_lines_of : PySem.W.codeIn K cd_lines_of "lines_of" = true) (k_lines_of : PySem.W.keepIn K (.ref f_lines_of) = true)
    {f_member_of : Addr} {oc_member_of kV_member_of dc_member_of pm_member_of cd_member_of ct_member_of : Value} {od_member_of an_member_of : Option Addr} {sl_member_of : Array (Option Value)}
    (a_member_of : PySem.W.nsIn K mainGlobals "member_of" = some (some (.ref f_member_of))) (l_member_of : K.lookup f_member_of = some ⟨oc_member_of, od_member_of, .func (PySem.W.fnOf "member_of" "member_of" (defArgs s_member_of) (defBody s_member_of) (defScope s_member_of) .none kV_member_of dc_member_of pm_member_of an_member_of cd_member_of ct_member_of), sl_member_of⟩) (c_member_of : PySem.W.codeIn K cd_member_of "member_of" = true) (k_member_of : PySem.W.keepIn K (.ref f_member_of) = true)
    {f_set_of : Addr} {oc_set_of kV_set_of dc_set_of pm_set_of cd_set_of ct_set_of : Value} {od_set_of an_set_of : Option Addr} {sl_set_of : Array (Option Value)}
    (a_set_of : PySem.W.nsIn K mainGlobals "set_of" = some (some (.ref f_set_of))) (l_set_of : K.lookup f_set_of = some ⟨oc_set_of, od_set_of, .func (PySem.W.fnOf "set_of" "set_of" (defArgs s_set_of) (defBody s_set_of) (defScope s_set_of) .none kV_set_of dc_set_of pm_set_of an_set_of cd_set_of ct_set_of), sl_set_of⟩) (c_set_of : PySem.W.codeIn K cd_set_of "set_of" = true) (k_set_of : PySem.W.keepIn K (.ref f_set_of) = true)
    {f_mark_of : Addr} {oc_mark_of kV_mark_of dc_mark_of pm_mark_of cd_mark_of ct_mark_of : Value} {od_mark_of an_mark_of : Option Addr} {sl_mark_of : Array (Option Value)}
    (a_mark_of : PySem.W.nsIn K mainGlobals "mark_of" = some (some (.ref f_mark_of))) (l_mark_of : K.lookup f_mark_of = some ⟨oc_mark_of, od_mark_of, .func (PySem.W.fnOf "mark_of" "mark_of" (defArgs s_mark_of) (defBody s_mark_of) (defScope s_mark_of) .none kV_mark_of dc_mark_of pm_mark_of an_mark_of cd_mark_of ct_mark_of), sl_mark_of⟩) (c_mark_of : PySem.W.codeIn K cd_mark_of "mark_of" = true) (k_mark_of : PySem.W.keepIn K (.ref f_mark_of) = true)
    {f_write_of : Addr} {oc_write_of kV_write_of dc_write_of pm_write_of cd_write_of ct_write_of : Value} {od_write_of an_write_of : Option Addr} {sl_write_of : Array (Option Value)}
    (a_write_of : PySem.W.nsIn K mainGlobals "write_of" = some (some (.ref f_write_of))) (l_write_of : K.lookup f_write_of = some ⟨oc_write_of, od_write_of, .func (PySem.W.fnOf "write_of" "write_of" (defArgs s_write_of) (defBody s_write_of) (defScope s_write_of) .none kV_write_of dc_write_of pm_write_of an_write_of cd_write_of ct_write_of), sl_write_of⟩) (c_write_of : PySem.W.codeIn K cd_write_of "write_of" = true) (k_write_of : PySem.W.keepIn K (.ref f_write_of) = true)
    {f_read_marking : Addr} {oc_read_marking kV_read_marking dc_read_marking pm_read_marking cd_read_marking ct_read_marking : Value} {od_read_marking an_read_marking : Option Addr} {sl_read_marking : Array (Option Value)}
    (a_read_marking : PySem.W.nsIn K mainGlobals "read_marking" = some (some (.ref f_read_marking))) (l_read_marking : K.lookup f_read_marking = some ⟨oc_read_marking, od_read_marking, .func (PySem.W.fnOf "read_marking" "read_marking" (defArgs s_read_marking) (defBody s_read_marking) (defScope s_read_marking) .none kV_read_marking dc_read_marking pm_read_marking an_read_marking cd_read_marking ct_read_marking), sl_read_marking⟩) (c_read_marking : PySem.W.codeIn K cd_read_marking "read_marking" = true) (k_read_marking : PySem.W.keepIn K (.ref f_read_marking) = true)
    {f__law_tape : Addr} {oc__law_tape kV__law_tape dc__law_tape pm__law_tape cd__law_tape ct__law_tape : Value} {od__law_tape an__law_tape : Option Addr} {sl__law_tape : Array (Option Value)}
    (a__law_tape : PySem.W.nsIn K mainGlobals "_law_tape" = some (some (.ref f__law_tape))) (l__law_tape : K.lookup f__law_tape = some ⟨oc__law_tape, od__law_tape, .func (PySem.W.fnOf "_law_tape" "_law_tape" (defArgs s__law_tape) (defBody s__law_tape) (defScope s__law_tape) .none kV__law_tape dc__law_tape pm__law_tape an__law_tape cd__law_tape ct__law_tape), sl__law_tape⟩) (c__law_tape : PySem.W.codeIn K cd__law_tape "_law_tape" = true) (k__law_tape : PySem.W.keepIn K (.ref f__law_tape) = true)
    {f__law_pick : Addr} {oc__law_pick kV__law_pick dc__law_pick pm__law_pick cd__law_pick ct__law_pick : Value} {od__law_pick an__law_pick : Option Addr} {sl__law_pick : Array (Option Value)}
    (a__law_pick : PySem.W.nsIn K mainGlobals "_law_pick" = some (some (.ref f__law_pick))) (l__law_pick : K.lookup f__law_pick = some ⟨oc__law_pick, od__law_pick, .func (PySem.W.fnOf "_law_pick" "_law_pick" (defArgs s__law_pick) (defBody s__law_pick) (defScope s__law_pick) .none kV__law_pick dc__law_pick pm__law_pick an__law_pick cd__law_pick ct__law_pick), sl__law_pick⟩) (c__law_pick : PySem.W.codeIn K cd__law_pick "_law_pick" = true) (k__law_pick : PySem.W.keepIn K (.ref f__law_pick) = true)
    {f__law_one_of : Addr} {oc__law_one_of kV__law_one_of dc__law_one_of pm__law_one_of cd__law_one_of ct__law_one_of : Value} {od__law_one_of an__law_one_of : Option Addr} {sl__law_one_of : Array (Option Value)}
    (a__law_one_of : PySem.W.nsIn K mainGlobals "_law_one_of" = some (some (.ref f__law_one_of))) (l__law_one_of : K.lookup f__law_one_of = some ⟨oc__law_one_of, od__law_one_of, .func (PySem.W.fnOf "_law_one_of" "_law_one_of" (defArgs s__law_one_of) (defBody s__law_one_of) (defScope s__law_one_of) .none kV__law_one_of dc__law_one_of pm__law_one_of an__law_one_of cd__law_one_of ct__law_one_of), sl__law_one_of⟩) (c__law_one_of : PySem.W.codeIn K cd__law_one_of "_law_one_of" = true) (k__law_one_of : PySem.W.keepIn K (.ref f__law_one_of) = true)
    {f__law_any : Addr} {oc__law_any kV__law_any dc__law_any pm__law_any cd__law_any ct__law_any : Value} {od__law_any an__law_any : Option Addr} {sl__law_any : Array (Option Value)}
    (a__law_any : PySem.W.nsIn K mainGlobals "_law_any" = some (some (.ref f__law_any))) (l__law_any : K.lookup f__law_any = some ⟨oc__law_any, od__law_any, .func (PySem.W.fnOf "_law_any" "_law_any" (defArgs s__law_any) (defBody s__law_any) (defScope s__law_any) .none kV__law_any dc__law_any pm__law_any an__law_any cd__law_any ct__law_any), sl__law_any⟩) (c__law_any : PySem.W.codeIn K cd__law_any "_law_any" = true) (k__law_any : PySem.W.keepIn K (.ref f__law_any) = true)
    {f__law_is_name : Addr} {oc__law_is_name kV__law_is_name dc__law_is_name pm__law_is_name cd__law_is_name ct__law_is_name : Value} {od__law_is_name an__law_is_name : Option Addr} {sl__law_is_name : Array (Option Value)}
    (a__law_is_name : PySem.W.nsIn K mainGlobals "_law_is_name" = some (some (.ref f__law_is_name))) (l__law_is_name : K.lookup f__law_is_name = some ⟨oc__law_is_name, od__law_is_name, .func (PySem.W.fnOf "_law_is_name" "_law_is_name" (defArgs s__law_is_name) (defBody s__law_is_name) (defScope s__law_is_name) .none kV__law_is_name dc__law_is_name pm__law_is_name an__law_is_name cd__law_is_name ct__law_is_name), sl__law_is_name⟩) (c__law_is_name : PySem.W.codeIn K cd__law_is_name "_law_is_name" = true) (k__law_is_name : PySem.W.keepIn K (.ref f__law_is_name) = true)
    {f__law_number : Addr} {oc__law_number kV__law_number dc__law_number pm__law_number cd__law_number ct__law_number : Value} {od__law_number an__law_number : Option Addr} {sl__law_number : Array (Option Value)}
    (a__law_number : PySem.W.nsIn K mainGlobals "_law_number" = some (some (.ref f__law_number))) (l__law_number : K.lookup f__law_number = some ⟨oc__law_number, od__law_number, .func (PySem.W.fnOf "_law_number" "_law_number" (defArgs s__law_number) (defBody s__law_number) (defScope s__law_number) .none kV__law_number dc__law_number pm__law_number an__law_number cd__law_number ct__law_number), sl__law_number⟩) (c__law_number : PySem.W.codeIn K cd__law_number "_law_number" = true) (k__law_number : PySem.W.keepIn K (.ref f__law_number) = true)
    {f__law_some_member : Addr} {oc__law_some_member kV__law_some_member dc__law_some_member pm__law_some_member cd__law_some_member ct__law_some_member : Value} {od__law_some_member an__law_some_member : Option Addr} {sl__law_some_member : Array (Option Value)}
    (a__law_some_member : PySem.W.nsIn K mainGlobals "_law_some_member" = some (some (.ref f__law_some_member))) (l__law_some_member : K.lookup f__law_some_member = some ⟨oc__law_some_member, od__law_some_member, .func (PySem.W.fnOf "_law_some_member" "_law_some_member" (defArgs s__law_some_member) (defBody s__law_some_member) (defScope s__law_some_member) .none kV__law_some_member dc__law_some_member pm__law_some_member an__law_some_member cd__law_some_member ct__law_some_member), sl__law_some_member⟩) (c__law_some_member : PySem.W.codeIn K cd__law_some_member "_law_some_member" = true) (k__law_some_member : PySem.W.keepIn K (.ref f__law_some_member) = true)
    {f__law_some_write : Addr} {oc__law_some_write kV__law_some_write dc__law_some_write pm__law_some_write cd__law_some_write ct__law_some_write : Value} {od__law_some_write an__law_some_write : Option Addr} {sl__law_some_write : Array (Option Value)}
    (a__law_some_write : PySem.W.nsIn K mainGlobals "_law_some_write" = some (some (.ref f__law_some_write))) (l__law_some_write : K.lookup f__law_some_write = some ⟨oc__law_some_write, od__law_some_write, .func (PySem.W.fnOf "_law_some_write" "_law_some_write" (defArgs s__law_some_write) (defBody s__law_some_write) (defScope s__law_some_write) .none kV__law_some_write dc__law_some_write pm__law_some_write an__law_some_write cd__law_some_write ct__law_some_write), sl__law_some_write⟩) (c__law_some_write : PySem.W.codeIn K cd__law_some_write "_law_some_write" = true) (k__law_some_write : PySem.W.keepIn K (.ref f__law_some_write) = true)
    {f__law_some_marking : Addr} {oc__law_some_marking kV__law_some_marking dc__law_some_marking pm__law_some_marking cd__law_some_marking ct__law_some_marking : Value} {od__law_some_marking an__law_some_marking : Option Addr} {sl__law_some_marking : Array (Option Value)}
    (a__law_some_marking : PySem.W.nsIn K mainGlobals "_law_some_marking" = some (some (.ref f__law_some_marking))) (l__law_some_marking : K.lookup f__law_some_marking = some ⟨oc__law_some_marking, od__law_some_marking, .func (PySem.W.fnOf "_law_some_marking" "_law_some_marking" (defArgs s__law_some_marking) (defBody s__law_some_marking) (defScope s__law_some_marking) .none kV__law_some_marking dc__law_some_marking pm__law_some_marking an__law_some_marking cd__law_some_marking ct__law_some_marking), sl__law_some_marking⟩) (c__law_some_marking : PySem.W.codeIn K cd__law_some_marking "_law_some_marking" = true) (k__law_some_marking : PySem.W.keepIn K (.ref f__law_some_marking) = true)
    {f__law_member_text : Addr} {oc__law_member_text kV__law_member_text dc__law_member_text pm__law_member_text cd__law_member_text ct__law_member_text : Value} {od__law_member_text an__law_member_text : Option Addr} {sl__law_member_text : Array (Option Value)}
    (a__law_member_text : PySem.W.nsIn K mainGlobals "_law_member_text" = some (some (.ref f__law_member_text))) (l__law_member_text : K.lookup f__law_member_text = some ⟨oc__law_member_text, od__law_member_text, .func (PySem.W.fnOf "_law_member_text" "_law_member_text" (defArgs s__law_member_text) (defBody s__law_member_text) (defScope s__law_member_text) .none kV__law_member_text dc__law_member_text pm__law_member_text an__law_member_text cd__law_member_text ct__law_member_text), sl__law_member_text⟩) (c__law_member_text : PySem.W.codeIn K cd__law_member_text "_law_member_text" = true) (k__law_member_text : PySem.W.keepIn K (.ref f__law_member_text) = true)
    {f__law_marking_text : Addr} {oc__law_marking_text kV__law_marking_text dc__law_marking_text pm__law_marking_text cd__law_marking_text ct__law_marking_text : Value} {od__law_marking_text an__law_marking_text : Option Addr} {sl__law_marking_text : Array (Option Value)}
    (a__law_marking_text : PySem.W.nsIn K mainGlobals "_law_marking_text" = some (some (.ref f__law_marking_text))) (l__law_marking_text : K.lookup f__law_marking_text = some ⟨oc__law_marking_text, od__law_marking_text, .func (PySem.W.fnOf "_law_marking_text" "_law_marking_text" (defArgs s__law_marking_text) (defBody s__law_marking_text) (defScope s__law_marking_text) .none kV__law_marking_text dc__law_marking_text pm__law_marking_text an__law_marking_text cd__law_marking_text ct__law_marking_text), sl__law_marking_text⟩) (c__law_marking_text : PySem.W.codeIn K cd__law_marking_text "_law_marking_text" = true) (k__law_marking_text : PySem.W.keepIn K (.ref f__law_marking_text) = true)
    {f__law_bent : Addr} {oc__law_bent kV__law_bent dc__law_bent pm__law_bent cd__law_bent ct__law_bent : Value} {od__law_bent an__law_bent : Option Addr} {sl__law_bent : Array (Option Value)}
    (a__law_bent : PySem.W.nsIn K mainGlobals "_law_bent" = some (some (.ref f__law_bent))) (l__law_bent : K.lookup f__law_bent = some ⟨oc__law_bent, od__law_bent, .func (PySem.W.fnOf "_law_bent" "_law_bent" (defArgs s__law_bent) (defBody s__law_bent) (defScope s__law_bent) .none kV__law_bent dc__law_bent pm__law_bent an__law_bent cd__law_bent ct__law_bent), sl__law_bent⟩) (c__law_bent : PySem.W.codeIn K cd__law_bent "_law_bent" = true) (k__law_bent : PySem.W.keepIn K (.ref f__law_bent) = true)
    {f__law_member_of : Addr} {oc__law_member_of kV__law_member_of dc__law_member_of pm__law_member_of cd__law_member_of ct__law_member_of : Value} {od__law_member_of an__law_member_of : Option Addr} {sl__law_member_of : Array (Option Value)}
    (a__law_member_of : PySem.W.nsIn K mainGlobals "_law_member_of" = some (some (.ref f__law_member_of))) (l__law_member_of : K.lookup f__law_member_of = some ⟨oc__law_member_of, od__law_member_of, .func (PySem.W.fnOf "_law_member_of" "_law_member_of" (defArgs s__law_member_of) (defBody s__law_member_of) (defScope s__law_member_of) .none kV__law_member_of dc__law_member_of pm__law_member_of an__law_member_of cd__law_member_of ct__law_member_of), sl__law_member_of⟩) (c__law_member_of : PySem.W.codeIn K cd__law_member_of "_law_member_of" = true) (k__law_member_of : PySem.W.keepIn K (.ref f__law_member_of) = true)
    {f__law_write_of : Addr} {oc__law_write_of kV__law_write_of dc__law_write_of pm__law_write_of cd__law_write_of ct__law_write_of : Value} {od__law_write_of an__law_write_of : Option Addr} {sl__law_write_of : Array (Option Value)}
    (a__law_write_of : PySem.W.nsIn K mainGlobals "_law_write_of" = some (some (.ref f__law_write_of))) (l__law_write_of : K.lookup f__law_write_of = some ⟨oc__law_write_of, od__law_write_of, .func (PySem.W.fnOf "_law_write_of" "_law_write_of" (defArgs s__law_write_of) (defBody s__law_write_of) (defScope s__law_write_of) .none kV__law_write_of dc__law_write_of pm__law_write_of an__law_write_of cd__law_write_of ct__law_write_of), sl__law_write_of⟩) (c__law_write_of : PySem.W.codeIn K cd__law_write_of "_law_write_of" = true) (k__law_write_of : PySem.W.keepIn K (.ref f__law_write_of) = true)
    {f__law_marking_of : Addr} {oc__law_marking_of kV__law_marking_of dc__law_marking_of pm__law_marking_of cd__law_marking_of ct__law_marking_of : Value} {od__law_marking_of an__law_marking_of : Option Addr} {sl__law_marking_of : Array (Option Value)}
    (a__law_marking_of : PySem.W.nsIn K mainGlobals "_law_marking_of" = some (some (.ref f__law_marking_of))) (l__law_marking_of : K.lookup f__law_marking_of = some ⟨oc__law_marking_of, od__law_marking_of, .func (PySem.W.fnOf "_law_marking_of" "_law_marking_of" (defArgs s__law_marking_of) (defBody s__law_marking_of) (defScope s__law_marking_of) .none kV__law_marking_of dc__law_marking_of pm__law_marking_of an__law_marking_of cd__law_marking_of ct__law_marking_of), sl__law_marking_of⟩) (c__law_marking_of : PySem.W.codeIn K cd__law_marking_of "_law_marking_of" = true) (k__law_marking_of : PySem.W.keepIn K (.ref f__law_marking_of) = true)
    {f__law_long_texts : Addr} {oc__law_long_texts kV__law_long_texts dc__law_long_texts pm__law_long_texts cd__law_long_texts ct__law_long_texts : Value} {od__law_long_texts an__law_long_texts : Option Addr} {sl__law_long_texts : Array (Option Value)}
    (a__law_long_texts : PySem.W.nsIn K mainGlobals "_law_long_texts" = some (some (.ref f__law_long_texts))) (l__law_long_texts : K.lookup f__law_long_texts = some ⟨oc__law_long_texts, od__law_long_texts, .func (PySem.W.fnOf "_law_long_texts" "_law_long_texts" (defArgs s__law_long_texts) (defBody s__law_long_texts) (defScope s__law_long_texts) .none kV__law_long_texts dc__law_long_texts pm__law_long_texts an__law_long_texts cd__law_long_texts ct__law_long_texts), sl__law_long_texts⟩) (c__law_long_texts : PySem.W.codeIn K cd__law_long_texts "_law_long_texts" = true) (k__law_long_texts : PySem.W.keepIn K (.ref f__law_long_texts) = true)
    {f__law_found : Addr} {oc__law_found kV__law_found dc__law_found pm__law_found cd__law_found ct__law_found : Value} {od__law_found an__law_found : Option Addr} {sl__law_found : Array (Option Value)}
    (a__law_found : PySem.W.nsIn K mainGlobals "_law_found" = some (some (.ref f__law_found))) (l__law_found : K.lookup f__law_found = some ⟨oc__law_found, od__law_found, .func (PySem.W.fnOf "_law_found" "_law_found" (defArgs s__law_found) (defBody s__law_found) (defScope s__law_found) .none kV__law_found dc__law_found pm__law_found an__law_found cd__law_found ct__law_found), sl__law_found⟩) (c__law_found : PySem.W.codeIn K cd__law_found "_law_found" = true) (k__law_found : PySem.W.keepIn K (.ref f__law_found) = true)
    {f_law : Addr} {oc_law kV_law dc_law pm_law cd_law ct_law : Value} {od_law an_law : Option Addr} {sl_law : Array (Option Value)}
    (a_law : PySem.W.nsIn K mainGlobals "law" = some (some (.ref f_law))) (l_law : K.lookup f_law = some ⟨oc_law, od_law, .func (PySem.W.fnOf "law" "law" (defArgs s_law) (defBody s_law) (defScope s_law) .none kV_law dc_law pm_law an_law cd_law ct_law), sl_law⟩) (c_law : PySem.W.codeIn K cd_law "law" = true) (k_law : PySem.W.keepIn K (.ref f_law) = true)
    (n_int : PySem.W.nsIn K mainGlobals "int" = some none) (n_len : PySem.W.nsIn K mainGlobals "len" = some none) (n_isinstance : PySem.W.nsIn K mainGlobals "isinstance" = some none) (n_str : PySem.W.nsIn K mainGlobals "str" = some none) (n_range : PySem.W.nsIn K mainGlobals "range" = some none) (n_max : PySem.W.nsIn K mainGlobals "max" = some none) (n_min : PySem.W.nsIn K mainGlobals "min" = some none) (n_list : PySem.W.nsIn K mainGlobals "list" = some none) (n_repr : PySem.W.nsIn K mainGlobals "repr" = some none) (n_enumerate : PySem.W.nsIn K mainGlobals "enumerate" = some none) (n_tuple : PySem.W.nsIn K mainGlobals "tuple" = some none) (n_sorted : PySem.W.nsIn K mainGlobals "sorted" = some none) (n_bool : PySem.W.nsIn K mainGlobals "bool" = some none) (n_dict : PySem.W.nsIn K mainGlobals "dict" = some none) (n_set : PySem.W.nsIn K mainGlobals "set" = some none) (n_ValueError : PySem.W.nsIn K mainGlobals "ValueError" = some none) :
    ∃ fd : FuncData, (∀ (s : Shared) (v : Value), BindsTo s fd ⟨[v], []⟩ [("_law_script", v)]) ∧ ∀ base : Heap, K.In base → base.Ns mainGlobals mg → FnG P w K mg base CX0 9 fa fd ["_law_script"] (spLaw K) := by
  have e := hfa.symm.trans (PySem.W.mg_of X G a_law)
  cases e
  have MG : ∀ {x : Str} {v : Value}, PySem.W.nsIn K mainGlobals x = some (some v) → mg x = some v := fun e => PySem.W.mg_of X G e
  have MN : ∀ {x : Str}, PySem.W.nsIn K mainGlobals x = some none → mg x = none := fun e => PySem.W.mg_none_of X G e
  have B : Bl mg := ⟨MN n_int, MN n_len, MN n_isinstance, MN n_str, MN n_range, MN n_max, MN n_min, MN n_list, MN n_repr, MN n_enumerate, MN n_tuple, MN n_sorted, MN n_bool, MN n_dict, MN n_set, MN n_ValueError⟩
  have F_is_whole := fun_mk (st := s_is_whole) l_is_whole c_is_whole k_is_whole
  have b_is_whole := F_is_whole.binds (ps := ["value"]) fun _ _ _ _ _ _ us hl => match us, hl with | [_], _ => rfl
  have F_is_within := fun_mk (st := s_is_within) l_is_within c_is_within k_is_within
  have b_is_within := F_is_within.binds (ps := ["value", "least", "most"]) fun _ _ _ _ _ _ us hl => match us, hl with | [_, _, _], _ => rfl
  have F_is_name := fun_mk (st := s_is_name) l_is_name c_is_name k_is_name
  have b_is_name := F_is_name.binds (ps := ["value"]) fun _ _ _ _ _ _ us hl => match us, hl with | [_], _ => rfl
  have F_is_mode := fun_mk (st := s_is_mode) l_is_mode c_is_mode k_is_mode
  have b_is_mode := F_is_mode.binds (ps := ["value"]) fun _ _ _ _ _ _ us hl => match us, hl with | [_], _ => rfl
  have F_is_change := fun_mk (st := s_is_change) l_is_change c_is_change k_is_change
  have b_is_change := F_is_change.binds (ps := ["value"]) fun _ _ _ _ _ _ us hl => match us, hl with | [_], _ => rfl
  have F_is_member := fun_mk (st := s_is_member) l_is_member c_is_member k_is_member
  have b_is_member := F_is_member.binds (ps := ["value"]) fun _ _ _ _ _ _ us hl => match us, hl with | [_], _ => rfl
  have F_is_set_number := fun_mk (st := s_is_set_number) l_is_set_number c_is_set_number k_is_set_number
  have b_is_set_number := F_is_set_number.binds (ps := ["value"]) fun _ _ _ _ _ _ us hl => match us, hl with | [_], _ => rfl
  have F_are_different := fun_mk (st := s_are_different) l_are_different c_are_different k_are_different
  have b_are_different := F_are_different.binds (ps := ["members"]) fun _ _ _ _ _ _ us hl => match us, hl with | [_], _ => rfl
  have F_numeral := fun_mk (st := s_numeral) l_numeral c_numeral k_numeral
  have b_numeral := F_numeral.binds (ps := ["word"]) fun _ _ _ _ _ _ us hl => match us, hl with | [_], _ => rfl
  have F_lines_of := fun_mk (st := s_lines_of) l_lines_of c_lines_of k_lines_of
  have b_lines_of := F_lines_of.binds (ps := ["text"]) fun _ _ _ _ _ _ us hl => match us, hl with | [_], _ => rfl
  have F_member_of := fun_mk (st := s_member_of) l_member_of c_member_of k_member_of
  have b_member_of := F_member_of.binds (ps := ["words"]) fun _ _ _ _ _ _ us hl => match us, hl with | [_], _ => rfl
  have F_set_of := fun_mk (st := s_set_of) l_set_of c_set_of k_set_of
  have b_set_of := F_set_of.binds (ps := ["number", "members"]) fun _ _ _ _ _ _ us hl => match us, hl with | [_, _], _ => rfl
  have F_mark_of := fun_mk (st := s_mark_of) l_mark_of c_mark_of k_mark_of
  have b_mark_of := F_mark_of.binds (ps := ["name", "version", "words"]) fun _ _ _ _ _ _ us hl => match us, hl with | [_, _, _], _ => rfl
  have F_write_of := fun_mk (st := s_write_of) l_write_of c_write_of k_write_of
  have b_write_of := F_write_of.binds (ps := ["line"]) fun _ _ _ _ _ _ us hl => match us, hl with | [_], _ => rfl
  have F_read_marking := fun_mk (st := s_read_marking) l_read_marking c_read_marking k_read_marking
  have b_read_marking := F_read_marking.binds (ps := ["text"]) fun _ _ _ _ _ _ us hl => match us, hl with | [_], _ => rfl
  have F__law_tape := fun_mk (st := s__law_tape) l__law_tape c__law_tape k__law_tape
  have b__law_tape := F__law_tape.binds (ps := ["_law_script", "_law_start"]) fun _ _ _ _ _ _ us hl => match us, hl with | [_, _], _ => rfl
  have F__law_pick := fun_mk (st := s__law_pick) l__law_pick c__law_pick k__law_pick
  have b__law_pick := F__law_pick.binds (ps := ["_law_tape_here", "_law_many"]) fun _ _ _ _ _ _ us hl => match us, hl with | [_, _], _ => rfl
  have F__law_one_of := fun_mk (st := s__law_one_of) l__law_one_of c__law_one_of k__law_one_of
  have b__law_one_of := F__law_one_of.binds (ps := ["_law_tape_here", "_law_items"]) fun _ _ _ _ _ _ us hl => match us, hl with | [_, _], _ => rfl
  have F__law_any := fun_mk (st := s__law_any) l__law_any c__law_any k__law_any
  have b__law_any := F__law_any.binds (ps := ["_law_tape_here"]) fun _ _ _ _ _ _ us hl => match us, hl with | [_], _ => rfl
  have F__law_is_name := fun_mk (st := s__law_is_name) l__law_is_name c__law_is_name k__law_is_name
  have b__law_is_name := F__law_is_name.binds (ps := ["_law_value"]) fun _ _ _ _ _ _ us hl => match us, hl with | [_], _ => rfl
  have F__law_number := fun_mk (st := s__law_number) l__law_number c__law_number k__law_number
  have b__law_number := F__law_number.binds (ps := ["_law_word", "_law_low", "_law_high"]) fun _ _ _ _ _ _ us hl => match us, hl with | [_, _, _], _ => rfl
  have F__law_some_member := fun_mk (st := s__law_some_member) l__law_some_member c__law_some_member k__law_some_member
  have b__law_some_member := F__law_some_member.binds (ps := ["_law_tape_here"]) fun _ _ _ _ _ _ us hl => match us, hl with | [_], _ => rfl
  have F__law_some_write := fun_mk (st := s__law_some_write) l__law_some_write c__law_some_write k__law_some_write
  have b__law_some_write := F__law_some_write.binds (ps := ["_law_tape_here"]) fun _ _ _ _ _ _ us hl => match us, hl with | [_], _ => rfl
  have F__law_some_marking := fun_mk (st := s__law_some_marking) l__law_some_marking c__law_some_marking k__law_some_marking
  have b__law_some_marking := F__law_some_marking.binds (ps := ["_law_tape_here", "_law_many"]) fun _ _ _ _ _ _ us hl => match us, hl with | [_, _], _ => rfl
  have F__law_member_text := fun_mk (st := s__law_member_text) l__law_member_text c__law_member_text k__law_member_text
  have b__law_member_text := F__law_member_text.binds (ps := ["_law_member"]) fun _ _ _ _ _ _ us hl => match us, hl with | [_], _ => rfl
  have F__law_marking_text := fun_mk (st := s__law_marking_text) l__law_marking_text c__law_marking_text k__law_marking_text
  have b__law_marking_text := F__law_marking_text.binds (ps := ["_law_story"]) fun _ _ _ _ _ _ us hl => match us, hl with | [_], _ => rfl
  have F__law_bent := fun_mk (st := s__law_bent) l__law_bent c__law_bent k__law_bent
  have b__law_bent := F__law_bent.binds (ps := ["_law_tape_here", "_law_text", "_law_odd"]) fun _ _ _ _ _ _ us hl => match us, hl with | [_, _, _], _ => rfl
  have F__law_member_of := fun_mk (st := s__law_member_of) l__law_member_of c__law_member_of k__law_member_of
  have b__law_member_of := F__law_member_of.binds (ps := ["_law_text"]) fun _ _ _ _ _ _ us hl => match us, hl with | [_], _ => rfl
  have F__law_write_of := fun_mk (st := s__law_write_of) l__law_write_of c__law_write_of k__law_write_of
  have b__law_write_of := F__law_write_of.binds (ps := ["_law_line"]) fun _ _ _ _ _ _ us hl => match us, hl with | [_], _ => rfl
  have F__law_marking_of := fun_mk (st := s__law_marking_of) l__law_marking_of c__law_marking_of k__law_marking_of
  have b__law_marking_of := F__law_marking_of.binds (ps := ["_law_text"]) fun _ _ _ _ _ _ us hl => match us, hl with | [_], _ => rfl
  have F__law_long_texts := fun_mk (st := s__law_long_texts) l__law_long_texts c__law_long_texts k__law_long_texts
  have b__law_long_texts := F__law_long_texts.binds (ps := ["_law_tape_here"]) fun _ _ _ _ _ _ us hl => match us, hl with | [_], _ => rfl
  have F__law_found := fun_mk (st := s__law_found) l__law_found c__law_found k__law_found
  have b__law_found := F__law_found.binds (ps := ["_law_text"]) fun _ _ _ _ _ _ us hl => match us, hl with | [_], _ => rfl
  have F_law := fun_mk (st := s_law) l_law c_law k_law
  have b_law := F_law.binds (ps := ["_law_script"]) fun _ _ _ _ _ _ us hl => match us, hl with | [_], _ => rfl
  have RK : Rk w K mg R := rk_of (MG r_g) r_low r_l
  have HT : ∀ H, SqT K H T_CHANGES [.str "change", .str "replace"] := fun H =>
    .inr ⟨_, #[.str "change" v1, .str "replace" v2], _, c_l, rfl, rfl, (show 2 ≤ sizeLine by decide), .cons ⟨_, rfl⟩ (.cons ⟨_, rfl⟩ .nil)⟩
  refine ⟨PySem.W.fnOf "law" "law" (defArgs s_law) (defBody s_law) (defScope s_law) .none kV_law dc_law pm_law an_law cd_law ct_law, fun s v => .of_eq rfl, fun base _ _ => ?_⟩
  have D_is_whole : Ce P w K mg base CX0 1 "is_whole" ["value"] (fun vs H Q _ => ∃ x d, vs = [x] ∧ Dx K H x d ∧ Q (.bl (isI d)) H) := ⟨_, _, MG a_is_whole, k_is_whole, b_is_whole, ok_whole F_is_whole B⟩
  have D_is_within : Ce P w K mg base CX0 2 "is_within" ["value", "least", "most"] (fun vs H Q _ => ∃ x d lo hi, vs = [x, .int lo, .int hi] ∧ Dx K H x d ∧ Q (.bl (isW lo hi d)) H) := ⟨_, _, MG a_is_within, k_is_within, b_is_within, ok_within F_is_within D_is_whole⟩
  have D_is_name : Ce P w K mg base CX0 1 "is_name" ["value"] (fun vs H Q _ => ∃ x d, vs = [x] ∧ Dx K H x d ∧ Sm d ∧ Q (.bl (nmD d)) H) := ⟨_, _, MG a_is_name, k_is_name, b_is_name, ok_name F_is_name B (MG n_g)⟩
  have D_is_mode : Ce P w K mg base CX0 1 "is_mode" ["value"] (spIs K) := ⟨_, _, MG a_is_mode, k_is_mode, b_is_mode, ok_is F_is_mode B RK⟩
  have D_is_change : Ce P w K mg base CX0 1 "is_change" ["value"] (spB K isCh) := ⟨_, _, MG a_is_change, k_is_change, b_is_change, ok_change F_is_change (MG c_g) HT⟩
  have D_is_member : Ce P w K mg base CX0 3 "is_member" ["value"] (spB K memD) := ⟨_, _, MG a_is_member, k_is_member, b_is_member, ok_member (T_CHANGES := T_CHANGES) F_is_member B (MG l_g) (MG k_g) (MG d_g) D_is_within D_is_mode D_is_change⟩
  have D_is_set_number : Ce P w K mg base CX0 3 "is_set_number" ["value"] (fun vs H Q _ => ∃ x d, vs = [x] ∧ Dx K H x d ∧ Q (.bl (isW 1 1000000 d)) H) := ⟨_, _, MG a_is_set_number, k_is_set_number, b_is_set_number, ok_setno F_is_set_number (MG s_g) D_is_within⟩
  have D_are_different : Ce P w K mg base CX0 2 "are_different" ["members"] (spDiff K) := ⟨_, _, MG a_are_different, k_are_different, b_are_different, ok_diff F_are_different B (MG m_g)⟩
  have D_numeral : Ce P w K mg base CX0 1 "numeral" ["word"] spNum := ⟨_, _, MG a_numeral, k_numeral, b_numeral, ok_numeral F_numeral B (MG qd_g)⟩
  have XB := E_BadText.er base
  have D_lines_of : Ce P w K mg base (L2.CX P w) 4 "lines_of" ["text"] (spLinesX K C_BadText) := ⟨_, _, MG a_lines_of, k_lines_of, b_lines_of, ok_lines F_lines_of B XB⟩
  have D_member_of : Ce P w K mg base CX0 4 "member_of" ["words"] (spMemOf K) := ⟨_, _, MG a_member_of, k_member_of, b_member_of, ok_memof F_member_of B D_numeral D_is_member⟩
  have D_set_of : Ce P w K mg base CX0 4 "set_of" ["number", "members"] (spSetOf K) := ⟨_, _, MG a_set_of, k_set_of, b_set_of, ok_setof F_set_of B D_is_set_number D_are_different⟩
  have D_mark_of : Ce P w K mg base CX0 5 "mark_of" ["name", "version", "words"] (spMarkOf K) := ⟨_, _, MG a_mark_of, k_mark_of, b_mark_of, ok_markof F_mark_of B (MG v_g) D_is_name D_is_within D_is_set_number D_numeral D_member_of⟩
  have D_write_of : Ce P w K mg base CX0 6 "write_of" ["line"] (spWrOf K) := ⟨_, _, MG a_write_of, k_write_of, b_write_of, ok_wrof F_write_of B D_numeral D_member_of D_set_of D_mark_of⟩
  have D_read_marking : Ce P w K mg base (L2.CX P w) 7 "read_marking" ["text"] (spRdX K C_BadText) := ⟨_, _, MG a_read_marking, k_read_marking, b_read_marking, ok_rdm F_read_marking B (MG f_g) XB D_lines_of D_write_of⟩
  have D__law_tape : Ce P w K mg base CX0 1 "_law_tape" ["_law_script", "_law_start"] (spTape K) := ⟨_, _, MG a__law_tape, k__law_tape, b__law_tape, ok_tape F__law_tape B⟩
  have D__law_pick : Ce P w K mg base CX0 1 "_law_pick" ["_law_tape_here", "_law_many"] spPick := ⟨_, _, MG a__law_pick, k__law_pick, b__law_pick, ok_pick F__law_pick B⟩
  have D__law_one_of : Ce P w K mg base CX0 2 "_law_one_of" ["_law_tape_here", "_law_items"] (spOne K) := ⟨_, _, MG a__law_one_of, k__law_one_of, b__law_one_of, ok_one F__law_one_of B D__law_pick⟩
  have D_oneC : Ce P w K mg base CX0 2 "_law_one_of" ["_law_tape_here", "_law_items"] spOneC := ⟨_, _, MG a__law_one_of, k__law_one_of, b__law_one_of, ok_oneC F__law_one_of B D__law_pick⟩
  have D__law_any : Ce P w K mg base CX0 3 "_law_any" ["_law_tape_here"] (spAnyA K) := ⟨_, _, MG a__law_any, k__law_any, b__law_any, ok_anyA F__law_any D__law_one_of⟩
  have D__law_is_name : Ce P w K mg base CX0 1 "_law_is_name" ["_law_value"] (spBS K nmD) := ⟨_, _, MG a__law_is_name, k__law_is_name, b__law_is_name, ok_lname F__law_is_name B⟩
  have D__law_number : Ce P w K mg base CX0 1 "_law_number" ["_law_word", "_law_low", "_law_high"] spLNum := ⟨_, _, MG a__law_number, k__law_number, b__law_number, ok_lnum F__law_number B⟩
  have D__law_some_member : Ce P w K mg base CX0 3 "_law_some_member" ["_law_tape_here"] spMem := ⟨_, _, MG a__law_some_member, k__law_some_member, b__law_some_member, ok_smem F__law_some_member B D__law_one_of⟩
  have D__law_some_write : Ce P w K mg base CX0 4 "_law_some_write" ["_law_tape_here"] (spSWr K) := ⟨_, _, MG a__law_some_write, k__law_some_write, b__law_some_write, ok_swr F__law_some_write B D__law_pick D__law_one_of D__law_some_member⟩
  have D__law_some_marking : Ce P w K mg base CX0 5 "_law_some_marking" ["_law_tape_here", "_law_many"] (spSMg K) := ⟨_, _, MG a__law_some_marking, k__law_some_marking, b__law_some_marking, ok_smg F__law_some_marking B D__law_one_of D__law_some_write⟩
  have D__law_member_text : Ce P w K mg base CX0 1 "_law_member_text" ["_law_member"] (spMbT K) := ⟨_, _, MG a__law_member_text, k__law_member_text, b__law_member_text, ok_mbtext F__law_member_text B⟩
  have D__law_marking_text : Ce P w K mg base CX0 2 "_law_marking_text" ["_law_story"] (spMgT K) := ⟨_, _, MG a__law_marking_text, k__law_marking_text, b__law_marking_text, ok_lmgt F__law_marking_text B D__law_member_text⟩
  have D__law_bent : Ce P w K mg base CX0 3 "_law_bent" ["_law_tape_here", "_law_text", "_law_odd"] (spBentT K) := ⟨_, _, MG a__law_bent, k__law_bent, b__law_bent, ok_bent F__law_bent B D__law_pick D__law_one_of⟩
  have D__law_member_of : Ce P w K mg base CX0 2 "_law_member_of" ["_law_text"] (spLMem K) := ⟨_, _, MG a__law_member_of, k__law_member_of, b__law_member_of, ok_lmem F__law_member_of B D__law_number⟩
  have D__law_write_of : Ce P w K mg base CX0 3 "_law_write_of" ["_law_line"] (spLWr K) := ⟨_, _, MG a__law_write_of, k__law_write_of, b__law_write_of, ok_lwr F__law_write_of B D__law_number D__law_is_name D__law_member_of⟩
  have D__law_marking_of : Ce P w K mg base CX0 4 "_law_marking_of" ["_law_text"] (spMgOf K) := ⟨_, _, MG a__law_marking_of, k__law_marking_of, b__law_marking_of, ok_lmof F__law_marking_of B D__law_write_of⟩
  have D__law_long_texts : Ce P w K mg base CX0 6 "_law_long_texts" ["_law_tape_here"] (spLong K) := ⟨_, _, MG a__law_long_texts, k__law_long_texts, b__law_long_texts, ok_long F__law_long_texts B D__law_pick D__law_one_of D__law_some_marking D__law_marking_text⟩
  have D__law_found : Ce P w K mg base CX0 8 "_law_found" ["_law_text"] (spMgOf K) := ⟨_, _, MG a__law_found, k__law_found, b__law_found, ok_lfound F__law_found E_BadText.g D_read_marking E_BadText.xf E_BadText.no E_BadText.em⟩
  exact ok_law F_law B D__law_tape D__law_pick D__law_one_of D_oneC D__law_any D__law_some_marking D__law_marking_text D__law_bent D__law_long_texts D__law_found D__law_marking_of
end K92
open PySem PySem.W PyProof.Rows
set_option maxRecDepth 100000 in
set_option maxHeartbeats 0 in
theorem PySem.Challenge.cw_rowmarks_k92_texts_that_are_no_markings_holds : PySem.Challenge.rw_rowmarks_k92_texts_that_are_no_markings.Holds := by
  w_on; o_law; k_head; (case hw => w_witness2)
  k_fill
  refine Rm.walkG (l := PySem.Challenge.rw_rowmarks_k92_texts_that_are_no_markings) (k := 9) rfl rfl ⟨rfl, by decide, by decide⟩ (fun w h Y => PySem.W.kIn_of Y) ?F
  case F =>
    intro w mg fa h KX G hmg
    refine' K92.all_mk (P := PySem.Challenge.pw_rowmarks_k92_texts_that_are_no_markings) KX G hmg ?E_BadText ?r_g ?r_l ?r_low ?c_g ?c_l ?l_g ?k_g ?d_g ?s_g ?m_g ?v_g ?qd_g ?f_g ?n_g
      ?a_is_whole ?l_is_whole ?c_is_whole ?k_is_whole ?a_is_within ?l_is_within ?c_is_within ?k_is_within ?a_is_name ?l_is_name ?c_is_name ?k_is_name ?a_is_mode ?l_is_mode ?c_is_mode ?k_is_mode ?a_is_change ?l_is_change ?c_is_change ?k_is_change ?a_is_member ?l_is_member ?c_is_member ?k_is_member ?a_is_set_number ?l_is_set_number ?c_is_set_number ?k_is_set_number ?a_are_different ?l_are_different ?c_are_different ?k_are_different ?a_numeral ?l_numeral ?c_numeral ?k_numeral ?a_lines_of ?l_lines_of ?c_lines_of ?k_lines_of ?a_member_of ?l_member_of ?c_member_of ?k_member_of ?a_set_of ?l_set_of ?c_set_of ?k_set_of ?a_mark_of ?l_mark_of ?c_mark_of ?k_mark_of ?a_write_of ?l_write_of ?c_write_of ?k_write_of ?a_read_marking ?l_read_marking ?c_read_marking ?k_read_marking ?a__law_tape ?l__law_tape ?c__law_tape ?k__law_tape ?a__law_pick ?l__law_pick ?c__law_pick ?k__law_pick ?a__law_one_of ?l__law_one_of ?c__law_one_of ?k__law_one_of ?a__law_any ?l__law_any ?c__law_any ?k__law_any ?a__law_is_name ?l__law_is_name ?c__law_is_name ?k__law_is_name ?a__law_number ?l__law_number ?c__law_number ?k__law_number ?a__law_some_member ?l__law_some_member ?c__law_some_member ?k__law_some_member ?a__law_some_write ?l__law_some_write ?c__law_some_write ?k__law_some_write ?a__law_some_marking ?l__law_some_marking ?c__law_some_marking ?k__law_some_marking ?a__law_member_text ?l__law_member_text ?c__law_member_text ?k__law_member_text ?a__law_marking_text ?l__law_marking_text ?c__law_marking_text ?k__law_marking_text ?a__law_bent ?l__law_bent ?c__law_bent ?k__law_bent ?a__law_member_of ?l__law_member_of ?c__law_member_of ?k__law_member_of ?a__law_write_of ?l__law_write_of ?c__law_write_of ?k__law_write_of ?a__law_marking_of ?l__law_marking_of ?c__law_marking_of ?k__law_marking_of ?a__law_long_texts ?l__law_long_texts ?c__law_long_texts ?k__law_long_texts ?a__law_found ?l__law_found ?c__law_found ?k__law_found ?a_law ?l_law ?c_law ?k_law ?n_int ?n_len ?n_isinstance ?n_str ?n_range ?n_max ?n_min ?n_list ?n_repr ?n_enumerate ?n_tuple ?n_sorted ?n_bool ?n_dict ?n_set ?n_ValueError
    (case E_BadText =>
      refine' Rm.ef_mk (st := K92.s_BadText___init__) KX G ?e_g ?e_l ?e_v ?e_t ?e_sa ?e_ga ?e_gg ?e_ex ?e_ty ?e_k ?e_hd ?e_no ?e_sub ?e_self ?e_sup ?e_any ?e_ha ?e_hn ?e_ht ?e_hm ?e_i ?e_it ?e_f ?e_c ?e_cd ?e_fi ?e_pf ?e_cc ?e_df ?htop ?n_super ?hb1 ?hb2 ?hfn
      (case e_g => k_is)
      (case e_l => k_is)
      (case e_v => decide +kernel)
      (case e_t => first | rfl | decide +kernel)
      (case e_sa => k_is)
      (case e_ga => k_is)
      (case e_gg => k_is)
      (case e_ex => k_is)
      (case e_ty => k_is)
      (case e_k => k_is)
      (case e_hd => k_is)
      (case e_no => k_is)
      (case e_sub => k_is)
      (case e_self => k_is)
      (case e_sup => ks_is)
      (case e_any => k_is)
      (case e_ha => k_is)
      (case e_hn => k_is)
      (case e_ht => k_is)
      (case e_hm => k_is)
      (case e_i => k_is)
      (case e_it => k_is)
      (case e_f => k_is)
      (case e_c => k_is)
      (case e_cd => k_is)
      (case e_fi => rfl)
      (case e_pf => first | rfl | decide +kernel)
      (case e_cc => k_is)
      (case e_df => rfl)
      (case htop => first | rfl | decide +kernel)
      (case n_super => k_is)
      (case hb1 => exact fun _ _ => .all fun us hl => match us, hl with | [_, _], _ => rfl)
      (case hb2 => exact ⟨fun s us w h => match us, h with | [_], _ => .of_eq rfl⟩)
      (case hfn => exact fun base ns T => Rm.fn_err (ars := []) T rfl rfl rfl rfl rfl rfl rfl ns (by first | rfl | decide +kernel) (by decide +kernel) (by decide +kernel) (by decide +kernel) (by decide +kernel) (pl := _) (fun env => rfl) (by decide +kernel) (by decide +kernel)))
    (case r_g => k_is); (case r_l => k_is); (case r_low => first | rfl | decide +kernel); (case c_g => k_is); (case c_l => k_is); (case l_g => k_is); (case k_g => k_is); (case d_g => k_is); (case s_g => k_is); (case m_g => k_is); (case v_g => k_is); (case qd_g => k_is); (case f_g => k_is); (case n_g => k_is)
    (case a_is_whole => k_is); (case l_is_whole => k_is); (case c_is_whole => k_is); (case k_is_whole => k_is)
    (case a_is_within => k_is); (case l_is_within => k_is); (case c_is_within => k_is); (case k_is_within => k_is)
    (case a_is_name => k_is); (case l_is_name => k_is); (case c_is_name => k_is); (case k_is_name => k_is)
    (case a_is_mode => k_is); (case l_is_mode => k_is); (case c_is_mode => k_is); (case k_is_mode => k_is)
    (case a_is_change => k_is); (case l_is_change => k_is); (case c_is_change => k_is); (case k_is_change => k_is)
    (case a_is_member => k_is); (case l_is_member => k_is); (case c_is_member => k_is); (case k_is_member => k_is)
    (case a_is_set_number => k_is); (case l_is_set_number => k_is); (case c_is_set_number => k_is); (case k_is_set_number => k_is)
    (case a_are_different => k_is); (case l_are_different => k_is); (case c_are_different => k_is); (case k_are_different => k_is)
    (case a_numeral => k_is); (case l_numeral => k_is); (case c_numeral => k_is); (case k_numeral => k_is)
    (case a_lines_of => k_is); (case l_lines_of => k_is); (case c_lines_of => k_is); (case k_lines_of => k_is)
    (case a_member_of => k_is); (case l_member_of => k_is); (case c_member_of => k_is); (case k_member_of => k_is)
    (case a_set_of => k_is); (case l_set_of => k_is); (case c_set_of => k_is); (case k_set_of => k_is)
    (case a_mark_of => k_is); (case l_mark_of => k_is); (case c_mark_of => k_is); (case k_mark_of => k_is)
    (case a_write_of => k_is); (case l_write_of => k_is); (case c_write_of => k_is); (case k_write_of => k_is)
    (case a_read_marking => k_is); (case l_read_marking => k_is); (case c_read_marking => k_is); (case k_read_marking => k_is)
    (case a__law_tape => k_is); (case l__law_tape => k_is); (case c__law_tape => k_is); (case k__law_tape => k_is)
    (case a__law_pick => k_is); (case l__law_pick => k_is); (case c__law_pick => k_is); (case k__law_pick => k_is)
    (case a__law_one_of => k_is); (case l__law_one_of => k_is); (case c__law_one_of => k_is); (case k__law_one_of => k_is)
    (case a__law_any => k_is); (case l__law_any => k_is); (case c__law_any => k_is); (case k__law_any => k_is)
    (case a__law_is_name => k_is); (case l__law_is_name => k_is); (case c__law_is_name => k_is); (case k__law_is_name => k_is)
    (case a__law_number => k_is); (case l__law_number => k_is); (case c__law_number => k_is); (case k__law_number => k_is)
    (case a__law_some_member => k_is); (case l__law_some_member => k_is); (case c__law_some_member => k_is); (case k__law_some_member => k_is)
    (case a__law_some_write => k_is); (case l__law_some_write => k_is); (case c__law_some_write => k_is); (case k__law_some_write => k_is)
    (case a__law_some_marking => k_is); (case l__law_some_marking => k_is); (case c__law_some_marking => k_is); (case k__law_some_marking => k_is)
    (case a__law_member_text => k_is); (case l__law_member_text => k_is); (case c__law_member_text => k_is); (case k__law_member_text => k_is)
    (case a__law_marking_text => k_is); (case l__law_marking_text => k_is); (case c__law_marking_text => k_is); (case k__law_marking_text => k_is)
    (case a__law_bent => k_is); (case l__law_bent => k_is); (case c__law_bent => k_is); (case k__law_bent => k_is)
    (case a__law_member_of => k_is); (case l__law_member_of => k_is); (case c__law_member_of => k_is); (case k__law_member_of => k_is)
    (case a__law_write_of => k_is); (case l__law_write_of => k_is); (case c__law_write_of => k_is); (case k__law_write_of => k_is)
    (case a__law_marking_of => k_is); (case l__law_marking_of => k_is); (case c__law_marking_of => k_is); (case k__law_marking_of => k_is)
    (case a__law_long_texts => k_is); (case l__law_long_texts => k_is); (case c__law_long_texts => k_is); (case k__law_long_texts => k_is)
    (case a__law_found => k_is); (case l__law_found => k_is); (case c__law_found => k_is); (case k__law_found => k_is)
    (case a_law => k_is); (case l_law => k_is); (case c_law => k_is); (case k_law => k_is)
    (case n_int => k_is); (case n_len => k_is); (case n_isinstance => k_is); (case n_str => k_is); (case n_range => k_is); (case n_max => k_is); (case n_min => k_is); (case n_list => k_is); (case n_repr => k_is); (case n_enumerate => k_is); (case n_tuple => k_is); (case n_sorted => k_is); (case n_bool => k_is); (case n_dict => k_is); (case n_set => k_is); (case n_ValueError => k_is)

