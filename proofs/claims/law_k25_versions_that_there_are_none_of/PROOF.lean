import PyProof.Rows.All
import Wide.All
import OpenK.AllK
import Wide.FinOn
import HandS.ForMost
import HandS.ForExc
import HandS.ExcInit
import HandS.WideBits
import HandS.EndBits
import HandS.Property
import HandS.OwnEq
import HandS.Conv
import HandS.IsInst
import HandS.MakeKw
import HandS.Style
import HandS.RaiseMore
import PyProof.ReprLen
import KE.KExcSuper
import HandS.ExcField
import HandS.TryOnly
import HandS.TryMany
import HandS.CallSlots
import HandS.More
import HandS.Ends
import KE.KMethU
import KE.KMinKey
import HandS.SortKw
import KE.KRevSl
import HandS.ExcIs
import HandS.SetFor
import KE.KDictLaws
import HandS.Text
import HandS.Lambda
import HandS.EndTab
import HandS.StrMore
import HandS.Walk
import KE.GoesEnum
import KE.IntTextLaws
import KE.IntTextText
import PyProof.Rows.StrDigitsNeg
import PyProof.Rows.ReprOcc
import KE.LtData
import KE.GoesZip
import KE.KUnpackStar
import HandS.Zip
import HandS.DictEq
import HandS.WordsExc
import KE.DatumOrd
import PySem.Challenge.RW_rowmarks_k25_versions_that_there_are_non
set_option Elab.async false
set_option linter.all false
set_option maxRecDepth 100000
set_option maxHeartbeats 4000000
namespace Rm
open PySem PySem.Spec L2
open PyProof.Rows hiding St

/-! ### promises of defs that know that no display is being written -/
def Gd (A : Around) : Prop := A.guards = some []
theorem Gd.deeper {A : Around} (h : Gd A) (e : Env) : Gd (A.deeper e) := h
theorem Gd.in1 {A : Around} (h : Gd A) : Gd A.in1 := h
theorem Gd.make {A : Around} (h : Gd A) (C : Addr) (us : List Value)
    (kw : List (Str × Value)) : Gd (A.under (.builtin "type.__call__" ⟨.ref C :: us, kw⟩)) := by
  have e : Code.guards (.builtin "type.__call__" ⟨.ref C :: us, kw⟩) = [] := by
    unfold Code.guards Code.isGuard
    exact if_neg (show ¬ (guardIds.contains "type.__call__" = true) by decide +kernel)
  unfold Gd Around.under
  dsimp only
  rw [e]
  exact h

structure FnG (P : Program) (w : World) (K : PySem.W.Frag)
    (mg : Str → Option Value) (base : Heap) (CX : CXT) (k : Nat)
    (f : Addr) (fd : FuncData) (ps : List Str) (sp : Sp) : Prop where
  len : ∀ vs H Q E, sp vs H Q E → vs.length = ps.length
  run : ∀ (A : Around) (outer : List Env) (s : Shared) (H : Hp) (ar : Args)
    (us : List Value) (vs : List V) (Q : VK) (E : XK), Room k A → Gd A →
    Env0 P w K mg base A outer s H → BindsTo s fd ar (ps.zip us) → Vals vs us →
    sp vs H Q E →
    codeAny (model P w) A (.call (.ref f) ar) (CR CX outer P w H s Q E) s

section
variable {P : Program} {w : World} {K : PySem.W.Frag}
variable {mg : Str → Option Value} {base : Heap} {CX : CXT} {k j : Nat}
variable {f : Addr} {fd : FuncData} {ps : List Str} {sp sp' : Sp}
theorem FnG.of (F : FnOk P w K mg base CX k f fd ps sp) : FnG P w K mg base CX k f fd ps sp :=
  ⟨F.len, fun A outer s H ar us vs Q E hr _ => F.run A outer s H ar us vs Q E hr⟩
theorem FnG.mono (F : FnG P w K mg base CX j f fd ps sp) (h : j ≤ k) : FnG P w K mg base CX k f fd ps sp :=
  ⟨F.len, fun A outer s H ar us vs Q E hr => F.run A outer s H ar us vs Q E (hr.mono h)⟩
theorem FnG.imp (F : FnG P w K mg base CX k f fd ps sp)
    (h : ∀ vs H Q E, sp' vs H Q E → sp vs H Q E) : FnG P w K mg base CX k f fd ps sp' :=
  ⟨fun vs H Q E q => F.len vs H Q E (h _ _ _ _ q),
    fun A outer s H ar us vs Q E hr hg e0 hb hv hs =>
      F.run A outer s H ar us vs Q E hr hg e0 hb hv (h _ _ _ _ hs)⟩
end

/-! ### calls -/
section
variable {X : Cx} {CX : CXT} {k : Nat} {f C : Addr} {fd : FuncData} {ps : List Str} {sp : Sp}
variable {dvs : List V} {ds : List Value} {E : XK} {x m : Str} {p pos apos : Pos} {e o : Expr}
variable {es : List Expr} {ta : TE} {t : TA}

/-- behind a callee's end -/
theorem came {pins : List (Addr × Obj)} {σ : St} {H : Hp} {s s' : Shared} {Q : VK} {r : Result}
    (hx : Passes CX X E) (I : Inv X pins σ H s)
    (hq : CR CX X.stack X.prog X.w H s Q E r s') :
    wants (EP X pins σ Q) X.xe r s' := by
  match r, hq with
  | .error e, hq => exact hx pins σ H s e s' I hq
  | .ok (.ret u), hq => exact I.after hq
  | .ok .next, hq => exact False.elim hq
  | .ok .brk, hq => exact False.elim hq
  | .ok .cont, hq => exact False.elim hq

theorem goes {pins : List (Addr × Obj)} {σ : St} {H : Hp} {s : Shared} {Q : VK}
    {us : List Value} {vs : List V}
    (F : FnG X.prog X.w X.K X.mg X.base CX k f fd ps sp) (hr : Room k X.A) (hG : Gd X.A)
    (hb : Binds X.K fd ps ds) (hd : Vals dvs ds) (hx : Passes CX X E)
    (I : Inv X pins σ H s) (r : Vals vs us) (h : sp (vs ++ dvs) H Q E) :
    wpAny (model X.prog X.w) X.A (call (.ref f) us) (EP X pins σ Q) X.xe s := by
  have both := r.append hd
  have hl : (us ++ ds).length = ps.length := both.length.symm.trans (F.len _ _ _ _ h)
  exact wpAny_call (codeAny_mono (F.run X.A X.stack s H ⟨us, []⟩ _ _ Q E hr hG I.env0
    (hb s us I.kIn hl) both h) fun r s' hq => came hx I hq)

theorem pe_fn (F : FnG X.prog X.w X.K X.mg X.base CX k f fd ps sp) (hr : Room k X.A) (hG : Gd X.A)
    (hg : Gl X x) (hm : X.mg x = some (.ref f)) (hk : PySem.W.keepIn X.K (.ref f) = true)
    (hb : Binds X.K fd ps ds) (hd : Vals dvs ds) (hx : Passes CX X E) (ha : PA X (e :: es) t)
    (hdb : (x == ("__debug__" : Str)) = false := by decide)
    (he : starEach (e :: es) X.env = (false, eval e X.env) :: starEach es X.env := by rfl)
    (hpl : (backTo pos (starEach es X.env)).any (·.1) = false := by rfl) :
    PE X (.Call (.Name x p) (e :: es) [] pos) (tCall sp dvs E t) :=
  ⟨fun pins s σ H Q I h => wpAny_Call_Name_kw (ld_glob I hg hm
    (PySem.W.callWith_K (h₀ := X.base) I.ok.mod.kin hk
      (thn (ha.run pos pins s σ H _ I h) fun us s1 ⟨vs, H1, I1, r, q⟩ =>
        ⟨I1.kIn, goes F hr hG hb hd hx I1 r q⟩) he hpl) hdb)⟩

theorem pe_fn0 (F : FnG X.prog X.w X.K X.mg X.base CX k f fd ps sp) (hr : Room k X.A) (hG : Gd X.A)
    (hg : Gl X x) (hm : X.mg x = some (.ref f)) (hk : PySem.W.keepIn X.K (.ref f) = true)
    (hb : Binds X.K fd ps ds) (hd : Vals dvs ds) (hx : Passes CX X E)
    (hdb : (x == ("__debug__" : Str)) = false := by decide) :
    PE X (.Call (.Name x p) [] [] pos) (tCall sp dvs E tNil) :=
  ⟨fun pins s σ H Q I h => wpAny_Call_Name_kw (ld_glob I hg hm
    (PySem.W.callWith_K0 I.kIn hk (goes (us := []) F hr hG hb hd hx I .nil h)) hdb)⟩

theorem pe_mth {pl : Sem Bool} (he : PE X o ta) (c : Cls X.K C) (hm : Meth X.K C m f)
    (F : FnG X.prog X.w X.K X.mg X.base CX k f fd ps sp) (hr : Room k X.A) (hG : Gd X.A)
    (hb : Binds X.K fd ps ds) (hd : Vals dvs ds) (hx : Passes CX X E) (ha : PA X (e :: es) t)
    (hst : starEach (e :: es) X.env = (false, eval e X.env) :: starEach es X.env := by rfl)
    (hpl : (backTo pos (starEach es X.env)).any (·.1) = false := by rfl)
    (ht : eval (.Call (.Attribute o m apos) (e :: es) [] pos) X.env = (do
      let ov ← eval o X.env
      standAt apos.atName
      let (g, first) ← holding [ov] (getMethod ov m pl)
      callWith pos g first (backTo pos (starEach (e :: es) X.env))
        (backToKw pos (keywordEach [] X.env))) := by rfl) :
    PE X (.Call (.Attribute o m apos) (e :: es) [] pos) (tMeth C m sp dvs E ta t) := by
  constructor
  intro pins s σ H Q I h
  refine PySem.W.methodCall_KW (pl := pl)
    (thn (he.run pins s σ H _ I h) fun u s1 ⟨y, H1, I1, ry, a, dx, fs, ey, ea, l, q⟩ => ?_) ht
  obtain rfl := ey
  have ru : u = Value.ref a := ry
  rw [ru]
  exact getmeth_ok I1 ea c hm l (PySem.W.callWith_K (first := [.ref a]) (h₀ := X.base)
    I.ok.mod.kin hm.kp (thn (ha.run pos pins s1 σ H1 _ I1 q) fun us s2 ⟨vs, H2, I2, r, q2⟩ =>
      ⟨I2.kIn, goes (us := .ref a :: us) (vs := .ref a :: vs) F hr hG hb hd hx I2 (.cons rfl r) q2⟩) hst hpl)

theorem pe_mth0 {pl : Sem Bool} (he : PE X o ta) (c : Cls X.K C) (hm : Meth X.K C m f)
    (F : FnG X.prog X.w X.K X.mg X.base CX k f fd ps sp) (hr : Room k X.A) (hG : Gd X.A)
    (hb : Binds X.K fd ps ds) (hd : Vals dvs ds) (hx : Passes CX X E)
    (ht : eval (.Call (.Attribute o m apos) [] [] pos) X.env = (do
      let ov ← eval o X.env
      standAt apos.atName
      let (g, first) ← holding [ov] (getMethod ov m pl)
      callWith pos g first (backTo pos (starEach [] X.env))
        (backToKw pos (keywordEach [] X.env))) := by rfl) :
    PE X (.Call (.Attribute o m apos) [] [] pos) (tMeth C m sp dvs E ta tNil) := by
  constructor
  intro pins s σ H Q I h
  refine PySem.W.methodCall_KW (pl := pl)
    (thn (he.run pins s σ H _ I h) fun u s1 ⟨y, H1, I1, ry, a, dx, fs, ey, ea, l, q⟩ => ?_) ht
  obtain rfl := ey
  have ru : u = Value.ref a := ry
  rw [ru]
  exact getmeth_ok I1 ea c hm l (PySem.W.callWith_K0 (first := [.ref a]) I1.kIn hm.kp
    (goes (us := [.ref a]) (vs := [.ref a]) F hr hG hb hd hx I1 (.cons rfl .nil) q))

/-! ### a new instance -/
theorem grows {pins : List (Addr × Obj)} {σ : St} {H : Hp} {s : Shared} {Q : VK}
    {us : List Value} {vs : List V} (M : Mk X.K C f)
    (F : FnG X.prog X.w X.K X.mg X.base CX k f fd ps sp) (hr : Room (k + 1) X.A) (hG : Gd X.A)
    (hb : Binds X.K fd ps ds) (hd : Vals dvs ds) (hx : Passes CX X E)
    (I : Inv X pins σ H s) (r : Vals vs us)
    (h : ∀ y dx, H y = none → H dx = none → dx ≠ y →
      sp (.ref y :: (vs ++ dvs)) (upd (upd H dx (.own y)) y (.ins C dx []))
        (fun v H2 => v = .non ∧ Q (.ref y) H2) E) :
    wpAny (model X.prog X.w) X.A (call (.ref C) us) (EP X pins σ Q) X.xe s := by
  have n1 : H (s.heap.objs.size + 1) = none := I.hok.fresh (Nat.le_succ _)
  have n0 : H s.heap.objs.size = none := I.hok.fresh (Nat.le_refl _)
  have hq := h _ _ n1 n0 (Nat.ne_of_lt (Nat.lt_succ_self _))
  have I2 := Inv.made (C := C) I
  have both : Vals (V.ref (s.heap.objs.size + 1) :: (vs ++ dvs))
      (Value.ref (s.heap.objs.size + 1) :: (us ++ ds)) := .cons rfl (r.append hd)
  have hl : (Value.ref (s.heap.objs.size + 1) :: us ++ ds).length = ps.length :=
    both.length.symm.trans (F.len _ _ _ _ hq)
  refine wpAny_call (make_map (f := f) I.kIn M.makes M.init (beq_iff_eq.mp M.fn)
    (codeAny_mono (F.run _ X.stack _ _ ⟨Value.ref (s.heap.objs.size + 1) :: us, []⟩ _ _ _ E
      (hr.make C us []) (hG.make C us []) (I2.env0.make C us [])
      (hb _ (Value.ref (s.heap.objs.size + 1) :: us) I2.kIn hl) both hq) fun r s' hq' => ?_))
  match r, hq' with
  | .error er, hq' => exact hx pins σ _ _ er s' I2 hq'
  | .ok (.ret u), hq' =>
    obtain ⟨v, H', I3, rv, ev, q3⟩ := I2.after hq'
    subst ev
    exact ⟨rv, V.ref (s.heap.objs.size + 1), H', I3, rfl, q3⟩
  | .ok .next, hq' => exact False.elim hq'
  | .ok .brk, hq' => exact False.elim hq'
  | .ok .cont, hq' => exact False.elim hq'

theorem pe_new (M : Mk X.K C f) (F : FnG X.prog X.w X.K X.mg X.base CX k f fd ps sp)
    (hr : Room (k + 1) X.A) (hG : Gd X.A) (hg : Gl X x) (hm : X.mg x = some (.ref C))
    (hb : Binds X.K fd ps ds) (hd : Vals dvs ds) (hx : Passes CX X E) (ha : PA X (e :: es) t)
    (hdb : (x == ("__debug__" : Str)) = false := by decide)
    (he : starEach (e :: es) X.env = (false, eval e X.env) :: starEach es X.env := by rfl)
    (hpl : (backTo pos (starEach es X.env)).any (·.1) = false := by rfl) :
    PE X (.Call (.Name x p) (e :: es) [] pos) (tMake C sp dvs E t) :=
  ⟨fun pins s σ H Q I h => wpAny_Call_Name_kw (ld_glob I hg hm
    (PySem.W.callWith_K (h₀ := X.base) I.ok.mod.kin M.kp
      (thn (ha.run pos pins s σ H _ I h) fun us s1 ⟨vs, H1, I1, r, q⟩ =>
        ⟨I1.kIn, grows M F hr hG hb hd hx I1 r q⟩) he hpl) hdb)⟩

theorem pe_new0 (M : Mk X.K C f) (F : FnG X.prog X.w X.K X.mg X.base CX k f fd ps sp)
    (hr : Room (k + 1) X.A) (hG : Gd X.A) (hg : Gl X x) (hm : X.mg x = some (.ref C))
    (hb : Binds X.K fd ps ds) (hd : Vals dvs ds) (hx : Passes CX X E)
    (hdb : (x == ("__debug__" : Str)) = false := by decide) :
    PE X (.Call (.Name x p) [] [] pos) (tMake C sp dvs E tNil) :=
  ⟨fun pins s σ H Q I h => wpAny_Call_Name_kw (ld_glob I hg hm
    (PySem.W.callWith_K0 I.kIn M.kp (grows (us := []) M F hr hG hb hd hx I .nil h)) hdb)⟩
end

/-! ### a def by its body -/
section
variable {P : Program} {w : World} {K : PySem.W.Frag} {mg : Str → Option Value} {base : Heap}
theorem fn_in {CX : CXT} {x qual : Str} {st : Stmt} {f : Addr} {fd : FuncData} {N ps : List Str}
    {k : Nat} {sp : Sp} (F : Fun K x qual st f fd) (S : FnScope N ps (defScope st))
    (len : ∀ vs H Q E, sp vs H Q E → vs.length = ps.length)
    (body : ∀ (cdv : Value) (A : Around) (outer : List Env) (s : Shared) (H : Hp) (vs : List V)
        (Q : VK) (E : XK), Room k (A.deeper (envOfC qual (defScope st) s.heap.objs.size f cdv)) →
      Gd (A.deeper (envOfC qual (defScope st) s.heap.objs.size f cdv)) → sp vs H Q E →
      ∃ t, PSs (cxOf CX P w K mg base N qual (defScope st) f cdv A outer s H E) (defBody st) t ∧
        t { nx := fun _ H' => Q .non H', rt := Q } (start N vs) H) :
    FnG P w K mg base CX (k + 1) f fd ps sp := by
  obtain ⟨oc, od, kV, doc, pm, an, cdv, ct, osl, rfl, lk, hcd⟩ := F.ex
  refine ⟨len, fun A outer s H ar us vs Q E hr hG e0 hb r hsp => ?_⟩
  have hl := len _ _ _ _ hsp
  have up : ∀ b o, base.get? b = some o → s.heap.get? b = some o := fun b o e => (e0.bs b o e).1
  have KX : K.In s.heap := e0.mod.kin.keeps up
  have lim : s.heap.NoLimit := e0.mod.nolimit.keeps up
  refine codeAny_call_function hr.depth (KX _ _ lk) rfl S.co S.gen rfl
    (PySem.W.codeRec_of KX hcd) (hb _ _ _ _ ?_)
  refine wpAny_newFunctionEnv_cells S.kind (fun ⟨n, v⟩ hy => ?_) fun env he s1 z => ?_
  · exact (S.par n (List.of_mem_zip hy).1).imp id
      fun q => ⟨q, PySem.W.cellsFrom_some _ _ _ (.inl q)⟩
  subst he
  refine ⟨lim.keeps z.toInCall.keep, codeAny_func ?_⟩
  obtain ⟨t, ht, hq⟩ := body cdv A outer s H vs Q E (hr.deeper _) (hG.deeper _) hsp
  have I := inv_start (CX := CX) (E := E) (qual := qual) (f := f) (cd := cdv) S hr.hd e0 hl r z
  refine wpAny_mono (ht.run [] s1 (start N vs) H _ I hq) (fun fl s' hs => ?_) fun e s' hs => hs
  match fl, hs with
  | .ret u, ⟨v, σ', H', J, rv, q⟩ => exact ⟨v, H', J.os, J.bare, J.base, J.hok, rv, q⟩
  | .next, ⟨σ', H', J, q⟩ => exact ⟨V.non, H', J.os, J.bare, J.base, J.hok, rfl, q⟩
  | .brk, ⟨_, _, _, q⟩ => exact False.elim q
  | .cont, ⟨_, _, _, q⟩ => exact False.elim q

/-- nothing leaves the def -/
theorem fn_q {x qual : Str} {st : Stmt} {f : Addr} {fd : FuncData} {N ps : List Str}
    {k : Nat} {sp : Sp} (F : Fun K x qual st f fd) (S : FnScope N ps (defScope st))
    (len : ∀ vs H Q E, sp vs H Q E → vs.length = ps.length)
    (body : ∀ (cdv : Value) (A : Around) (outer : List Env) (s : Shared) (H : Hp) (vs : List V)
        (Q : VK) (E : XK), Room k (A.deeper (envOfC qual (defScope st) s.heap.objs.size f cdv)) →
      Gd (A.deeper (envOfC qual (defScope st) s.heap.objs.size f cdv)) → sp vs H Q E →
      ∃ t, PSs (cxOf CX0 P w K mg base N qual (defScope st) f cdv A outer s H E).nox (defBody st) t ∧
        t { nx := fun _ H' => Q .non H', rt := Q } (start N vs) H) :
    FnG P w K mg base CX0 (k + 1) f fd ps sp :=
  fn_in F S len fun cdv A outer s H vs Q E hr hG hs =>
    let ⟨t, h, q⟩ := body cdv A outer s H vs Q E hr hG hs
    ⟨t, h.nox, q⟩
end
end Rm

set_option maxRecDepth 100000
set_option maxHeartbeats 4000000
namespace Rm
open PySem PySem.Spec L2
open PyProof.Rows hiding St

/-! ### data of any kind: what stands behind a value -/
def keyD : Key → PyData
  | .inl i => .int i
  | .inr x => .str x
mutual
inductive Dx (K : PySem.W.Frag) (H : Hp) : V → PyData → Prop
  | non : Dx K H .non .none
  | bl (b : Bool) : Dx K H (.bl b) (.bool b)
  | int (i : Int) : Dx K H (.int i) (.int i)
  | str (x : Str) : Dx K H (.str x) (.str x)
  | lst {a : Addr} {xs : List V} {ds : List PyData} :
      SqL K H a xs → DxAll K H xs ds → Dx K H (.ref a) (.list ds)
  | tup {a : Addr} {xs : List V} {ds : List PyData} :
      SqT K H a xs → DxAll K H xs ds → Dx K H (.ref a) (.tuple ds)
  | dic {a : Addr} {kvs : List (Key × V)} {es : List (PyData × PyData)} :
      Rd H a (.dK kvs) → DxKv K H kvs es → Dx K H (.ref a) (.dict es)
inductive DxAll (K : PySem.W.Frag) (H : Hp) : List V → List PyData → Prop
  | nil : DxAll K H [] []
  | cons {v : V} {vs : List V} {d : PyData} {ds : List PyData} :
      Dx K H v d → DxAll K H vs ds → DxAll K H (v :: vs) (d :: ds)
inductive DxKv (K : PySem.W.Frag) (H : Hp) : List (Key × V) → List (PyData × PyData) → Prop
  | nil : DxKv K H [] []
  | cons {k : Key} {v : V} {r : List (Key × V)} {d : PyData} {es : List (PyData × PyData)} :
      Dx K H v d → DxKv K H r es → DxKv K H ((k, v) :: r) ((keyD k, d) :: es)
end

/-- what is read stays -/
def SameR (H H' : Hp) : Prop := ∀ a u, Rd H a u → Rd H' a u
theorem SameR.of {H H' : Hp} (e : Same H H') : SameR H H' := fun a u h =>
  h.elim (fun h => .inl (e _ _ h)) fun ⟨o, h⟩ => .inr ⟨o, e _ _ h⟩
theorem SameR.trans {H H' H2 : Hp} (e : SameR H H') (e2 : SameR H' H2) : SameR H H2 := fun a u h => e2 a u (e a u h)
/-- a thing that is locked is read as before -/
theorem SameR.lock {H : Hp} {d : Addr} {o : Obj} {u : HO} (h : H d = some u) (n : ∀ o' u', u ≠ .frz o' u') : SameR H (upd H d (.frz o u)) := fun a w r => by
  by_cases z : a = d
  · subst z
    rcases r with r | ⟨o', r⟩
    · rw [h] at r; cases r
      exact .inr ⟨o, upd_same⟩
    · rw [h] at r; cases r
      exact absurd rfl (n _ _)
  · rcases r with r | ⟨o', r⟩
    · exact .inl (by rw [upd_ne z]; exact r)
    · exact .inr ⟨o', by rw [upd_ne z]; exact r⟩
theorem sq_upR {K : PySem.W.Frag} {H H' : Hp} {a : Addr} {xs : List V} (e : SameR H H')
    (h : SqL K H a xs) : SqL K H' a xs := h.elim (fun h => .inl (e _ _ h)) .inr
theorem st_upR {K : PySem.W.Frag} {H H' : Hp} {a : Addr} {xs : List V} (e : SameR H H')
    (h : SqT K H a xs) : SqT K H' a xs := h.elim (fun h => .inl (e _ _ h)) .inr
theorem sq_up {K : PySem.W.Frag} {H H' : Hp} {a : Addr} {xs : List V} (e : Same H H')
    (h : SqL K H a xs) : SqL K H' a xs := sq_upR (.of e) h
mutual
theorem Dx.upR {K : PySem.W.Frag} {H H' : Hp} (e : SameR H H') : ∀ {v : V} {d : PyData},
    Dx K H v d → Dx K H' v d
  | _, _, .non => .non
  | _, _, .bl b => .bl b
  | _, _, .int i => .int i
  | _, _, .str x => .str x
  | _, _, .lst h r => .lst (sq_upR e h) (DxAll.upR e r)
  | _, _, .tup h r => .tup (st_upR e h) (DxAll.upR e r)
  | _, _, .dic h r => .dic (e _ _ h) (DxKv.upR e r)
theorem DxAll.upR {K : PySem.W.Frag} {H H' : Hp} (e : SameR H H') : ∀ {vs : List V} {ds : List PyData},
    DxAll K H vs ds → DxAll K H' vs ds
  | _, _, .nil => .nil
  | _, _, .cons h r => .cons (Dx.upR e h) (DxAll.upR e r)
theorem DxKv.upR {K : PySem.W.Frag} {H H' : Hp} (e : SameR H H') :
    ∀ {vs : List (Key × V)} {ds : List (PyData × PyData)}, DxKv K H vs ds → DxKv K H' vs ds
  | _, _, .nil => .nil
  | _, _, .cons h r => .cons (Dx.upR e h) (DxKv.upR e r)
end
theorem Dx.up {K : PySem.W.Frag} {H H' : Hp} {v : V} {d : PyData} (e : Same H H') (h : Dx K H v d) : Dx K H' v d := h.upR (.of e)
theorem DxAll.get {K : PySem.W.Frag} {H : Hp} : ∀ {vs : List V} {ds : List PyData} {i : Nat} {v : V}, DxAll K H vs ds → vs[i]? = some v →
    ∃ d, ds[i]? = some d ∧ Dx K H v d
  | _, _, _, _, .nil, h => by simp at h
  | _, _, 0, _, .cons h _, e => by simp at e; subst e; exact ⟨_, rfl, h⟩
  | _, _, i + 1, _, .cons _ r, e => by simp at e; simpa using DxAll.get r e

theorem DxKv.keys {K : PySem.W.Frag} {H : Hp} : ∀ {kvs : List (Key × V)} {es : List (PyData × PyData)},
    DxKv K H kvs es → es.map (·.1) = kvs.map fun p => keyD p.1
  | _, _, .nil => rfl
  | _, _, .cons _ r => by simp only [List.map_cons]; rw [DxKv.keys r]

section
variable {X : Cx} {pins : List (Addr × Obj)} {σ : L2.St} {H : Hp} {s : Shared}

/-- how u is written, and that it can be read -/
def Shw (P : Program) (w : World) (h : Heap) (u : Value) (d : PyData) : Prop :=
  (∃ as, Reads h u d as) ∧ ∃ bs, ReadAtMost h d.depth bs ∧ ReprK P w bs h d.depth u d.shown
def ShwAll (P : Program) (w : World) (h : Heap) (us : List Value) (ds : List PyData) : Prop :=
  (∃ as, ReadsAll h us ds as) ∧ ∃ bs, ReadAtMost h (PyData.depthAll ds) bs ∧
    ReprAllK P w bs h (PyData.depthAll ds) us (PyData.shownAll ds)

theorem ShwAll.none {P : Program} {w : World} {h : Heap} : ShwAll P w h [] [] :=
  ⟨⟨_, .nil⟩, [], (fun _ z => nomatch z), by simp only [PyData.shownAll]; exact .nil⟩
theorem ShwAll.more {P : Program} {w : World} {h : Heap} {u : Value} {us : List Value} {d : PyData}
    {ds : List PyData} (a : Shw P w h u d) (b : ShwAll P w h us ds) : ShwAll P w h (u :: us) (d :: ds) := by
  obtain ⟨⟨_, r1⟩, b1, m1, k1⟩ := a
  obtain ⟨⟨_, r2⟩, b2, m2, k2⟩ := b
  refine ⟨⟨_, .cons r1 r2⟩, b1 ++ b2, ?_, ?_⟩
  · simp only [PyData.depthAll]
    exact (m1.mono (Nat.le_max_left _ _)).append (m2.mono (Nat.le_max_right _ _))
  · simp only [PyData.depthAll, PyData.shownAll]
    exact .cons ((k1.more fun _ z => List.mem_append_left _ z).level_le (Nat.le_max_left _ _))
      (k2.more_le (fun _ z => List.mem_append_right _ z) (Nat.le_max_right _ _))

theorem kv_read : ∀ {kvs : List (Key × V)} {vs : List (Key × Value)} {es : List DictEntry}
    {P : Program} {w : World}, KV kvs vs → Pairs (mixKind P w) es vs →
    (∀ (h : Heap), ∀ (ks : List PyData), ks = kvs.map (fun p => keyD p.1) →
      PyData.showableAll ks = true → (∀ t ∈ PyData.shownAll ks, t.length ≤ sizeLine) →
      ShwAll P w h (es.map (·.key)) ks) ∧ Vals (kvs.map (·.2)) (es.map (·.val))
  | _, _, _, P, w, .nil, .nil => ⟨fun h ks e _ _ => by subst e; exact ShwAll.none, .nil⟩
  | _, _, _, P, w, .cons (a := (k, v)) (b := (k', u)) hr tl, .cons (e := e) hk hv r => by
    obtain ⟨ih1, ih2⟩ := kv_read tl r
    obtain ⟨rfl, rv⟩ := hr
    refine ⟨fun h ks e2 hs hz => ?_, ?_⟩
    · subst e2
      simp only [List.map_cons, PyData.showableAll, Bool.and_eq_true] at hs
      simp only [List.map_cons, PyData.shownAll] at hz ⊢
      refine ShwAll.more ?_ (ih1 h _ rfl hs.2 fun t ht => hz t (List.mem_cons_of_mem _ ht))
      have z0 := hz _ (List.mem_cons_self ..)
      rcases keyIs_shape (k := k) (v := e.key) hk with ⟨i, t, ek, ev⟩ | ⟨x, t, ek, ev⟩
      · subst ek
        rw [ev]
        have hi : i.natAbs.log2 < 1920 := by simpa [keyD, PyData.showable] using hs.1
        refine ⟨⟨_, .int i t⟩, [], (fun _ z => nomatch z), ?_⟩
        simp only [keyD, PyData.shown]
        exact .of_is (ReprIs.int t hi) _ _ _
      · subst ek
        rw [ev]
        refine ⟨⟨_, .str x t⟩, [], (fun _ z => nomatch z), ?_⟩
        simp only [keyD, PyData.shown] at z0 ⊢
        exact .of_is (ReprIs.str x t z0) _ _ _
    · simp only [List.map_cons]
      rw [hv]
      exact .cons rv ih2

mutual
theorem Dx.shw (I : Inv X pins σ H s) : ∀ (d : PyData) (v : V) (u : Value), Dx X.K H v d → RelV v u →
    d.showable = true → d.shown.length ≤ sizeLine → Shw X.prog X.w s.heap u d
  | .none, _, _, h, r, _, _ => by
    cases h; cases r
    exact ⟨⟨_, .none⟩, [], (fun _ z => nomatch z), by simp only [PyData.shown]; exact .of_is ReprIs.none _ _ _⟩
  | .bool b, _, _, h, r, _, _ => by
    cases h; cases r
    exact ⟨⟨_, .bool b⟩, [], (fun _ z => nomatch z), by simp only [PyData.shown]; exact .of_is (ReprIs.bool b) _ _ _⟩
  | .int i, _, _, h, r, hs, _ => by
    cases h
    obtain ⟨t, rfl⟩ := r
    refine ⟨⟨_, .int i t⟩, [], (fun _ z => nomatch z), ?_⟩
    simp only [PyData.shown]
    exact .of_is (ReprIs.int t (by simpa [PyData.showable] using hs)) _ _ _
  | .str x, _, _, h, r, _, hz => by
    cases h
    obtain ⟨t, rfl⟩ := r
    refine ⟨⟨_, .str x t⟩, [], (fun _ z => nomatch z), ?_⟩
    simp only [PyData.shown] at hz ⊢
    exact .of_is (ReprIs.str x t hz) _ _ _
  | .list ds, _, _, h, r, hs, hz => by
    cases h with
    | lst hl ha =>
      cases r
      obtain ⟨its, rv, ⟨o, n, ho, hc, _, hd⟩, _⟩ := I.list hl
      simp only [PyData.shown] at hz
      obtain ⟨⟨as, ra⟩, bs, mb, kb⟩ := Dx.shwAll I ds _ its ha rv (by simpa [PyData.showable] using hs)
        fun t ht => Nat.le_trans (listText_mem_le ht) hz
      have rr := Reads.list ho hc hd ra
      refine ⟨⟨_, rr⟩, _, ReadAtMost.cons rr (by simp only [PyData.depth]; omega) mb, ?_⟩
      simp only [PyData.depth, PyData.shown]
      cases its with
      | nil =>
        cases ra
        simp only [PyData.shownAll, listText_nil]
        exact ReprK.listEmpty ho hc hd
      | cons y l =>
        exact ReprK.list ho hc hd (not_mem_of_deeper rr (by simp only [PyData.depth]; omega) mb)
          (by simpa using kb.length_eq) fun i z e => kb.item i z (by simpa using e)
  | .tuple ds, _, _, h, r, hs, hz => by
    cases h with
    | tup hl ha =>
      cases r
      obtain ⟨its, rv, ⟨o, ho, hc, n, hd⟩, _⟩ := I.tuple hl
      simp only [PyData.shown] at hz
      obtain ⟨⟨as, ra⟩, bs, mb, kb⟩ := Dx.shwAll I ds _ its ha rv (by simpa [PyData.showable] using hs)
        fun t ht => Nat.le_trans (tupleText_mem_le ht) hz
      have rr := Reads.tuple ho hc hd ra
      refine ⟨⟨_, rr⟩, _, ReadAtMost.cons rr (by simp only [PyData.depth]; omega) mb, ?_⟩
      simp only [PyData.depth, PyData.shown]
      exact ReprK.tuple ho hc hd (not_mem_of_deeper rr (by simp only [PyData.depth]; omega) mb) kb
  | .dict es, _, _, h, r, hs, hz => by
    cases h with
    | dic hl ha =>
      cases r
      obtain ⟨hsz, hsys, vs, kv, o, ents, ep, ho, hx, hd, _, hp, _⟩ := dk_rd I.hok hl
      obtain ⟨hs1, hs2⟩ := PyData.showableKv_split es (by simpa [PyData.showable] using hs)
      simp only [PyData.shown] at hz
      obtain ⟨kr, vr⟩ := kv_read kv hp
      have ek := DxKv.keys ha
      obtain ⟨⟨_, r1⟩, b1, m1, k1⟩ := kr s.heap _ ek hs1 fun t ht =>
        let ⟨p, hp, hl⟩ := PyData.shownKv_key_le es t ht
        Nat.le_trans hl (Nat.le_trans (dictText_mem_le hp) hz)
      obtain ⟨⟨_, r2⟩, b2, m2, k2⟩ := Dx.shwAll2 I es _ _ ha vr hs2 fun t ht =>
        let ⟨p, hp, hl⟩ := PyData.shownKv_val_le es t ht
        Nat.le_trans hl (Nat.le_trans (dictText_mem_le hp) hz)
      have rr : Reads s.heap (.ref _) (.dict es) _ := Reads.dict ho hx.1 hd r1 r2
      have mb := (m1.mono (PyData.depthAll_keys_le es)).append (m2.mono (PyData.depthAll_vals_le es))
      refine ⟨⟨_, rr⟩, _, ReadAtMost.cons rr (by simp only [PyData.depth]; omega) mb, ?_⟩
      simp only [PyData.depth, PyData.shown, PyData.shownKv_eq]
      exact ReprK.dict ho hx.1 hd hsys (not_mem_of_deeper rr (by simp only [PyData.depth]; omega) mb)
        (ReprEntriesK.of_two ents.toList _ _
          (k1.more_le (fun _ z => List.mem_append_left _ z) (PyData.depthAll_keys_le es))
          (k2.more_le (fun _ z => List.mem_append_right _ z) (PyData.depthAll_vals_le es)))
theorem Dx.shwAll (I : Inv X pins σ H s) : ∀ (ds : List PyData) (vs : List V) (us : List Value),
    DxAll X.K H vs ds → Vals vs us → PyData.showableAll ds = true →
    (∀ t ∈ PyData.shownAll ds, t.length ≤ sizeLine) → ShwAll X.prog X.w s.heap us ds
  | [], _, _, h, r, _, _ => by
    cases h; cases r
    exact ShwAll.none
  | d :: ds, _, _, h, r, hs, hz => by
    cases h with
    | cons h1 h2 =>
      cases r with
      | cons r1 r2 =>
        simp only [PyData.showableAll, Bool.and_eq_true] at hs
        simp only [PyData.shownAll] at hz
        exact ShwAll.more (Dx.shw I d _ _ h1 r1 hs.1 (hz _ (List.mem_cons_self ..)))
          (Dx.shwAll I ds _ _ h2 r2 hs.2 fun t ht => hz t (List.mem_cons_of_mem _ ht))
theorem Dx.shwAll2 (I : Inv X pins σ H s) : ∀ (es : List (PyData × PyData)) (kvs : List (Key × V))
    (us : List Value), DxKv X.K H kvs es → Vals (kvs.map (·.2)) us →
    PyData.showableAll (es.map (·.2)) = true →
    (∀ t ∈ PyData.shownAll (es.map (·.2)), t.length ≤ sizeLine) → ShwAll X.prog X.w s.heap us (es.map (·.2))
  | [], _, _, h, r, _, _ => by
    cases h; cases r
    exact ShwAll.none
  | (k, d) :: ds, _, _, h, r, hs, hz => by
    cases h with
    | cons h1 h2 =>
      cases r with
      | cons r1 r2 =>
        simp only [List.map_cons, PyData.showableAll, Bool.and_eq_true] at hs
        simp only [List.map_cons, PyData.shownAll] at hz
        exact ShwAll.more (Dx.shw I d _ _ h1 r1 hs.1 (hz _ (List.mem_cons_self ..)))
          (Dx.shwAll2 I ds _ _ h2 r2 hs.2 fun t ht => hz t (List.mem_cons_of_mem _ ht))
end
end
end Rm

set_option maxRecDepth 100000
set_option maxHeartbeats 4000000
namespace Rm
open PySem PySem.Spec L2
open PyProof.Rows hiding St

/-- small enough to be written out -/
structure Sm (d : PyData) : Prop where
  sh : d.showable = true
  lv : d.leavesShort 100 = true
  wt : d.weight ≤ 100000
  dp : d.depth ≤ 50
theorem Sm.len {d : PyData} (h : Sm d) : d.shown.length ≤ sizeLine := by
  have h1 := PyData.shown_le 100 (by decide) d h.lv
  have h2 := h.wt
  rw [sizeLine_eq]
  omega

def rRep (K : PySem.W.Frag) : List V → Hp → VK → Prop := fun xs H Q =>
  ∃ x d, xs = [x] ∧ Dx K H x d ∧ Sm d ∧ Q (.str d.shown) H
theorem call_rep {X : Cx} (hG : Gd X.A) (hu : X.A.units + 64 < cLine) : CallR X (.builtin "repr") (rRep X.K) := by
  intro pins s σ H xs us Q I r h
  obtain ⟨x, d, rfl, hd, hs, q⟩ := h
  obtain ⟨u, rfl, ru⟩ := vals1 r
  have hz := hs.len
  have hdp := hs.dp
  have S := Dx.shw I d x u hd ru hs.sh hz
  have fin : ∀ h' t tk, (∀ b o, s.heap.get? b = some o → h'.get? b = some o) →
      EP X pins σ Q (.str d.shown t) { s with heap := h', toks := tk } := fun h' t tk k =>
    ⟨.str d.shown, H, I.kept k, ⟨t, rfl⟩, q⟩
  cases hd with
  | non =>
    cases ru
    simp only [PyData.shown] at fin
    exact PySem.P.repr_of_none (fin s.heap _ _ fun _ _ e => e)
  | bl b =>
    cases ru
    simp only [PyData.shown] at fin
    exact PySem.P.repr_of_bool (fin s.heap _ _ fun _ _ e => e)
  | int i =>
    obtain ⟨t, rfl⟩ := ru
    simp only [PyData.shown] at fin
    exact PySem.P.repr_of_int (by simpa [PyData.showable] using hs.sh) (fin s.heap _ _ fun _ _ e => e)
  | str z =>
    obtain ⟨t, rfl⟩ := ru
    simp only [PyData.shown] at fin hz
    exact PySem.P.repr_of_str (fin s.heap _ _ fun _ _ e => e) hz
  | lst hl ha =>
    cases ru
    rename_i a xs ds
    obtain ⟨its, rv, ⟨o, n, ho, hc, _, hdt⟩, _⟩ := I.list hl
    simp only [PyData.shown] at hz fin
    simp only [PyData.depth] at hdp
    have ss : PyData.showableAll ds = true := by simpa [PyData.showable] using hs.sh
    obtain ⟨⟨as, ra⟩, bs, mb, kb⟩ := Dx.shwAll I ds _ its ha rv ss
      fun t ht => Nat.le_trans (listText_mem_le ht) hz
    have rr := Reads.list ho hc hdt ra
    refine call_repr_slot (by omega) ⟨o, ho, hc⟩ F.slot_list_repr.toG ?_
    cases its with
    | nil =>
      cases ra
      simp only [PyData.shownAll, listText_nil] at fin
      exact call_list_repr_empty ⟨o, ho, hc⟩ ho hdt ⟨_, _, rfl, fin s.heap _ _ fun _ _ e => e⟩
    | cons y l =>
      exact call_list_reprK ho hc hdt (not_mem_of_deeper rr (by simp only [PyData.depth]; omega) mb)
        (by simpa using kb.length_eq) (fun i z e => kb.item i z (by simpa using e)) hG
        (fun b _ => Clear.nil b) (by show X.A.units + 1 + _ < cLine; omega) (fun _ _ e => e)
        (fun h' t tk k => ⟨_, _, rfl, fin h' t tk k⟩) hz
  | tup hl ha =>
    cases ru
    rename_i a xs ds
    obtain ⟨its, rv, ⟨o, ho, hc, n, hdt⟩, _⟩ := I.tuple hl
    simp only [PyData.shown] at hz fin
    simp only [PyData.depth] at hdp
    have ss : PyData.showableAll ds = true := by simpa [PyData.showable] using hs.sh
    obtain ⟨⟨as, ra⟩, bs, mb, kb⟩ := Dx.shwAll I ds _ its ha rv ss
      fun t ht => Nat.le_trans (tupleText_mem_le ht) hz
    have rr := Reads.tuple ho hc hdt ra
    refine call_repr_slot (by omega) ⟨o, ho, hc⟩ F.slot_tuple_repr ?_
    exact call_tuple_reprK ho hc hdt (not_mem_of_deeper rr (by simp only [PyData.depth]; omega) mb) kb hG
      (fun b _ => Clear.nil b) (by show X.A.units + 1 + _ < cLine; omega) (fun _ _ e => e)
      (fun h' t tk k => ⟨_, _, rfl, fin h' t tk k⟩) hz
  | dic hl ha =>
    cases ru
    rename_i a kvs es
    obtain ⟨hsz, hsys, vs, kv, o, ents, ep, ho, hx, hdt, _, hp, _⟩ := dk_rd I.hok hl
    obtain ⟨hs1, hs2⟩ := PyData.showableKv_split es (by simpa [PyData.showable] using hs.sh)
    simp only [PyData.shown] at hz fin
    simp only [PyData.depth] at hdp
    obtain ⟨kr, vr⟩ := kv_read kv hp
    have ek := DxKv.keys ha
    obtain ⟨⟨_, r1⟩, b1, m1, k1⟩ := kr s.heap _ ek hs1 fun t ht =>
      let ⟨p, hp, hl⟩ := PyData.shownKv_key_le es t ht
      Nat.le_trans hl (Nat.le_trans (dictText_mem_le hp) hz)
    obtain ⟨⟨_, r2⟩, b2, m2, k2⟩ := Dx.shwAll2 I es _ _ ha vr hs2 fun t ht =>
      let ⟨p, hp, hl⟩ := PyData.shownKv_val_le es t ht
      Nat.le_trans hl (Nat.le_trans (dictText_mem_le hp) hz)
    have rr : Reads s.heap (.ref _) (.dict es) _ := Reads.dict ho hx.1 hdt r1 r2
    have mb := (m1.mono (PyData.depthAll_keys_le es)).append (m2.mono (PyData.depthAll_vals_le es))
    rw [PyData.shownKv_eq] at fin hz
    refine call_repr_slot (by omega) ⟨o, ho, hx.1⟩ F.slot_dict_repr ?_
    exact call_dict_reprK ho hx.1 hdt hsys (not_mem_of_deeper rr (by simp only [PyData.depth]; omega) mb)
      (ReprEntriesK.of_two ents.toList _ _
        (k1.more_le (fun _ z => List.mem_append_left _ z) (PyData.depthAll_keys_le es))
        (k2.more_le (fun _ z => List.mem_append_right _ z) (PyData.depthAll_vals_le es))) hG
      (fun b _ => Clear.nil b) (by show X.A.units + 1 + _ < cLine; omega) (fun _ _ e => e)
      (fun h' t tk k => ⟨_, _, rfl, fin h' t tk k⟩) hz

/-! ### powers of great numbers -/
def CPowX (i j : Int) : Prop := 0 ≤ j ∧ (Builtin.Int.intBits i : Int) * j ≤ 2 ^ 27
theorem op_powX {X : Cx} : OpR X (binaryOp .Pow) (rI CPowX fun i j => .int (i ^ j.toNat)) :=
  opI fun _ _ _ _ _ _ _ hc q => pow_int hc.1 hc.2 q
end Rm

set_option maxRecDepth 100000
set_option maxHeartbeats 4000000
namespace Rm
open PySem PySem.Spec L2
open PyProof.Rows hiding St

/-! ### what is called, in one word each -/
/-- the module's name x is a def that keeps sp -/
def Ce (P : Program) (w : World) (K : PySem.W.Frag) (mg : Str → Option Value) (base : Heap) (CX : CXT)
    (k : Nat) (x : Str) (ps : List Str) (sp : Sp) : Prop :=
  ∃ f fd, mg x = some (.ref f) ∧ PySem.W.keepIn K (.ref f) = true ∧ Binds K fd ps [] ∧
    FnG P w K mg base CX k f fd ps sp
/-- the class at C has the method m that keeps sp -/
def Cm (P : Program) (w : World) (K : PySem.W.Frag) (mg : Str → Option Value) (base : Heap) (CX : CXT)
    (k : Nat) (C : Addr) (m : Str) (ps : List Str) (sp : Sp) : Prop :=
  ∃ f fd, Cls K C ∧ Meth K C m f ∧ Binds K fd ps [] ∧ FnG P w K mg base CX k f fd ps sp
/-- the module's name x is a class whose __init__ keeps sp -/
def Cn (P : Program) (w : World) (K : PySem.W.Frag) (mg : Str → Option Value) (base : Heap) (CX : CXT)
    (k : Nat) (x : Str) (C : Addr) (ps : List Str) (sp : Sp) : Prop :=
  ∃ f fd, mg x = some (.ref C) ∧ Mk K C f ∧ Binds K fd ps [] ∧ FnG P w K mg base CX k f fd ps sp
/-- the class at C has the property m that keeps sp -/
def Cp (P : Program) (w : World) (K : PySem.W.Frag) (mg : Str → Option Value) (base : Heap) (CX : CXT)
    (k : Nat) (C : Addr) (m : Str) (sp : Sp) : Prop :=
  ∃ p g fd, Cls K C ∧ PropOf K C m p g ∧ Binds K fd ["self"] [] ∧ FnG P w K mg base CX k g fd ["self"] sp

section
variable {X : Cx} {CX : CXT} {k : Nat} {C : Addr} {ps : List Str} {sp : Sp}
variable {E : XK} {x m : Str} {p pos apos : Pos} {e o : Expr}
variable {es : List Expr} {ta : TE} {t : TA}
theorem pe_ce (D : Ce X.prog X.w X.K X.mg X.base CX k x ps sp) (hr : Room k X.A) (hG : Gd X.A)
    (ha : PA X (e :: es) t) (hx : Passes CX X E) (hg : Gl X x := by rfl)
    (hdb : (x == ("__debug__" : Str)) = false := by decide)
    (he : starEach (e :: es) X.env = (false, eval e X.env) :: starEach es X.env := by rfl)
    (hpl : (backTo pos (starEach es X.env)).any (·.1) = false := by rfl) :
    PE X (.Call (.Name x p) (e :: es) [] pos) (tCall sp [] E t) :=
  let ⟨_, _, hm, hk, hb, F⟩ := D
  pe_fn F hr hG hg hm hk hb .nil hx ha hdb he hpl
theorem pe_ce0 (D : Ce X.prog X.w X.K X.mg X.base CX k x ps sp) (hr : Room k X.A) (hG : Gd X.A)
    (hx : Passes CX X E) (hg : Gl X x := by rfl)
    (hdb : (x == ("__debug__" : Str)) = false := by decide) :
    PE X (.Call (.Name x p) [] [] pos) (tCall sp [] E tNil) :=
  let ⟨_, _, hm, hk, hb, F⟩ := D
  pe_fn0 F hr hG hg hm hk hb .nil hx hdb
theorem pe_cm {pl : Sem Bool} (D : Cm X.prog X.w X.K X.mg X.base CX k C m ps sp) (hr : Room k X.A)
    (hG : Gd X.A) (he : PE X o ta) (ha : PA X (e :: es) t) (hx : Passes CX X E)
    (hst : starEach (e :: es) X.env = (false, eval e X.env) :: starEach es X.env := by rfl)
    (hpl : (backTo pos (starEach es X.env)).any (·.1) = false := by rfl)
    (ht : eval (.Call (.Attribute o m apos) (e :: es) [] pos) X.env = (do
      let ov ← eval o X.env
      standAt apos.atName
      let (g, first) ← holding [ov] (getMethod ov m pl)
      callWith pos g first (backTo pos (starEach (e :: es) X.env))
        (backToKw pos (keywordEach [] X.env))) := by rfl) :
    PE X (.Call (.Attribute o m apos) (e :: es) [] pos) (tMeth C m sp [] E ta t) :=
  let ⟨_, _, c, hm, hb, F⟩ := D
  pe_mth he c hm F hr hG hb .nil hx ha hst hpl ht
theorem pe_cm0 {pl : Sem Bool} (D : Cm X.prog X.w X.K X.mg X.base CX k C m ps sp) (hr : Room k X.A)
    (hG : Gd X.A) (he : PE X o ta) (hx : Passes CX X E)
    (ht : eval (.Call (.Attribute o m apos) [] [] pos) X.env = (do
      let ov ← eval o X.env
      standAt apos.atName
      let (g, first) ← holding [ov] (getMethod ov m pl)
      callWith pos g first (backTo pos (starEach [] X.env))
        (backToKw pos (keywordEach [] X.env))) := by rfl) :
    PE X (.Call (.Attribute o m apos) [] [] pos) (tMeth C m sp [] E ta tNil) :=
  let ⟨_, _, c, hm, hb, F⟩ := D
  pe_mth0 he c hm F hr hG hb .nil hx ht
theorem pe_cn (D : Cn X.prog X.w X.K X.mg X.base CX k x C ps sp) (hr : Room (k + 1) X.A) (hG : Gd X.A)
    (ha : PA X (e :: es) t) (hx : Passes CX X E) (hg : Gl X x := by rfl)
    (hdb : (x == ("__debug__" : Str)) = false := by decide)
    (he : starEach (e :: es) X.env = (false, eval e X.env) :: starEach es X.env := by rfl)
    (hpl : (backTo pos (starEach es X.env)).any (·.1) = false := by rfl) :
    PE X (.Call (.Name x p) (e :: es) [] pos) (tMake C sp [] E t) :=
  let ⟨_, _, hm, M, hb, F⟩ := D
  pe_new M F hr hG hg hm hb .nil hx ha hdb he hpl
theorem pe_cn0 (D : Cn X.prog X.w X.K X.mg X.base CX k x C ps sp) (hr : Room (k + 1) X.A) (hG : Gd X.A)
    (hx : Passes CX X E) (hg : Gl X x := by rfl)
    (hdb : (x == ("__debug__" : Str)) = false := by decide) :
    PE X (.Call (.Name x p) [] [] pos) (tMake C sp [] E tNil) :=
  let ⟨_, _, hm, M, hb, F⟩ := D
  pe_new0 M F hr hG hg hm hb .nil hx hdb
end

/-! ### properties -/
section
variable {X : Cx} {CX : CXT} {k : Nat} {C : Addr} {sp : Sp} {E : XK} {f : Str} {pos : Pos} {e : Expr} {ta : TE}
theorem pe_cp (D : Cp X.prog X.w X.K X.mg X.base CX k C f sp) (hr : Room (k + 1) X.A) (hG : Gd X.A)
    (he : PE X e ta) (hx : Passes CX X.nox E)
    (hab : attributeBase e f X.env (eval e X.env) = eval e X.env := by rfl) :
    PE X (.Attribute e f pos) (tProp C sp [] E ta) := by
  obtain ⟨p, g, fd, c, hp, hb, F⟩ := D
  constructor
  intro pins s σ H Q I h
  refine attr_of hab (thn (he.run pins s σ H _ I h) fun u s1 ⟨x, H1, I1, rx, a, dx, fs, ex, ea, q⟩ => ?_)
  obtain rfl := ex
  have ru : u = Value.ref a := rx
  rw [ru]
  obtain ⟨mA, O, _⟩ := ins_get I1.hok ea
  obtain ⟨od, J, _⟩ := O.look
  obtain ⟨rest, hrec⟩ := hp.rec_
  have I2 := I1.tok (s1.toks + 1)
  have pg := PySem.W.plainGet_of (c.get f)
  have hc : (PySem.W.clsIn X.K C).isSome = true := by
    obtain ⟨cd, z, _⟩ := PySem.W.any_some c.hd
    rw [z]; rfl
  refine PySem.W.get_bind I1.kIn J pg.1 (PySem.W.findObj_data hc hp.at_ hp.get hp.tak) pg.2
    (wpAny_call (PySem.W.prop_get (s := { s1 with toks := s1.toks + 1 }) I1.kIn hrec ?_))
  refine codeAny_mono (F.run X.A.in1 X.stack _ H1 ⟨[.ref a], []⟩ [.ref a] [.ref a] Q E hr.in1 hG.in1
    I2.env0.in1 (hb _ [.ref a] I2.kIn rfl) (.cons rfl .nil) q) fun r s' hq => ?_
  match r, hq with
  | .error er, hq => exact False.elim (hx pins σ H1 _ er s' (I2.wish _) hq)
  | .ok (.ret v), hq =>
    obtain ⟨y, H', I3, rv, q3⟩ := I2.after hq
    show wpAny _ _ (handedOut v) _ _ _
    rw [PySem.W.handedOut_of (handed_of rv)]
    exact wpAny_pure ⟨y, H', I3, rv, q3⟩
  | .ok .next, hq => exact False.elim hq
  | .ok .brk, hq => exact False.elim hq
  | .ok .cont, hq => exact False.elim hq
end

/-! ### the tape -/
def tapeO (dg mx : Int) : HO := .dK [(.inr "digits", .int dg), (.inr "mixed", .int mx)]
structure TapeOk (dg mx : Int) : Prop where
  d0 : 0 ≤ dg
  m0 : 0 ≤ mx
  m1 : mx < 4294967296
def IsTape (o : HO) : Prop := ∃ dg mx, o = tapeO dg mx ∧ TapeOk dg mx
theorem s_dm : ¬ (("digits" : Str) = ("mixed" : Str)) := by decide +kernel
theorem s_md : ¬ (("mixed" : Str) = ("digits" : Str)) := by decide +kernel
theorem k_dm : ¬ ((Sum.inr ("digits" : Str) : Key) = Sum.inr ("mixed" : Str)) := by decide +kernel
theorem k_md : ¬ ((Sum.inr ("mixed" : Str) : Key) = Sum.inr ("digits" : Str)) := by decide +kernel
section
variable {H : Hp} {t : Addr} {dg mx z : Int}
theorem tape_dg (h : H t = some (tapeO dg mx)) : DGet H t (.str "digits") (some (.int dg)) := by
  have e := DGet.k (k := Sum.inr ("digits" : Str)) h
  rw [valV_pos rfl] at e
  exact e
theorem tape_mx (h : H t = some (tapeO dg mx)) : DGet H t (.str "mixed") (some (.int mx)) := by
  have e := DGet.k (k := Sum.inr ("mixed" : Str)) h
  rw [valV_neg k_dm, valV_pos rfl] at e
  exact e
theorem tape_pd (h : H t = some (tapeO dg mx)) : DPut H t (.str "digits") (.int z) (upd H t (tapeO z mx)) := by
  have e := DPut.k (k := Sum.inr ("digits" : Str)) (v := .int z) h (small1000 (by show 2 ≤ 1000; decide))
  have q : putK [((Sum.inr "digits" : Key), V.int dg), (.inr "mixed", .int mx)] (Sum.inr "digits") (V.int z)
      = [(.inr "digits", .int z), (.inr "mixed", .int mx)] := by
    unfold putK
    simp [s_md]
  rw [q] at e
  exact e
theorem tape_pm (h : H t = some (tapeO dg mx)) : DPut H t (.str "mixed") (.int z) (upd H t (tapeO dg z)) := by
  have e := DPut.k (k := Sum.inr ("mixed" : Str)) (v := .int z) h (small1000 (by show 2 ≤ 1000; decide))
  have q : putK [((Sum.inr "digits" : Key), V.int dg), (.inr "mixed", .int mx)] (Sum.inr "mixed") (V.int z)
      = [(.inr "digits", .int dg), (.inr "mixed", .int z)] := by
    unfold putK
    simp [s_dm]
  rw [q] at e
  exact e
end
/-- a number from 0 to many - 1; the tape goes on -/
def spPick : Sp := fun vs H Q _ => ∃ (t : Addr) (o : HO) (n : Int), vs = [.ref t, .int n] ∧ H t = some o ∧ IsTape o ∧
  1 ≤ n ∧ n ≤ 1000000 ∧ ∀ (k : Int) (o' : HO), 0 ≤ k → k < n → IsTape o' → Q (.int k) (upd H t o')
theorem bits32 {m : Int} (h0 : 0 ≤ m) (h1 : m < 4294967296) : Builtin.Int.intBits m ≤ 32 := by
  unfold Builtin.Int.intBits
  split
  · omega
  · have : m.natAbs.log2 < 32 := PySem.Flt.log2_lt_of (by decide) (by omega)
    omega
theorem pow32 {m j : Int} (h0 : 0 ≤ m) (h1 : m < 4294967296) (hj : 0 ≤ j) (hj2 : j ≤ 100) : CPowX m j := by
  refine ⟨hj, ?_⟩
  have b := bits32 h0 h1
  have : (Builtin.Int.intBits m : Int) * j ≤ 32 * 100 :=
    Int.mul_le_mul (by omega) hj2 hj (by decide)
  omega
end Rm

set_option maxRecDepth 100000
set_option maxHeartbeats 4000000
namespace Rm
open PySem PySem.Spec L2
open PyProof.Rows hiding St

theorem ib_lt {x : Int} {n : Nat} (h : Builtin.Int.intBits x ≤ n) : x.natAbs < 2 ^ n := by
  unfold Builtin.Int.intBits at h
  split at h
  · rename_i e
    have : x = 0 := by simpa using e
    subst this
    exact Nat.two_pow_pos n
  · rename_i e
    have e' : x.natAbs ≠ 0 := by
      intro z
      exact e (by simp [Int.natAbs_eq_zero.mp z])
    have q := (Nat.log2_lt e').1 (show x.natAbs.log2 < n by omega)
    exact q
theorem ib_of {x : Int} {n : Nat} (h : x.natAbs < 2 ^ n) : Builtin.Int.intBits x ≤ n := by
  unfold Builtin.Int.intBits
  split
  · omega
  · rename_i e
    have e' : x.natAbs ≠ 0 := by
      intro z
      exact e (by simp [Int.natAbs_eq_zero.mp z])
    have := (Nat.log2_lt e').2 h
    omega
theorem ib_mul {x y : Int} {n m : Nat} (h : Builtin.Int.intBits x ≤ n) (h' : Builtin.Int.intBits y ≤ m) :
    Builtin.Int.intBits (x * y) ≤ n + m := by
  apply ib_of
  rw [Int.natAbs_mul, Nat.pow_add]
  exact Nat.mul_lt_mul'' (ib_lt h) (ib_lt h')
theorem ib_mono {x : Int} {n m : Nat} (h : Builtin.Int.intBits x ≤ n) (hm : n ≤ m) : Builtin.Int.intBits x ≤ m :=
  Nat.le_trans h hm
theorem ib_add {x y : Int} {n : Nat} (h : Builtin.Int.intBits x ≤ n) (h' : Builtin.Int.intBits y ≤ n) :
    Builtin.Int.intBits (x + y) ≤ n + 1 := by
  apply ib_of
  have a := ib_lt h
  have b := ib_lt h'
  have c := Int.natAbs_add_le x y
  rw [Nat.pow_succ]
  omega
/-- the tape's mixing: the power of a cell's square -/
theorem mix_pow {m c : Int} (h0 : 0 ≤ m) (h1 : m < 4294967296) (hc : Builtin.Int.intBits c ≤ 1048576) :
    CMulX m 30013 ∧ CMulX c c ∧ CPowX (m * 30013 + c * c + 11) 2 := by
  have bm := bits32 h0 h1
  have b3 : Builtin.Int.intBits (30013 : Int) ≤ 32 := bits32 (by decide) (by decide)
  have b1 : Builtin.Int.intBits (11 : Int) ≤ 32 := bits32 (by decide) (by decide)
  have s1 := ib_add (n := 2097152) (ib_mono (ib_mul bm b3) (by decide)) (ib_mono (ib_mul hc hc) (by decide))
  have s2 := ib_add (n := 2097153) s1 (ib_mono b1 (by decide))
  refine ⟨?_, ?_, by decide, ?_⟩
  · unfold CMulX; omega
  · unfold CMulX; omega
  · have e : (2 : Int) ^ 27 = 134217728 := by decide
    rw [e]
    omega
/-- a list that is read stands while the tape goes on -/
theorem sq_tape {K : PySem.W.Frag} {H : Hp} {t l : Addr} {o o' : HO} {xs : List V} (h : SqL K H l xs)
    (ht : H t = some o) (ho : IsTape o) : SqL K (upd H t o') l xs := by
  obtain ⟨dg, mx, rfl, _⟩ := ho
  rcases h with (h | ⟨ob, h⟩) | h
  · have ne : l ≠ t := fun e => by
      subst e; rw [ht] at h; cases h
    exact .inl (.inl (by rw [upd_ne ne]; exact h))
  · have ne : l ≠ t := fun e => by
      subst e; rw [ht] at h; cases h
    exact .inl (.inr ⟨ob, by rw [upd_ne ne]; exact h⟩)
  · exact .inr h
/-- a drawn item -/
def spOne (K : PySem.W.Frag) : Sp := fun vs H Q _ => ∃ (t l : Addr) (o : HO) (xs : List V), vs = [.ref t, .ref l] ∧
  H t = some o ∧ IsTape o ∧ SqL K H l xs ∧ 1 ≤ xs.length ∧ xs.length ≤ 1000000 ∧
  ∀ (i : Nat) (v : V) (o' : HO), xs[i]? = some v → IsTape o' → Q v (upd H t o')
/-- a new tape -/
def spTape (K : PySem.W.Frag) : Sp := fun vs H Q _ => ∃ (a : Addr) (ns : List Int) (z : Int), vs = [.ref a, .int z] ∧
  SqL K H a (ns.map V.int) ∧ ns.length ≤ 63 ∧ (∀ n ∈ ns, Builtin.Int.intBits n ≤ 1048576) ∧ 0 ≤ z ∧ z ≤ 1000 ∧
  ∀ (p : Addr) (o : HO), H p = none → IsTape o → Q (.ref p) (upd H p o)
end Rm

set_option maxRecDepth 100000
set_option maxHeartbeats 4000000
namespace Rm
open PySem PySem.Spec L2
open PyProof.Rows hiding St

/-! ### an own error whose __init__ says super().__init__(text); self.y = y -/
/-- the built-in __init__, bound to the error e, is called -/
theorem call_mw {prog : Program} {w : World} {A : Around} {E : Value → Shared → Prop} {h : Heap}
    {g : Array GenState} {d : Drawn} {tk : Nat} {os : OsState} {u e C t0 : Addr} {dv : Option Addr}
    {rest : List Value} {Q : Value → Shared → Prop} {nm q : Str} {N : Addr} {bs bm : List Value}
    {hdct : Bool} {sn : List Str} {sub : List Value} {ab : Bool} {col : Option Bool} {dd : Option Addr}
    {k0 k1 k2 k3 k5 : Option Value}
    (hC : h.get? C = some (excClassObj nm q C N bs bm hdct sn sub ab col dd k0 k1 k2 k3 k5 "ValueError.__new__"))
    (he : h.get? e = some (PySem.W.excObj C t0 dv .none))
    (hu : h.get? u = some (PySem.W.kxs_mw "ValueError.__init__" e)) (hz : rest.length ≤ sizeLine)
    (k : ∀ h', (∀ b o, b ≠ e → h.get? b = some o → h'.get? b = some o) →
      h'.get? e = some (PySem.W.excObj C h.objs.size dv .none) → Q .none ⟨h', g, d, tk, os⟩) :
    wpAny (model prog w) A (call (.ref u) rest) Q E ⟨h, g, d, tk, os⟩ := by
  apply wpAny_call
  apply codeAny_of_tree
  show wpAny _ A.in1 (callAny (.ref u) ⟨rest, []⟩) _ _ _
  unfold callAny
  apply wpAny_bind
  apply wpAny_load hu
  have t1 : (Value.type "method-wrapper" == Value.type "method") = false := by decide
  have t2 : (Value.type "method-wrapper" == Value.type "builtin_function_or_method") = false := by decide
  have t3 : (Value.type "method-wrapper" == Value.type "method-wrapper") = true := by decide
  simp only [PySem.W.kxs_mw, t1, t2, t3, Bool.false_or, Bool.or_true, if_true]
  refine PySem.W.KFB.if_so (by decide) ?_
  apply wpAny_bind
  refine PySem.W.check_bound_init F.excBase_ValueError.toExcCallFacts hC he rfl ?_
  apply wpAny_pure
  refine ⟨plainId_quiet F.excBase_ValueError.init.plain _, codeAny_builtin F.excBase_ValueError.initEntry ?_⟩
  exact PySem.W.exc_init_tree (cls := .ref C) (t0 := t0) (dv := dv) (c2 := .none) (c3 := .none)
    (b4 := .bool false) he hz fun h' k1 k2 _ => k h' k1 k2

/-- what the written part says of the error class at C, its def f of __init__ (name, text), and what these lean on -/
structure ErrC (prog : Program) (K : PySem.W.Frag) (C f : Addr) (qual y : Str) (params : Arguments)
    (body : List Stmt) (scope : Scope) (fd : FuncData) : Prop where
  ox : OexC K C
  fn : ∃ (oc : Value) (od : Option Addr) (dV kV doc pm : Value) (an : Option Addr) (cda cc : Addr) (ct : Value)
    (osl : Array (Option Value)) (ccl cl : Value) (cdd cld : Option Addr) (vs : Array Value) (ccs csl : Array (Option Value)) (file : Str) (tf : Tok),
    fd = PySem.W.ksFn "__init__" qual params body scope dV kV doc pm an (.ref cda) ct cc ∧
    K.lookup f = some ⟨oc, od, .func fd, osl⟩ ∧ PySem.W.codeIn K (.ref cda) qual = true ∧
    K.lookup cda = some ⟨ccl, cdd, .fields vs, ccs⟩ ∧ vs[2]? = some (.str file tf) ∧
    ((prog.main.file : Str) == file) = true ∧ K.lookup cc = some ⟨cl, cld, .cell (some (.ref C)), csl⟩
  any_ : PySem.W.nsIn K cStatics "thirdparty.any" = some none
  sup : PySem.W.ks_superIn K C C "__init__" = some (some (.builtin "ValueError.__init__"))
  sub : PySem.W.subIn K (.ref C) (.type "ValueError") = some true
  self_ : PySem.W.mroIn K C (.ref C) = some true
  no : PySem.W.findIn K (.ref C) y = some none
  ini : PySem.W.findIn K (.ref C) "__init__" = some (some (.ref f))
  typ : PySem.W.typeIn K (.ref f) = some (.type "function")

/-- the promise of such an __init__ -/
def spErr (K : PySem.W.Frag) (C : Addr) (y : Str) : Sp := fun vs H Q _ => ∃ (a : Addr) (v : V), vs = [.ref a, v] ∧
  H a = some (exo a C none) ∧ ∀ dx, H dx = none → dx ≠ a →
    Q .non (upd (upd H dx (exd dx [(y, v)])) a (exo a C (some dx)))


section
variable {P : Program} {w : World} {K : PySem.W.Frag} {mg : Str → Option Value} {base : Heap}
theorem fn_err {f C : Addr} {fd : FuncData} {qual y : Str} {params : Arguments} {body : List Stmt} {scope : Scope}
    {CX : CXT} {msg : Str} {j : Nat} {p0 p1 p2 p3 p4 p5 q0 q1 q2 q3 : Pos} {ar : Arg} {ars : List Arg}
    (T : ErrC P K C f qual y params body scope fd)
    (hbody : body = [.Expr (.Call (.Attribute (.Call (.Name "super" p0) [] [] p1) "__init__" p2) [.Constant (.str msg) j p3] [] p4) p5,
      .Assign [.Attribute (.Name "self" q0) y q1] (.Name y q2) q3])
    (hsc : scope.names = ([(("self" : Str), NameKind.local), (y, .local), (("__class__" : Str), .free), (("super" : Str), .globalImplicit)] : List (Str × NameKind)))
    (hk : scope.kind = .function) (hco : scope.isCoroutine = false) (hgen : scope.isGenerator = false)
    (hpar : (params.posonlyargs ++ params.args).head? = some ar) (har : ar.arg = "self")
    (hsup : mg "super" = none) (htop : (P.main.scope.names.lookup ("super" : Str)).isSome = false)
    (hy1 : ¬ y = "self") (hy2 : ¬ y = "__class__") (hy3 : ¬ y = "super") (hmsg : msg.length ≤ 1000)
    {pl : Env → Sem Bool} (hev : ∀ env : Env,
      eval (.Call (.Attribute (.Call (.Name "super" p0) [] [] p1) "__init__" p2) [.Constant (.str msg) j p3] [] p4) env = (do
        let ov ← attributeBase (.Call (.Name "super" p0) [] [] p1) "__init__" env (eval (.Call (.Name "super" p0) [] [] p1) env)
        standAt p2.atName
        let (g, first) ← holding [ov] (getMethod ov "__init__" (pl env))
        callWith p4 g first (backTo p4 (starEach [.Constant (.str msg) j p3] env)) []))
    (hyd : (y == ("__debug__" : Str)) = false) (hyc : (y == ("__classdict__" : Str)) = false) :
    FnG P w K mg base CX 2 f fd ([("self" : Str), y] : List Str) (spErr K C y) := by
  refine ⟨fun vs H Q E h => ?_, fun A outer s H args us vs Q E hr hG e0 hb r hsp => ?_⟩
  · obtain ⟨a, v, rfl, _⟩ := h
    rfl
  obtain ⟨oc, od, dV, kV, doc, pm, an, cda, cc, ct, osl, ccl, cl, cdd, cld, fvs, ccs, csl, file, tf, rfl, lk, hcd, lcd, hvs, hfile, lcc⟩ := T.fn
  obtain ⟨a, v, rfl, ha, q⟩ := hsp
  obtain ⟨u0, u, rfl, r0, ru⟩ := vals2 r
  obtain rfl : u0 = Value.ref a := r0
  have up : ∀ b o, base.get? b = some o → s.heap.get? b = some o := fun b o e => (e0.bs b o e).1
  have KX : K.In s.heap := e0.mod.kin.keeps up
  have lim : s.heap.NoLimit := e0.mod.nolimit.keeps up
  have l1 : scope.names.lookup ("self" : Str) = some .local := by rw [hsc]; rfl
  have l2 : scope.names.lookup y = some .local := by
    rw [hsc]
    have e : (y == ("self" : Str)) = false := by simpa using hy1
    simp [List.lookup, e]
  have l3 : scope.names.lookup ("__class__" : Str) = some .free := by
    rw [hsc]
    have e : (("__class__" : Str) == y) = false := by simpa using fun z => hy2 z.symm
    have e2 : (("__class__" : Str) == ("self" : Str)) = false := by decide +kernel
    simp [List.lookup, e, e2]
  have l4 : scope.names.lookup ("super" : Str) = some .globalImplicit := by
    rw [hsc]
    have e : (("super" : Str) == y) = false := by simpa using fun z => hy3 z.symm
    have e2 : (("super" : Str) == ("self" : Str)) = false := by decide +kernel
    have e3 : (("super" : Str) == ("__class__" : Str)) = false := by decide +kernel
    simp [List.lookup, e, e2, e3]
  refine ks_codeAny_call_defAt (fd := PySem.W.ksFn "__init__" qual params body scope dV kV doc pm an (.ref cda) ct cc)
    (body := body) (binds := ([("self" : Str), y] : List Str).zip [Value.ref a, u]) hr.depth (KX _ _ lk) rfl lim
    (PySem.W.codeRec_of KX hcd) rfl hb ?_ ?_ (fun h1 hns hk1 => ?_) hco hgen hk
  · intro x hx
    have hx' : x ∈ scope.names := hx
    rw [hsc] at hx'
    simp only [List.mem_cons, List.not_mem_nil, or_false] at hx'
    rcases hx' with rfl | rfl | rfl | rfl <;> simp
  · intro x hx
    simp only [List.zip_cons_cons, List.zip_nil_left, List.mem_cons, List.not_mem_nil, or_false] at hx
    rcases hx with rfl | rfl
    · exact l1
    · exact l2
  generalize hE : callEnv (PySem.W.ksFn "__init__" qual params body scope dV kV doc pm an (.ref cda) ct cc) s.heap.objs.size f = env
  have eenv : env = PySem.W.ksEnv qual scope s.heap.objs.size f (.ref cda) cc := by rw [← hE] <;> rfl
  have hcells : env.cells = ([(("__class__" : Str), cc)] : List (Str × Addr)) := by rw [eenv]
  let X : Cx := { prog := P, w := w, K := K, mg := mg, base := base, A := A.deeper env, N := [("self" : Str), y], s_0 := s, H_0 := H, env := env, outer := outer, stack := env :: outer, ex := [], calm := true, fn := fun _ => false, pn := [], xe := fun _ _ => False }
  have bcc : base.get? cc = some ⟨cl, cld, .cell (some (.ref C)), csl⟩ := e0.mod.kin _ _ lcc
  have okX : X.Ok := {
    mod := e0.mod
    kind := by show env.scope.kind = .function; rw [eenv]; exact hk
    glob := by show env.globals = _; rw [eenv]
    blt := by show env.builtins = _; rw [eenv]
    above := by show s.heap.objs.size ≤ env.locals; rw [eenv]; exact Nat.le_refl _
    inj := fun x z c h1 h2 => by
      have h1' : env.cells.lookup x = some c := h1
      have h2' : env.cells.lookup z = some c := h2
      rw [hcells] at h1' h2'
      have k1 : x = "__class__" := by
        have := PySem.mem_of_lookup h1'
        simp at this; exact this.1
      have k2 : z = "__class__" := by
        have := PySem.mem_of_lookup h2'
        simp at this; exact this.1
      rw [k1, k2]
    has := fun x hx => by
      have hx' : scope.names.lookup x = some .cell ∨ scope.names.lookup x = some .free := by
        have z : env.scope.names.lookup x = some .cell ∨ env.scope.names.lookup x = some .free := hx
        rw [eenv] at z; exact z
      have hm : x = "__class__" := by
        rcases hx' with hx' | hx' <;> (have := PySem.mem_of_lookup hx'; rw [hsc] at this; simp at this)
        exact this
      exact ⟨cc, by show env.cells.lookup x = some cc; rw [hcells, hm]; rfl⟩
    cab := fun x c h _ => by cases h
    hd := fun _ => hr.hd
    frames := Around.frames_deeper e0.frames
    stk := .inr ⟨rfl, by show env.frame = some env.locals; rw [eenv]⟩
    exf := fun b z => by cases z
    bs := e0.bs
    bsz := e0.bsz
    noex := fun b o _ z => by cases z
    exfs := fun b z => by cases z
    funs := e0.funs
    frf := e0.frf }
  have elocs : env.locals = s.heap.objs.size := by rw [eenv]
  have ekind : env.scope.kind = .function := by rw [eenv]; exact hk
  have enames : env.scope.names = scope.names := by rw [eenv]
  have bm : ([("self" : Str), y].zip [Value.ref a, u]).reverse = [(y, u), (("self" : Str), Value.ref a)] := rfl
  rw [bm] at hns
  have ey : (("self" : Str) == y) = false := by simpa using fun z => hy1 z.symm
  have m1 : List.lookup ("self" : Str) [(y, u), (("self" : Str), Value.ref a)] = some (Value.ref a) := by
    simp [List.lookup, ey]
  have m2 : List.lookup y [(y, u), (("self" : Str), Value.ref a)] = some u := by
    simp [List.lookup]
  have hns' : h1.Ns env.locals (fun x => List.lookup x [(y, u), (("self" : Str), Value.ref a)]) := by rw [elocs]; exact hns
  have hcc1 : (Heap.IsCell h1 cc (some (.ref C))) := ⟨_, hk1 _ _ (up _ _ bcc), rfl⟩
  have onecell : ∀ x c, env.cells.lookup x = some c → c = cc := fun x c hx => by
    rw [hcells] at hx
    have := PySem.mem_of_lookup hx
    simp at this
    exact this.2
  have I : Inv X [] [some (.ref a), some v] H { s with heap := h1, toks := s.toks + ([("self" : Str), y].zip [Value.ref a, u]).length } := {
    ok := okX
    os := rfl
    bare := e0.bare
    base := Un.kept hk1
    loc := ⟨_, hns', fun i x z n1 n2 n3 => by
      match i, n1, n2 with
      | 0, n1, n2 =>
        cases (show some ("self" : Str) = some x from n1)
        cases (show some (some (V.ref a)) = some (some z) from n2)
        exact ⟨_, rfl, .inl ⟨by show env.scope.names.lookup _ = _; rw [enames]; exact l1, m1⟩⟩
      | 1, n1, n2 =>
        cases (show some y = some x from n1)
        cases (show some (some v) = some (some z) from n2)
        exact ⟨u, ru, .inl ⟨by show env.scope.names.lookup _ = _; rw [enames]; exact l2, m2⟩⟩
      | i + 2, n1, n2 => cases (show (none : Option Str) = some x from n1)⟩
    cell := fun x c hx => ⟨some (.ref C), (onecell x c hx).symm ▸ hcc1⟩
    free := by show H env.locals = none; rw [elocs]; exact e0.hok.fresh (Nat.le_refl _)
    freeC := fun x c hx => by rw [onecell x c hx]; exact (e0.bs _ _ bcc).2
    pin := fun p hp => by cases hp
    hok := e0.hok.kept hk1
    len := rfl }
  subst hbody
  obtain ⟨nm, qn, N, bs, bm', sn, sub, ab, col, dd, k0, k1, k2, k3, k5, lC, hbm⟩ := T.ox.cls
  have hcl : PySem.W.clsIn K C = some { name := nm, bases := bs, mro := .ref C :: bm', ns := N, qualname := qn, hasDict := true, slotNames := sn, subclasses := sub, abstract := ab, collection := col, hasDel := false } := by
    unfold PySem.W.clsIn; rw [lC] <;> rfl
  refine ks_wpAt_execs_cons (ks_wpAt_Expr_any (ks_wpAt_MethodCall ?_ (hev env)) I.quiet)
  have e1 : env.kindOf "super" = some .globalImplicit := by show env.scope.names.lookup _ = _; rw [enames]; exact l4
  have e2 : env.kindOf "__class__" = some .free := by show env.scope.names.lookup _ = _; rw [enames]; exact l3
  have e3 : env.kindOf "self" = some .local := by show env.scope.names.lookup _ = _; rw [enames]; exact l1
  have e4 : env.func = some f := by rw [eenv]
  have e5 : env.code = .ref cda := by rw [eenv]
  refine ks_wpAt_super_base e1 e2 (by decide +kernel) e4 (hk1 _ _ (KX _ _ lk)) rfl hpar e5 (hk1 _ _ (KX _ _ lcd)) rfl hvs hfile htop ?_
  obtain ⟨mb, b1, b2⟩ := e0.mod.blt
  have up1 : ∀ b o, base.get? b = some o → h1.get? b = some o := fun b o e => hk1 _ _ (up b o e)
  have g1 : env.globals = mainGlobals := by rw [eenv]
  have g2 : env.builtins = builtinsNs := by rw [eenv]
  refine PySem.W.ks_loadName_global ekind e1 (Calls.loadGlobal_builtin (by rw [g1]; exact e0.mod.glob.keeps up1) hsup (by rw [g2]; exact b1.keeps up1) ((b2 _ (by decide +kernel)).trans (by decide +kernel)) ⟨rfl, ?_⟩)
  refine wpAny_loadName_free ekind e2 (by rw [hcells]; rfl) hcc1 ?_
  rw [har]
  refine wpAny_loadName_local ekind e3 hns' m1 ?_
  have KX1 : K.In h1 := KX.keeps hk1
  refine ks_wpAny_isType_cls (KX1 _ _ lC) rfl ⟨rfl, ?_⟩
  obtain ⟨t1, hx1⟩ := exo_at I.hok ha
  have iat : PySem.W.InstAt h1 a (PySem.W.excObj C t1 none .none) C none := ⟨hx1, rfl, rfl, trivial⟩
  refine ks_wpAny_call_super (KX1 _ _ lC) rfl hx1 rfl (fun c e => by cases e) (PySem.W.looks_mroIn KX1 T.self_) fun h2 hso hk2 => ?_
  have I2 := I.kept (t' := s.toks + ([("self" : Str), y].zip [Value.ref a, u]).length) hk2
  have KX2 : K.In h2 := KX1.keeps hk2
  have iat2 : PySem.W.InstAt h2 a (PySem.W.excObj C t1 none .none) C none := ⟨hk2 _ _ hx1, rfl, rfl, trivial⟩
  have hsu := T.sup
  unfold PySem.W.ks_superIn at hsu
  rw [hcl] at hsu
  refine PySem.W.kxs_getMethod PySem.W.kxs_ValueError hso (PySem.W.looks_opaque KX2 T.any_) (l₀ := .ref C :: bm')
    ((PySem.W.looks_clsIn KX2 hcl).andThen .now) rfl KX2 hsu (iat2.type.andThen (PySem.W.looks_subIn KX2 T.sub))
    (PySem.W.ks_ne KX2 iat2 hcl) (by decide +kernel) ?_
  have kp : ∀ b o, h2.get? b = some o → (h2.push (PySem.W.kxs_mw "ValueError.__init__" a)).get? b = some o :=
    fun b o e => Heap.get?_push_of_some _ e
  have I3 := I2.kept (t' := s.toks + ([("self" : Str), y].zip [Value.ref a, u]).length + 1) kp
  have hmw : (h2.push (PySem.W.kxs_mw "ValueError.__init__" a)).get? h2.objs.size = some (PySem.W.kxs_mw "ValueError.__init__" a) := Heap.get?_push_at rfl rfl
  refine PySem.W.kxs_callWith (i := "ValueError.__init__") (x := a) rfl (Calls.evalArgs_plain ?_)
  refine Calls.spliced_cons (Calls.Constant_str (k := j) (pos := p3) ?_)
  refine Calls.spliced_nil ⟨hmw, ?_⟩
  have I3' := I3.tok (s.toks + ([("self" : Str), y].zip [Value.ref a, u]).length + 1 + 1)
  refine call_mw ((KX2.keeps kp) _ _ lC) (kp _ _ (hk2 _ _ hx1)) hmw (by show 1 ≤ sizeLine; decide) fun h4 k4 hx4 => ?_
  have J := I3'.write (t' := s.toks + ([("self" : Str), y].zip [Value.ref a, u]).length + 1 + 1) (x := a) (e := a) (o := exo a C none) (by rw [ha]; exact True.intro) (.inl rfl) k4 ⟨_, hx4⟩ (exo_ok hx4)
  have eu : upd H a (exo a C none) = H := by
    funext b
    by_cases hb' : b = a
    · rw [hb', upd_same, ha]
    · rw [upd_ne hb']
  rw [eu] at J
  show PySem.wpAt _ _ _ _ _ _ _
  refine wpAt_of_wpAny ?_
  have P1 : PE X (.Name "self" q0) (tVar 0) := pe_var (i := 0) rfl (.inl e3) (by decide) (by decide)
  have P2 : PE X (.Name y q2) (tVar 1) := pe_var (i := 1) rfl (.inl (by show env.scope.names.lookup _ = _; rw [enames]; exact l2)) hyd hyc
  have body2 : PSs X [.Assign [.Attribute (.Name "self" q0) y q1] (.Name y q2) q3] (tOst K y (tVar 0) (tVar 1)) := pss_one (ps_ost P1 P2)
  refine wpAny_mono (body2.run [] _ _ H { nx := fun _ H' => Q .non H', rt := fun _ _ => False } J
    ⟨v, rfl, V.ref a, rfl, a, C, rfl, T.ox, T.no, .inl ⟨ha, fun dx n ne => q dx n ne⟩⟩) (fun fl s' hs => ?_) fun _ _ z => False.elim z
  match fl, hs with
  | .next, ⟨σ', H', J', q'⟩ => exact ⟨V.non, H', J'.os, J'.bare, J'.base, J'.hok, rfl, q'⟩
  | .ret _, ⟨_, _, _, _, _, q'⟩ => exact False.elim q'
  | .brk, ⟨_, _, _, q'⟩ => exact False.elim q'
  | .cont, ⟨_, _, _, q'⟩ => exact False.elim q'
end
end Rm

set_option maxRecDepth 100000
set_option maxHeartbeats 4000000
namespace Rm
open PySem PySem.Spec L2
open PyProof.Rows hiding St

/-- an own error class: x names the class at C, whose __init__ stores y -/
def Er (P : Program) (w : World) (K : PySem.W.Frag) (mg : Str → Option Value) (base : Heap) (x : Str)
    (C : Addr) (y : Str) : Prop :=
  ∃ f fd, mg x = some (.ref C) ∧ OexC K C ∧ PySem.W.findIn K (.ref C) "__init__" = some (some (.ref f)) ∧
    PySem.W.typeIn K (.ref f) = some (.type "function") ∧ PySem.W.keepIn K (.ref C) = true ∧
    Binds K fd [("self" : Str), y] [] ∧ FnG P w K mg base CX0 2 f fd [("self" : Str), y] (spErr K C y)

section
variable {X : Cx} {C : Addr} {y : Str}
/-- the call of the class: what stands behind it -/
structure Born (X : Cx) (pins : List (Addr × Obj)) (σ : L2.St) (H : Hp) (s : Shared) (C : Addr) (y : Str) (v : V) (u : Value) (s' : Shared) : Prop where
  ex : ∃ (a d : Addr) (hp2 : Heap), u = .ref a ∧ s.heap.objs.size ≤ a ∧ H a = none ∧ H d = none ∧ d ≠ a ∧
    (∀ b o, s.heap.get? b = some o → hp2.get? b = some o) ∧
    Un (frs X.stack) [] (upd H a (exo a C none)) (upd (upd (upd H a (exo a C none)) d (exd d [(y, v)])) a (exo a C (some d))) hp2 s'.heap ∧
    HOk X.prog X.w (upd (upd (upd H a (exo a C none)) d (exd d [(y, v)])) a (exo a C (some d))) s'.heap ∧ s'.os = s.os ∧ AllBare s'.gens

theorem born {x : Str} {pins : List (Addr × Obj)} {σ : L2.St} {H : Hp} {s : Shared} {v : V} {u : Value} {E : Value → Shared → Prop}
    (D : Er X.prog X.w X.K X.mg X.base x C y) (hr : Room 3 X.A) (hG : Gd X.A) (I : Inv X pins σ H s) (r : RelV v u) :
    wpAny (model X.prog X.w) X.A (call (.ref C) [u]) (Born X pins σ H s C y v) E s := by
  obtain ⟨f, fd, hm, T, iC, tI, kC, hb, F0⟩ := D
  obtain ⟨nm, q, N, bs, bm, sn, sub, ab, col, dd, k0, k1, k2, k3, k5, lC, hbm⟩ := T.cls
  obtain ⟨hp, g, dr, tk, os⟩ := s
  have one : hp.objs.size ≤ hp.objs.size + 1 := Nat.le_succ _
  have hn : H (hp.objs.size + 1) = none := I.hok.fresh one
  let hp2 := (hp.push (PySem.W.kdv_tup [u])).push (PySem.HandSPX.excO C hp.objs.size)
  have kk : ∀ b o, hp.get? b = some o → hp2.get? b = some o := fun b o e =>
    Heap.get?_push_of_some _ (Heap.get?_push_of_some _ e)
  have hget : hp2.get? (hp.objs.size + 1) = some (PySem.HandSPX.excO C hp.objs.size) := by
    show ((hp.push _).push _).get? _ = _
    heap_get
  have I2 := I.laid (t' := tk) (a := hp.objs.size + 1) (o := exo (hp.objs.size + 1) C none) (h' := hp2) kk one (exo_ok hget)
  have both : Vals [V.ref (hp.objs.size + 1), v] [Value.ref (hp.objs.size + 1), u] := .cons rfl (.cons r .nil)
  have hsp : spErr X.K C y [V.ref (hp.objs.size + 1), v] (upd H (hp.objs.size + 1) (exo (hp.objs.size + 1) C none))
      (fun z H2 => z = .non ∧ ∃ d, H d = none ∧ d ≠ hp.objs.size + 1 ∧
        H2 = upd (upd (upd H (hp.objs.size + 1) (exo (hp.objs.size + 1) C none)) d (exd d [(y, v)])) (hp.objs.size + 1) (exo (hp.objs.size + 1) C (some d)))
      (fun _ _ _ => False) :=
    ⟨_, v, rfl, upd_same, fun d n ne => ⟨rfl, d, by rw [upd_ne ne] at n; exact n, ne, rfl⟩⟩
  refine wpAny_call (PySem.HandSPX.call_own F.excBase_ValueError (fun Y => PySem.HandSPX.refsVE_contains Y bm hbm)
    (I.kIn _ _ lC) (PySem.W.looks_findIn I.kIn iC) (fun self => PySem.W.bind_fn I.kIn self tI) (by show 1 ≤ sizeLine; decide)
    (codeAny_mono (F0.run _ X.stack _ _ ⟨[Value.ref (hp.objs.size + 1), u], []⟩ _ _ _ (fun _ _ _ => False)
      (hr.make C [u] []) (hG.make C [u] []) (I2.env0.make C [u] []) (hb _ [Value.ref (hp.objs.size + 1), u] I2.kIn rfl) both hsp)
      fun rr s' hq => ?_))
  match rr, hq with
  | .ok (.ret z), ⟨zz, H2, os2, bare2, un2, hok2, rz, ez, d, hd, ne, eH⟩ =>
    subst ez
    subst eH
    exact ⟨rz, ⟨_, d, hp2, rfl, one, hn, hd, ne, kk, un2, hok2, os2, bare2⟩⟩
  | .error er, hq => exact False.elim hq
  | .ok .next, hq => exact False.elim hq
  | .ok .brk, hq => exact False.elim hq
  | .ok .cont, hq => exact False.elim hq

theorem born_eq {H : Hp} {a d : Addr} {o1 o2 o3 : HO} (ne : d ≠ a) :
    upd (upd (upd H a o1) d o2) a o3 = upd (upd H d o2) a o3 := by
  funext b
  by_cases h1 : b = a
  · rw [h1, upd_same, upd_same]
  · rw [upd_ne h1, upd_ne h1]
    by_cases h2 : b = d
    · rw [h2, upd_same, upd_same]
    · rw [upd_ne h2, upd_ne h2, upd_ne h1]

/-- C(e) as a value: a new error, its dict -/
def tBorn (C : Addr) (y : Str) (te : TE) : TE := fun σ H Q => tCons te tNil σ H fun vs H1 => ∃ v, vs = [v] ∧ ∀ a d, H1 a = none → H1 d = none → d ≠ a →
  Q (.ref a) (upd (upd H1 d (exd d [(y, v)])) a (exo a C (some d)))
/-- C(e) to be raised: its dict stands as an exception's dict -/
def tErr (C : Addr) (y : Str) (te : TE) : L2.St → Hp → XK → Prop := fun σ H Q => tCons te tNil σ H fun vs H1 => ∃ v, vs = [v] ∧ ∀ d, H1 d = none →
  Q (.ref C) (some d) (upd H1 d (.xd [(y, v)]))
variable {x : Str} {e : Expr} {te : TE} {p pos : Pos}
theorem pe_er (D : Er X.prog X.w X.K X.mg X.base x C y) (hr : Room 3 X.A) (hG : Gd X.A) (he : PE X e te) (hg : Gl X x := by rfl)
    (hdb : (x == ("__debug__" : Str)) = false := by decide)
    (hs : starEach [e] X.env = (false, eval e X.env) :: starEach [] X.env := by rfl)
    (hpl : (backTo pos (starEach [] X.env)).any (·.1) = false := by rfl) :
    PE X (.Call (.Name x p) [e] [] pos) (tBorn C y te) := by
  have D' := D
  obtain ⟨f, fd, hm, T, iC, tI, kC, hb, F0⟩ := D'
  refine ⟨fun pins s σ H Q I h => wpAny_Call_Name_kw (ld_glob I hg hm
    (PySem.W.callWith_K (h₀ := X.base) I.ok.mod.kin kC
      (thn ((pa_cons (X := X) (es := []) he pa_nil hs).run pos pins s σ H _ I (show tCons te tNil σ H _ from h)) fun us s1 ⟨vs, H1, I1, r, v, ev, q⟩ => ⟨I1.kIn, ?_⟩) hs hpl) hdb)⟩
  subst ev
  obtain ⟨u, rfl, ru⟩ := vals1 r
  refine thn (born D hr hG I1 ru) fun u2 s2 B => ?_
  obtain ⟨a, d, hp2, rfl, sz, na, nd, ne, kk, un, hok, ho, hb2⟩ := B.ex
  rw [born_eq ne] at un hok
  refine ⟨.ref a, _, ?_, rfl, q a d na nd ne⟩
  have un0 : Un (frs X.stack) [] H1 (upd (upd H1 d (exd d [(y, v)])) a (exo a C (some d))) s1.heap s2.heap := by
    have nha : ∀ {b : Addr} {o : Obj}, s1.heap.get? b = some o → b ≠ a := fun z => Nat.ne_of_lt (Nat.lt_of_lt_of_le (Heap.lt_size z) sz)
    have upn : ∀ {b : Addr}, b ≠ a → H1 b = none → upd H1 a (exo a C none) b = none := fun hb n => by rw [upd_ne hb]; exact n
    exact {
      keep := fun b o z n hf hx => un.keep b o (kk b o z) (upn (nha z) n) hf hx
      slot := fun b o z n hf hx => un.slot b o (kk b o z) (upn (nha z) n) hf hx
      free := fun b o z n hx => un.free b o (kk b o z) (upn (nha z) n) hx
      there := fun b o z hx => un.there b o (kk b o z) hx
      tups := fun b xs z => un.tups b xs (by rw [upd_ne (ne_of_none z na)]; exact z)
      frzs := fun b o w z => un.frzs b o w (by rw [upd_ne (ne_of_none z na)]; exact z)
      tbls := fun b ps z => un.tbls b ps (by rw [upd_ne (ne_of_none z na)]; exact z) }
  exact I1.call' (ch := []) ho un0 hok hb2 fun b z => absurd z (by simp)
/-- raise C(e) -/
theorem pmk_er (D : Er X.prog X.w X.K X.mg X.base x C y) (hr : Room 3 X.A) (hG : Gd X.A) (he : PE X e te) (hg : Gl X x := by rfl)
    (hdb : (x == ("__debug__" : Str)) = false := by decide)
    (hs : starEach [e] X.env = (false, eval e X.env) :: starEach [] X.env := by rfl)
    (hpl : (backTo pos (starEach [] X.env)).any (·.1) = false := by rfl) :
    PMk X (.Call (.Name x p) [e] [] pos) (tErr C y te) := by
  have D' := D
  obtain ⟨f, fd, hm, T, iC, tI, kC, hb, F0⟩ := D'
  intro pins s σ H Q I h
  refine wpAny_Call_Name_kw (ld_glob I hg hm (PySem.W.callWith_K (h₀ := X.base) I.ok.mod.kin kC
    (thn ((pa_cons (X := X) (es := []) he pa_nil hs).run pos pins s σ H _ I (show tCons te tNil σ H _ from h)) fun us s1 ⟨vs, H1, I1, r, v, ev, q⟩ => ⟨I1.kIn, ?_⟩) hs hpl) hdb)
  subst ev
  obtain ⟨u, rfl, ru⟩ := vals1 r
  refine thn (born D hr hG I1 ru) fun u2 s2 B => ?_
  obtain ⟨a, d, hp2, rfl, sz, na, nd, ne, kk, un, hok, ho, hb2⟩ := B.ex
  obtain ⟨h1, g1, d1, t1, o1⟩ := s1
  obtain ⟨h2, g2, d2, t2, o2⟩ := s2
  have q2 := q d nd
  have eq : upd (del (upd (upd (upd H1 a (exo a C none)) d (exd d [(y, v)])) a (exo a C (some d))) a) d (.xd [(y, v)]) = upd H1 d (.xd [(y, v)]) := by
    funext b
    by_cases h1 : b = d
    · rw [h1, upd_same, upd_same]
    · rw [upd_ne h1, upd_ne h1]
      by_cases h2 : b = a
      · rw [h2, del_same, na]
      · rw [del_ne h2, upd_ne h2, upd_ne h1, upd_ne h2]
  rw [← eq] at q2
  have ed : (upd (upd (upd H1 a (exo a C none)) d (exd d [(y, v)])) a (exo a C (some d))) d = some (exd d [(y, v)]) := by
    rw [upd_ne ne, upd_same]
  exact mk_end (raises_own T.exC T.tyC) I1 sz kk un hok ho hb2 upd_same ed nd q2
end
end Rm

set_option maxRecDepth 100000
set_option maxHeartbeats 4000000
namespace Rm
open PySem PySem.Spec L2
open PyProof.Rows hiding St

/-! ### calls whose errors are wished for at the caller's names -/
section
variable {X : Cx} {CX : CXT} {k : Nat} {f C : Addr} {fd : FuncData} {ps : List Str} {sp : Sp}
variable {dvs : List V} {ds : List Value} {E : L2.St → XK} {x m : Str} {p pos apos : Pos} {e o : Expr}
variable {es : List Expr} {ta : TE} {t : TA}
/-- behind a callee's end -/
theorem cameS {pins : List (Addr × Obj)} {σ : St} {H : Hp} {s s' : Shared} {Q : VK} {r : Result}
    (hx : ∀ σ, PassesAt CX X σ (E σ)) (I : Inv X pins σ H s)
    (hq : CR CX X.stack X.prog X.w H s Q (E σ) r s') :
    wants (EP X pins σ Q) X.xe r s' := by
  match r, hq with
  | .error e, hq => exact hx σ pins H s e s' I hq
  | .ok (.ret u), hq => exact I.after hq
  | .ok .next, hq => exact False.elim hq
  | .ok .brk, hq => exact False.elim hq
  | .ok .cont, hq => exact False.elim hq

theorem goesS {pins : List (Addr × Obj)} {σ : St} {H : Hp} {s : Shared} {Q : VK}
    {us : List Value} {vs : List V}
    (F : FnG X.prog X.w X.K X.mg X.base CX k f fd ps sp) (hr : Room k X.A) (hG : Gd X.A)
    (hb : Binds X.K fd ps ds) (hd : Vals dvs ds) (hx : ∀ σ, PassesAt CX X σ (E σ))
    (I : Inv X pins σ H s) (r : Vals vs us) (h : sp (vs ++ dvs) H Q (E σ)) :
    wpAny (model X.prog X.w) X.A (call (.ref f) us) (EP X pins σ Q) X.xe s := by
  have both := r.append hd
  have hl : (us ++ ds).length = ps.length := both.length.symm.trans (F.len _ _ _ _ h)
  exact wpAny_call (codeAny_mono (F.run X.A X.stack s H ⟨us, []⟩ _ _ Q (E σ) hr hG I.env0
    (hb s us I.kIn hl) both h) fun r s' hq => cameS hx I hq)

theorem growsS {pins : List (Addr × Obj)} {σ : St} {H : Hp} {s : Shared} {Q : VK}
    {us : List Value} {vs : List V} (M : Mk X.K C f)
    (F : FnG X.prog X.w X.K X.mg X.base CX k f fd ps sp) (hr : Room (k + 1) X.A) (hG : Gd X.A)
    (hb : Binds X.K fd ps ds) (hd : Vals dvs ds) (hx : ∀ σ, PassesAt CX X σ (E σ))
    (I : Inv X pins σ H s) (r : Vals vs us)
    (h : ∀ y dx, H y = none → H dx = none → dx ≠ y →
      sp (.ref y :: (vs ++ dvs)) (upd (upd H dx (.own y)) y (.ins C dx []))
        (fun v H2 => v = .non ∧ Q (.ref y) H2) (E σ)) :
    wpAny (model X.prog X.w) X.A (call (.ref C) us) (EP X pins σ Q) X.xe s := by
  have n1 : H (s.heap.objs.size + 1) = none := I.hok.fresh (Nat.le_succ _)
  have n0 : H s.heap.objs.size = none := I.hok.fresh (Nat.le_refl _)
  have hq := h _ _ n1 n0 (Nat.ne_of_lt (Nat.lt_succ_self _))
  have I2 := Inv.made (C := C) I
  have both : Vals (V.ref (s.heap.objs.size + 1) :: (vs ++ dvs))
      (Value.ref (s.heap.objs.size + 1) :: (us ++ ds)) := .cons rfl (r.append hd)
  have hl : (Value.ref (s.heap.objs.size + 1) :: us ++ ds).length = ps.length :=
    both.length.symm.trans (F.len _ _ _ _ hq)
  refine wpAny_call (make_map (f := f) I.kIn M.makes M.init (beq_iff_eq.mp M.fn)
    (codeAny_mono (F.run _ X.stack _ _ ⟨Value.ref (s.heap.objs.size + 1) :: us, []⟩ _ _ _ (E σ)
      (hr.make C us []) (hG.make C us []) (I2.env0.make C us [])
      (hb _ (Value.ref (s.heap.objs.size + 1) :: us) I2.kIn hl) both hq) fun r s' hq' => ?_))
  match r, hq' with
  | .error er, hq' => exact hx σ pins _ _ er s' I2 hq'
  | .ok (.ret u), hq' =>
    obtain ⟨v, H', I3, rv, ev, q3⟩ := I2.after hq'
    subst ev
    exact ⟨rv, V.ref (s.heap.objs.size + 1), H', I3, rfl, q3⟩
  | .ok .next, hq' => exact False.elim hq'
  | .ok .brk, hq' => exact False.elim hq'
  | .ok .cont, hq' => exact False.elim hq'


def tCallE (sp : Sp) (E : L2.St → XK) (t : TA) : TE := fun σ H Q => t σ H fun vs H1 => sp vs H1 Q (E σ)
def tMethE (C : Addr) (m : Str) (sp : Sp) (E : L2.St → XK) (ta : TE) (t : TA) : TE := fun σ H Q => ta σ H fun x H1 =>
  ∃ a dx fs, x = .ref a ∧ H1 a = some (.ins C dx fs) ∧ fs.lookup m = none ∧ t σ H1 fun vs H2 => sp (x :: vs) H2 Q (E σ)
def tMakeE (C : Addr) (sp : Sp) (E : L2.St → XK) (t : TA) : TE := fun σ H Q => t σ H fun vs H1 => ∀ x dx, H1 x = none → H1 dx = none → dx ≠ x →
  sp (.ref x :: vs) (upd (upd H1 dx (.own x)) x (.ins C dx [])) (fun v H2 => v = .non ∧ Q (.ref x) H2) (E σ)
theorem pe_ceE (D : Ce X.prog X.w X.K X.mg X.base CX k x ps sp) (hr : Room k X.A) (hG : Gd X.A)
    (ha : PA X (e :: es) t) (hx : ∀ σ, PassesAt CX X σ (E σ)) (hg : Gl X x := by rfl)
    (hdb : (x == ("__debug__" : Str)) = false := by decide)
    (he : starEach (e :: es) X.env = (false, eval e X.env) :: starEach es X.env := by rfl)
    (hpl : (backTo pos (starEach es X.env)).any (·.1) = false := by rfl) :
    PE X (.Call (.Name x p) (e :: es) [] pos) (tCallE sp E t) :=
  let ⟨_, _, hm, hk, hb, F⟩ := D
  ⟨fun pins s σ H Q I h => wpAny_Call_Name_kw (ld_glob I hg hm
    (PySem.W.callWith_K (h₀ := X.base) I.ok.mod.kin hk
      (thn (ha.run pos pins s σ H _ I h) fun us s1 ⟨vs, H1, I1, r, q⟩ =>
        ⟨I1.kIn, goesS (dvs := []) (ds := []) F hr hG hb .nil hx I1 r (by rw [List.append_nil]; exact q)⟩) he hpl) hdb)⟩
theorem pe_cnE (D : Cn X.prog X.w X.K X.mg X.base CX k x C ps sp) (hr : Room (k + 1) X.A) (hG : Gd X.A)
    (ha : PA X (e :: es) t) (hx : ∀ σ, PassesAt CX X σ (E σ)) (hg : Gl X x := by rfl)
    (hdb : (x == ("__debug__" : Str)) = false := by decide)
    (he : starEach (e :: es) X.env = (false, eval e X.env) :: starEach es X.env := by rfl)
    (hpl : (backTo pos (starEach es X.env)).any (·.1) = false := by rfl) :
    PE X (.Call (.Name x p) (e :: es) [] pos) (tMakeE C sp E t) :=
  let ⟨_, _, hm, M, hb, F⟩ := D
  ⟨fun pins s σ H Q I h => wpAny_Call_Name_kw (ld_glob I hg hm
    (PySem.W.callWith_K (h₀ := X.base) I.ok.mod.kin M.kp
      (thn (ha.run pos pins s σ H _ I h) fun us s1 ⟨vs, H1, I1, r, q⟩ =>
        ⟨I1.kIn, growsS (dvs := []) (ds := []) M F hr hG hb .nil hx I1 r (by rw [List.append_nil]; exact q)⟩) he hpl) hdb)⟩
theorem pe_cmE {pl : Sem Bool} (D : Cm X.prog X.w X.K X.mg X.base CX k C m ps sp) (hr : Room k X.A)
    (hG : Gd X.A) (he : PE X o ta) (ha : PA X (e :: es) t) (hx : ∀ σ, PassesAt CX X σ (E σ))
    (hst : starEach (e :: es) X.env = (false, eval e X.env) :: starEach es X.env := by rfl)
    (hpl : (backTo pos (starEach es X.env)).any (·.1) = false := by rfl)
    (ht : eval (.Call (.Attribute o m apos) (e :: es) [] pos) X.env = (do
      let ov ← eval o X.env
      standAt apos.atName
      let (g, first) ← holding [ov] (getMethod ov m pl)
      callWith pos g first (backTo pos (starEach (e :: es) X.env))
        (backToKw pos (keywordEach [] X.env))) := by rfl) :
    PE X (.Call (.Attribute o m apos) (e :: es) [] pos) (tMethE C m sp E ta t) := by
  obtain ⟨f, fd, c, hm, hb, F⟩ := D
  constructor
  intro pins s σ H Q I h
  refine PySem.W.methodCall_KW (pl := pl)
    (thn (he.run pins s σ H _ I h) fun u s1 ⟨y, H1, I1, ry, a, dx, fs, ey, ea, l, q⟩ => ?_) ht
  obtain rfl := ey
  have ru : u = Value.ref a := ry
  rw [ru]
  exact getmeth_ok I1 ea c hm l (PySem.W.callWith_K (first := [.ref a]) (h₀ := X.base)
    I.ok.mod.kin hm.kp (thn (ha.run pos pins s1 σ H1 _ I1 q) fun us s2 ⟨vs, H2, I2, r, q2⟩ =>
      ⟨I2.kIn, goesS (dvs := []) (ds := []) (us := .ref a :: us) (vs := .ref a :: vs) F hr hG hb .nil hx I2 (.cons rfl r) (by rw [List.append_nil]; exact q2)⟩) hst hpl)
theorem pe_cmE0 {pl : Sem Bool} (D : Cm X.prog X.w X.K X.mg X.base CX k C m ps sp) (hr : Room k X.A)
    (hG : Gd X.A) (he : PE X o ta) (hx : ∀ σ, PassesAt CX X σ (E σ))
    (ht : eval (.Call (.Attribute o m apos) [] [] pos) X.env = (do
      let ov ← eval o X.env
      standAt apos.atName
      let (g, first) ← holding [ov] (getMethod ov m pl)
      callWith pos g first (backTo pos (starEach [] X.env))
        (backToKw pos (keywordEach [] X.env))) := by rfl) :
    PE X (.Call (.Attribute o m apos) [] [] pos) (tMethE C m sp E ta tNil) := by
  obtain ⟨f, fd, c, hm, hb, F⟩ := D
  constructor
  intro pins s σ H Q I h
  refine PySem.W.methodCall_KW (pl := pl)
    (thn (he.run pins s σ H _ I h) fun u s1 ⟨y, H1, I1, ry, a, dx, fs, ey, ea, l, q⟩ => ?_) ht
  obtain rfl := ey
  have ru : u = Value.ref a := ry
  rw [ru]
  exact getmeth_ok I1 ea c hm l (PySem.W.callWith_K0 (first := [.ref a]) I1.kIn hm.kp
    (goesS (dvs := []) (ds := []) (us := [.ref a]) (vs := [.ref a]) F hr hG hb .nil hx I1 (.cons rfl .nil) q))
end
end Rm

set_option maxRecDepth 100000
set_option maxHeartbeats 4000000
namespace Rm
open PySem PySem.Spec L2
open PyProof.Rows hiding St
open SeqAt MeetsSeq

/-! ### a built-in value on the left declines an own instance on the right -/
section
variable {M : Model} {prog : Program} {w : World} {A : Around} {E : Value → Shared → Prop} {K : PySem.W.Frag} {x C : Addr} {ox : Obj} {od : Option Obj} {hp : Heap} {g : Array GenState} {d : Drawn} {tk : Nat} {os : OsState}
theorem look_in {T : String} (X : K.In hp) (I : PySem.W.InstAt hp x ox C od) (e : PySem.W.subIn K (.ref C) (.type T) = some false) :
    PySem.W.Looks M hp (isInstance (.ref x) (.type T)) false := I.type.andThen (PySem.W.looks_subIn X e)
theorem dec_int {dx : Addr} (X : K.In hp) (I : PySem.W.InstAt hp x (PySem.W.instObj C dx) C od) {a : Int} {t : Tok} {Q : Fin → Shared → Prop}
    (hq : Q (.done (.ret .notImplemented)) ⟨hp, g, d, tk, os⟩) : wpAny M A (Builtin.«int.__eq__» ⟨[.int a t, .ref x], []⟩) Q E ⟨hp, g, d, tk, os⟩ := by
  have hx := I.at_
  wp_walk using wpAny_load hx
  exact hq
theorem dec_bool {dx : Addr} (X : K.In hp) (I : PySem.W.InstAt hp x (PySem.W.instObj C dx) C od) {a : Bool} {Q : Fin → Shared → Prop}
    (hq : Q (.done (.ret .notImplemented)) ⟨hp, g, d, tk, os⟩) : wpAny M A (Builtin.«int.__eq__» ⟨[.bool a, .ref x], []⟩) Q E ⟨hp, g, d, tk, os⟩ := by
  have hx := I.at_
  wp_walk using wpAny_load hx
  exact hq
theorem dec_str {dx : Addr} (X : K.In hp) (I : PySem.W.InstAt hp x (PySem.W.instObj C dx) C od) {a : Str} {t : Tok} {Q : Fin → Shared → Prop}
    (hq : Q (.done (.ret .notImplemented)) ⟨hp, g, d, tk, os⟩) : wpAny M A (Builtin.«str.__eq__» ⟨[.str a t, .ref x], []⟩) Q E ⟨hp, g, d, tk, os⟩ := by
  have hx := I.at_
  wp_walk using wpAny_load hx
  exact hq
theorem dec_none {Q : Fin → Shared → Prop}
    (hq : Q (.done (.ret .notImplemented)) ⟨hp, g, d, tk, os⟩) : wpAny M A (Builtin.«NoneType.__eq__» ⟨[.none, .ref x], []⟩) Q E ⟨hp, g, d, tk, os⟩ := by
  wp_walk
  exact hq
theorem dec_list {dx l : Addr} (X : K.In hp) (I : PySem.W.InstAt hp x (PySem.W.instObj C dx) C od) (e : PySem.W.subIn K (.ref C) (.type "list") = some false)
    {Q : Fin → Shared → Prop}
    (hq : Q (.done (.ret .notImplemented)) ⟨hp, g, d, tk, os⟩) : wpAny M A (Builtin.«list.__eq__» ⟨[.ref l, .ref x], []⟩) Q E ⟨hp, g, d, tk, os⟩ := by
  have hL := look_in (M := M) X I e
  wp_walk using PySem.W.Looks.at hL
  exact hq
theorem dec_tuple {dx l : Addr} (X : K.In hp) (I : PySem.W.InstAt hp x (PySem.W.instObj C dx) C od) (e : PySem.W.subIn K (.ref C) (.type "tuple") = some false)
    {Q : Fin → Shared → Prop}
    (hq : Q (.done (.ret .notImplemented)) ⟨hp, g, d, tk, os⟩) : wpAny M A (Builtin.«tuple.__eq__» ⟨[.ref l, .ref x], []⟩) Q E ⟨hp, g, d, tk, os⟩ := by
  have hL := look_in (M := M) X I e
  wp_walk using PySem.W.Looks.at hL
  exact hq
theorem dec_dict {dx l : Addr} (X : K.In hp) (I : PySem.W.InstAt hp x (PySem.W.instObj C dx) C od) (e : PySem.W.subIn K (.ref C) (.type "dict") = some false)
    {Q : Fin → Shared → Prop}
    (hq : Q (.done (.ret .notImplemented)) ⟨hp, g, d, tk, os⟩) : wpAny M A (Builtin.«dict.__eq__» ⟨[.ref l, .ref x], []⟩) Q E ⟨hp, g, d, tk, os⟩ := by
  have hL := look_in (M := M) X I e
  wp_walk using PySem.W.Looks.at hL
  exact hq
end

/-- the class at C has an own __eq__ that keeps sp, and is none of the built-in ones -/
structure OwnE (P : Program) (w : World) (K : PySem.W.Frag) (mg : Str → Option Value) (base : Heap) (n : Nat) (C : Addr) (sp : Sp) : Prop where
  fn : ∃ f fd ps, PySem.W.findIn K (.ref C) "__eq__" = some (some (.ref f)) ∧ PySem.W.isFn K (.ref f) = true ∧
    Binds K fd ps [] ∧ FnG P w K mg base CX0 n f fd ps sp
  l : PySem.W.subIn K (.ref C) (.type "list") = some false
  t : PySem.W.subIn K (.ref C) (.type "tuple") = some false
  d : PySem.W.subIn K (.ref C) (.type "dict") = some false
  i : PySem.W.subIn K (.ref C) (.type "int") = some false
  b : PySem.W.subIn K (.ref C) (.type "bool") = some false
  s : PySem.W.subIn K (.ref C) (.type "str") = some false
  n : PySem.W.subIn K (.ref C) (.type "NoneType") = some false
def tyD : PyData → String
  | .none => "NoneType" | .bool _ => "bool" | .int _ => "int" | .str _ => "str" | .list _ => "list" | .tuple _ => "tuple" | .dict _ => "dict"
section
variable {X : Cx} {C : Addr} {n : Nat} {sp : Sp} {pins : List (Addr × Obj)} {σ : L2.St} {H : Hp} {s : Shared}
theorem OwnE.sub {P : Program} {w : World} {K : PySem.W.Frag} {mg : Str → Option Value} {base : Heap} (D : OwnE P w K mg base n C sp) :
    ∀ d : PyData, PySem.W.subIn K (.ref C) (.type (tyD d)) = some false
  | .none => D.n | .bool _ => D.b | .int _ => D.i | .str _ => D.s | .list _ => D.l | .tuple _ => D.t | .dict _ => D.d
theorem Dx.typ (I : Inv X pins σ H s) {v : V} {d : PyData} {u : Value} (h : Dx X.K H v d) (r : RelV v u) : s.TypeIs u (tyD d) := by
  cases h with
  | non => cases r; rfl
  | bl b => cases r; rfl
  | int i => obtain ⟨t, rfl⟩ := r; rfl
  | str x => obtain ⟨t, rfl⟩ := r; rfl
  | lst h _ =>
    cases r
    obtain ⟨its, rv, pl, hz⟩ := I.list h
    exact pl.isList.typeIs
  | tup h _ =>
    cases r
    obtain ⟨its, rv, ⟨o, h1, h2, _⟩, hz⟩ := I.tuple h
    exact ⟨o, h1, h2⟩
  | dic h _ =>
    cases r
    obtain ⟨_, _, vs, _, p⟩ := dk_rd I.hok h
    exact p.typeIs
theorem looks_ty {M : Model} {u : Value} {T : String} (t : s.TypeIs u T) : PySem.W.Looks M s.heap (typeOf u) (.type T) := by
  cases u with
  | ref a =>
    obtain ⟨o, ho, hc⟩ := t
    exact hc ▸ (PySem.W.Looks.ld ho).andThen .now
  | _ => exact PySem.W.Looks.of_pure t
/-- x == y, y an instance with its own ==, x of a built-in kind: y is asked -/
def rFlip (K : PySem.W.Frag) (C : Addr) (sp : Sp) : R2 := fun x y H Q => ∃ a dx fs d, y = .ref a ∧ H a = some (.ins C dx fs) ∧ Dx K H x d ∧
  sp [y, x] H (fun z H' => ∃ b, z = .bl b ∧ Q z H') E0
theorem op_flip (D : OwnE X.prog X.w X.K X.mg X.base n C sp) (hr : Room n X.A) (hG : Gd X.A) : OpR X (compareOp .Eq) (rFlip X.K C sp) := by
  intro pins s σ H x y v u Q I rx ry h
  obtain ⟨a, dx, fs, d, rfl, ha, hd, q⟩ := h
  cases ry
  obtain ⟨f, fd, ps, hs, hf, hb, F0⟩ := D.fn
  obtain ⟨mA, O, _⟩ := ins_get I.hok ha
  obtain ⟨od, J, _⟩ := O.look
  have tv := Dx.typ I hd rx
  have lv := looks_ty (M := model X.prog X.w) tv
  have dec : ∃ id, Slot (tyD d) "__eq__" id ∧ ∀ {Q' : Value → Shared → Prop}, Q' .notImplemented s →
      wpAny (model X.prog X.w) X.A (call (.builtin id) [v, .ref a]) Q' X.xe s := by
    obtain ⟨hp, g, dr, tk, os⟩ := s
    cases hd with
    | non => cases rx; exact ⟨_, F.slot_NoneType_eq, fun hq => wpAny_call_entry F.slot_NoneType_eq tv F.entry_NoneType_eq (dec_none ⟨_, rfl, hq⟩) (F.args_NoneType_eq_2 _ _)⟩
    | bl b => cases rx; exact ⟨_, F.slot_bool_eq, fun hq => wpAny_call_entry F.slot_bool_eq tv F.entry_int_eq (dec_bool I.kIn J ⟨_, rfl, hq⟩) (F.args_int_eq_2 _ _)⟩
    | int i => obtain ⟨t, rfl⟩ := rx; exact ⟨_, F.slot_int_eq, fun hq => wpAny_call_entry F.slot_int_eq tv F.entry_int_eq (dec_int I.kIn J ⟨_, rfl, hq⟩) (F.args_int_eq_2 _ _)⟩
    | str z => obtain ⟨t, rfl⟩ := rx; exact ⟨_, F.slot_str_eq, fun hq => wpAny_call_entry F.slot_str_eq tv F.entry_str_eq (dec_str I.kIn J ⟨_, rfl, hq⟩) (F.args_str_eq_2 _ _)⟩
    | lst hl _ =>
      cases rx
      obtain ⟨its, rv, ⟨o, n, ho, hc, _, hdt⟩, _⟩ := I.list hl
      exact ⟨_, F.slot_list_eq, fun hq => wpAny_call_entry F.slot_list_eq tv F.entry_list_eq (dec_list I.kIn J D.l ⟨_, rfl, hq⟩) (F.args_list_eq_2 _ _)⟩
    | tup hl _ => cases rx; exact ⟨_, F.slot_tuple_eq, fun hq => wpAny_call_entry F.slot_tuple_eq tv F.entry_tuple_eq (dec_tuple I.kIn J D.t ⟨_, rfl, hq⟩) (F.args_tuple_eq_2 _ _)⟩
    | dic hl _ => cases rx; exact ⟨_, F.slot_dict_eq, fun hq => wpAny_call_entry F.slot_dict_eq tv F.entry_dict_eq (dec_dict I.kIn J D.d ⟨_, rfl, hq⟩) (F.args_dict_eq_2 _ _)⟩
  obtain ⟨id, sl, dec⟩ := dec
  have two : wpAny (model X.prog X.w) X.A (tryCompare (.ref a) "__eq__" v) (fun r s' => ∃ b, r = some (.bool b) ∧ EP X pins σ Q (.bool b) s') X.xe s := by
    unfold tryCompare
    have hl : ([Value.ref a] ++ [v]).length = ps.length := by
      have := F0.len _ _ _ _ q
      exact this
    refine wpAny_bind (PySem.W.ifBound_K I.kIn J hs hf (wpAny_call (codeAny_mono (F0.run X.A X.stack s H ⟨[.ref a, v], []⟩ [.ref a, v] [.ref a, x] _ _ hr hG I.env0
      (by have := hb s [.ref a, v] I.kIn (by simpa using hl); simpa using this) (.cons rfl (.cons rx .nil)) q) fun rr s' hq => ?_)))
    match rr, hq with
    | .error er, hq => exact False.elim hq
    | .ok (.ret z), hq =>
      obtain ⟨y, H', I2, ry, ⟨b, ey, qq⟩⟩ := I.after hq
      subst ey
      cases ry
      exact wpAny_pure ⟨b, rfl, .bl b, H', I2, rfl, qq⟩
    | .ok .next, hq => exact False.elim hq
    | .ok .brk, hq => exact False.elim hq
    | .ok .cont, hq => exact False.elim hq
  show wpAny _ _ (richCompare .Eq v (.ref a)) _ _ _
  simp only [richCompare, cmpInfo_Eq, tv.oneThing_none]
  refine wpAny_holding (wpAny_bind (wpAny_cRoomFor hr.units0 ?_))
  refine wpAny_bind (lv.here (wpAny_bind (J.type.here ?_)))
  split
  · refine wpAny_bind ((PySem.W.looks_subIn I.kIn (D.sub d)).here ?_)
    simp only [Bool.false_eq_true, if_false, Bool.not_false, if_true]
    refine wpAny_bind (m := tryCompare v _ (.ref a)) (wpAny_tryCompare_declines tv sl (dec ⟨rfl, ?_⟩))
    refine wpAny_bind (m := tryCompare (.ref a) _ v) (thn two fun r s' z => ?_)
    obtain ⟨b, rfl, z⟩ := z
    exact wpAny_pure z
  · rename_i z
    exact absurd (by simp) z

/-- x == y, x an instance with its own ==, y of a built-in kind or of the same class -/
def rOwnL (K : PySem.W.Frag) (C : Addr) (sp : Sp) : R2 := fun x y H Q => ∃ a dx fs, x = .ref a ∧ H a = some (.ins C dx fs) ∧
  ((∃ d, Dx K H y d ∧ PySem.W.subIn K (.type (tyD d)) (.ref C) = some false) ∨ ∃ b dy gs, y = .ref b ∧ H b = some (.ins C dy gs)) ∧
  sp [x, y] H (fun z H' => ∃ b, z = .bl b ∧ Q z H') E0
theorem op_ownL (D : OwnE X.prog X.w X.K X.mg X.base n C sp) (hr : Room n X.A) (hG : Gd X.A) : OpR X (compareOp .Eq) (rOwnL X.K C sp) := by
  intro pins s σ H x y v u Q I rx ry h
  obtain ⟨a, dx, fs, rfl, ha, hy, q⟩ := h
  cases rx
  obtain ⟨f, fd, ps, hs, hf, hb, F0⟩ := D.fn
  obtain ⟨mA, O, _⟩ := ins_get I.hok ha
  obtain ⟨od, J, _⟩ := O.look
  obtain ⟨m, hF⟩ := I.fr
  have ty : ∃ tb, PySem.W.Looks (model X.prog X.w) s.heap (typeOf u) tb ∧ PySem.W.notFirst X.K C tb = true := by
    rcases hy with ⟨d, hd, e⟩ | ⟨b, dy, gs, rfl, hb'⟩
    · exact ⟨_, looks_ty (Dx.typ I hd ry), by unfold PySem.W.notFirst; rw [e]; simp⟩
    · cases ry
      obtain ⟨mB, O', _⟩ := ins_get I.hok hb'
      obtain ⟨od', J', _⟩ := O'.look
      exact ⟨_, J'.type, by simp [PySem.W.notFirst]⟩
  obtain ⟨tb, t1, t2⟩ := ty
  have hl : ([Value.ref a] ++ [u]).length = ps.length := F0.len _ _ _ _ q
  refine PySem.W.cmp_K (op := .Eq) (tb := tb) hr.units0 hF I.ok.mod.kin J t1 t2 hs hf ?_
  refine wpAny_call (codeAny_mono (F0.run X.A X.stack s H ⟨[.ref a, u], []⟩ [.ref a, u] [.ref a, y] _ _ hr hG I.env0
      (by have := hb s [.ref a, u] I.kIn (by simpa using hl); simpa using this) (.cons rfl (.cons ry .nil)) q) fun rr s' hq => ?_)
  match rr, hq with
  | .error er, hq => exact False.elim hq
  | .ok (.ret z), hq =>
    obtain ⟨y, H', I2, ry, ⟨b, ey, qq⟩⟩ := I.after hq
    subst ey
    cases ry
    exact ⟨.bl b, H', I2, rfl, qq⟩
  | .ok .next, hq => exact False.elim hq
  | .ok .brk, hq => exact False.elim hq
  | .ok .cont, hq => exact False.elim hq
end
end Rm

set_option maxRecDepth 100000
set_option maxHeartbeats 4000000
namespace Rm
open PySem PySem.Spec L2
open PyProof.Rows hiding St

theorem Dx.tyx {K : PySem.W.Frag} {H : Hp} {v : V} {d : PyData} (h : Dx K H v d) : TyX K H v (.type (tyD d)) := by
  cases h with
  | non => exact .base .non
  | bl b => exact .base (.bl b)
  | int i => exact .base (.int i)
  | str x => exact .base (.str x)
  | lst h _ =>
    rcases h with (h | ⟨o, h⟩) | ⟨o, its, n, h, c, _⟩
    · exact .base (.lst h)
    · exact .base (.frz h)
    · exact .kList h c
  | tup h _ =>
    rcases h with (h | ⟨o, h⟩) | ⟨o, its, n, h, c, _⟩
    · exact .base (.tup h)
    · exact .fTuple h
    · exact .kTuple h c
  | dic h _ =>
    rcases h with h | ⟨o, h⟩
    · exact .base (.dK h)
    · exact .fDict h
def isS : PyData → Bool
  | .str _ => true
  | _ => false
theorem kit_str {K : PySem.W.Frag} : ∀ d : PyData, PySem.W.kitOne K (.type (tyD d)) (.type "str") = some (isS d)
  | .none => kit_ty (a := "NoneType") (r := false) (by decide +kernel) | .bool _ => kit_ty (a := "bool") (r := false) (by decide +kernel)
  | .int _ => kit_ty (a := "int") (r := false) (by decide +kernel) | .str _ => kit_ty (a := "str") (r := true) (by decide +kernel)
  | .list _ => kit_ty (a := "list") (r := false) (by decide +kernel) | .tuple _ => kit_ty (a := "tuple") (r := false) (by decide +kernel)
  | .dict _ => kit_ty (a := "dict") (r := false) (by decide +kernel)
/-- isinstance(x, str) for data -/
theorem isi_str {K : PySem.W.Frag} {H : Hp} {v : V} {d : PyData} {Q : VK} (h : Dx K H v d) (q : Q (.bl (isS d)) H) :
    rIsi K [v, .ty "str"] H Q := ⟨v, .ty "str", _, _, _, rfl, .ty _, h.tyx, kit_str d, q⟩

/-! ### the four words -/
def rkS (z : Str) : Option Int :=
  if z = "hold" then some 1 else if z = "keep" then some 2 else if z = "change" then some 3 else if z = "replace" then some 4 else none
def rkD : PyData → Option Int
  | .str z => rkS z
  | _ => none
structure Rk (w : World) (K : PySem.W.Frag) (mg : Str → Option Value) (R : Addr) : Prop where
  g : mg "RANKS" = some (.ref R)
  kd : ∃ es n, KDict K w R es n
  yes : ∀ z i, rkS z = some i → ∃ t, PySem.W.nsIn K R z = some (some (.int i t))
  no : ∀ z, rkS z = none → PySem.W.nsIn K R z = some none
theorem rk_of {w : World} {K : PySem.W.Frag} {mg : Str → Option Value} {R : Addr} {t1 t2 t3 t4 u1 u2 u3 u4 : Tok} {n : Nat}
    (g : mg "RANKS" = some (.ref R)) (low : (R == sysModules) = false)
    (h : K.lookup R = some ⟨.type "dict", none, .dict #[⟨PyData.keyHash w.params "hold", .str "hold" t1, .int 1 u1⟩,
      ⟨PyData.keyHash w.params "keep", .str "keep" t2, .int 2 u2⟩, ⟨PyData.keyHash w.params "change", .str "change" t3, .int 3 u3⟩,
      ⟨PyData.keyHash w.params "replace", .str "replace" t4, .int 4 u4⟩] n, #[]⟩) : Rk w K mg R := by
  refine ⟨g, ⟨_, _, h, ⟨⟨_, _, rfl, rfl⟩, ⟨_, _, rfl, rfl⟩, ⟨_, _, rfl, rfl⟩, ⟨_, _, rfl, rfl⟩, True.intro⟩, low⟩, fun z i e => ?_, fun z e => ?_⟩
  · unfold rkS at e
    unfold PySem.W.nsIn
    rw [h]
    simp only [List.find?_cons, Value.isStr, List.find?_nil]
    split at e
    · rename_i q; subst q; cases e; exact ⟨u1, by simp⟩
    split at e
    · rename_i q0 q; subst q; cases e; exact ⟨u2, by simp [show (("hold" : Str) == "keep") = false by decide +kernel]⟩
    split at e
    · rename_i q0 q1 q; subst q; cases e; exact ⟨u3, by simp [show (("hold" : Str) == "change") = false by decide +kernel, show (("keep" : Str) == "change") = false by decide +kernel]⟩
    split at e
    · rename_i q0 q1 q2 q; subst q; cases e; exact ⟨u4, by simp [show (("hold" : Str) == "replace") = false by decide +kernel, show (("keep" : Str) == "replace") = false by decide +kernel, show (("change" : Str) == "replace") = false by decide +kernel]⟩
    · cases e
  · unfold rkS at e
    unfold PySem.W.nsIn
    rw [h]
    simp only [List.find?_cons, Value.isStr, List.find?_nil]
    split at e
    · cases e
    split at e
    · cases e
    split at e
    · cases e
    split at e
    · cases e
    rename_i q0 q1 q2 q3
    have f : ∀ {a b : Str}, ¬ a = b → (a == b) = false := fun h => by simpa using h
    simp [f q0, f q1, f q2, f q3, f (fun e => q0 e.symm), f (fun e => q1 e.symm), f (fun e => q2 e.symm), f (fun e => q3 e.symm), DictEntry.refKey]

/-! ### a class of the program -/
def allTy (l : List Value) : Bool := l.all fun v => match v with
  | .type _ => true
  | _ => false
theorem allTy_no {C : Addr} : ∀ {l : List Value}, allTy l = true → l.contains (.ref C) = false
  | [], _ => rfl
  | v :: r, h => by
    unfold allTy at h
    rw [List.all_cons, Bool.and_eq_true] at h
    rw [List.contains_cons, allTy_no (l := r) h.2]
    cases v with
    | type _ => rfl
    | _ => exact absurd h.1 (by simp)
theorem sub_own {K : PySem.W.Frag} {C : Addr} {T : String} (h : (fastBuiltinMro T).map allTy = some true) : PySem.W.subIn K (.type T) (.ref C) = some false := by
  unfold PySem.W.subIn
  dsimp only
  obtain ⟨l, e, q⟩ := Option.map_eq_some_iff.mp h
  rw [e]
  exact congrArg some (allTy_no q)
theorem sub_ownD {K : PySem.W.Frag} {C : Addr} : ∀ d : PyData, PySem.W.subIn K (.type (tyD d)) (.ref C) = some false
  | .none => sub_own (T := "NoneType") (by decide +kernel) | .bool _ => sub_own (T := "bool") (by decide +kernel)
  | .int _ => sub_own (T := "int") (by decide +kernel) | .str _ => sub_own (T := "str") (by decide +kernel)
  | .list _ => sub_own (T := "list") (by decide +kernel) | .tuple _ => sub_own (T := "tuple") (by decide +kernel)
  | .dict _ => sub_own (T := "dict") (by decide +kernel)
structure OwnC (K : PySem.W.Frag) (C : Addr) : Prop where
  cls : Cls K C
  ty : PySem.W.typeIn K (.ref C) = some (.type "type")
  ha : PySem.W.findIn K (.ref C) "__class__" = some (some (.builtin "object.__class__"))
  hn : PySem.W.specialIn K (.builtin "object.__class__") "__get__" = some (some (.builtin "getset_descriptor.__get__"))
  htk : PySem.W.takesIn K (.builtin "object.__class__") = some true
  hm : PySem.W.mroIn K C (.type "object") = some true
section
variable {K : PySem.W.Frag} {H : Hp} {C a b dx dy : Addr} {fs gs : List (Str × V)} {x v : V} {d : PyData} {Q : VK}
theorem OwnC.isi_not (c : OwnC K C) (h : Dx K H v d) (q : Q (.bl false) H) : rIsi K [v, .ref C] H Q := by
  refine ⟨v, .ref C, _, _, false, rfl, .own C, h.tyx, ?_, q⟩
  unfold PySem.W.kitOne
  rw [if_neg (by simp)]
  unfold PySem.W.kitCls
  have e : (PySem.W.clsIn K C).isSome = true := by
    obtain ⟨cd, z, _⟩ := PySem.W.any_some c.cls.hd
    rw [z]; rfl
  dsimp only
  rw [if_pos (by rw [e, c.ty]; simp)]
  exact sub_ownD d
theorem OwnC.isi_so (c : OwnC K C) (h : H b = some (.ins C dy gs)) (q : Q (.bl true) H) : rIsi K [.ref b, .ref C] H Q := by
  refine ⟨.ref b, .ref C, _, _, true, rfl, .own C, .base (.ins h c.cls c.ha c.hn c.htk c.hm), ?_, q⟩
  unfold PySem.W.kitOne
  rw [if_pos (by simp)]
end

/-! ### what the modes' defs keep -/
def mdO (C dx : Addr) (z : Str) : HO := .ins C dx [("_word", .str z)]
def spIs (K : PySem.W.Frag) : Sp := fun vs H Q _ => ∃ x d, vs = [x] ∧ Dx K H x d ∧ Q (.bl (rkD d).isSome) H
def spRank : Sp := fun vs H Q _ => ∃ z i, vs = [.str z] ∧ rkS z = some i ∧ Q (.int i) H
/-- a mode is made of any value -/
def spModeX (K : PySem.W.Frag) (C BM : Addr) : Sp := fun vs H Q E => ∃ a dx x d, vs = [.ref a, x] ∧ H a = some (.ins C dx []) ∧ Dx K H x d ∧
  (rkD d = none → ∀ e, H e = none → E (.ref BM) (some e) (upd H e (.xd [("value", x)]))) ∧
  (∀ z i, d = .str z → rkS z = some i → Q .non (upd H a (mdO C dx z)))
/-- a mode is made of one of the words -/
def spModeQ (K : PySem.W.Frag) (C : Addr) : Sp := fun vs H Q _ => ∃ a dx z i, vs = [.ref a, .str z] ∧ H a = some (.ins C dx []) ∧ rkS z = some i ∧
  Q .non (upd H a (mdO C dx z))
def spWord (C : Addr) : Sp := fun vs H Q _ => ∃ a dx z, vs = [.ref a] ∧ H a = some (mdO C dx z) ∧ Q (.str z) H
def spRk (C : Addr) : Sp := fun vs H Q _ => ∃ a dx z i, vs = [.ref a] ∧ H a = some (mdO C dx z) ∧ rkS z = some i ∧ Q (.int i) H
def spEqM (K : PySem.W.Frag) (C : Addr) : Sp := fun vs H Q _ => ∃ a dx z y, vs = [.ref a, y] ∧ H a = some (mdO C dx z) ∧
  ((∃ d, Dx K H y d ∧ Q (.bl false) H) ∨ ∃ b dy z', y = .ref b ∧ H b = some (mdO C dy z') ∧ Q (.bl (decide (z = z'))) H)

/-! ### values that are small -/
structure Sv (d : PyData) : Prop where
  sh : d.showable = true
  lv : d.leavesShort 100 = true
  wt : d.weight ≤ 1000
  dp : d.depth ≤ 10
theorem Sv.sm {d : PyData} (h : Sv d) : Sm d := ⟨h.sh, h.lv, by have := h.wt; omega, by have := h.dp; omega⟩
def svB (d : PyData) : Bool := d.showable && (d.leavesShort 100 && (decide (d.weight ≤ 1000) && decide (d.depth ≤ 10)))
theorem Sv.of {d : PyData} (h : svB d = true) : Sv d := by
  unfold svB at h
  simp only [Bool.and_eq_true, decide_eq_true_eq] at h
  exact ⟨h.1, h.2.1, h.2.2.1, h.2.2.2⟩
theorem Sv.all {ds : List PyData} (h : ds.all svB = true) {i : Nat} {d : PyData} (e : ds[i]? = some d) : Sv d :=
  Sv.of (List.all_eq_true.mp h d (List.mem_of_getElem? e))
/-! ### drawn values -/
/-- all but the tape at t is as it was -/
structure Nxt (t : Addr) (H H' : Hp) : Prop where
  keep : ∀ b u, H b = some u → b ≠ t → H' b = some u
  tape : ∃ o, H' t = some o ∧ IsTape o
def spAny (K : PySem.W.Frag) : Sp := fun vs H Q _ => ∃ t o, vs = [.ref t] ∧ H t = some o ∧ IsTape o ∧
  ∀ v d H', Dx K (del H' t) v d → Sv d → Nxt t H H' → Q v H'
theorem del_upd {H : Hp} {t : Addr} {o : HO} : del (upd H t o) t = del H t := by
  funext b
  by_cases h : b = t
  · rw [h, del_same, del_same]
  · rw [del_ne h, del_ne h, upd_ne h]
/-- a new thing beside the tape -/
structure New (t p : Addr) (o ot : HO) (H : Hp) : Prop where
  th : upd H p o t = some ot
  s : Same H (upd H p o)
  d : Same (del H t) (del (upd H p o) t)
  a : del (upd H p o) t p = some o
theorem new_at {t p : Addr} {H : Hp} (o : HO) {ot : HO} (hp : H p = none) (ht : H t = some ot) : New t p o ot H := by
  have ne : p ≠ t := fun e => by rw [e, ht] at hp; cases hp
  have nb : ∀ {b : Addr} {u : HO}, H b = some u → b ≠ p := fun h e => by rw [e, hp] at h; cases h
  refine ⟨by rw [upd_ne (Ne.symm ne)]; exact ht, fun b u h => by rw [upd_ne (nb h)]; exact h, fun b u h => ?_, by rw [del_ne ne, upd_same]⟩
  by_cases e : b = t
  · rw [e, del_same] at h; cases h
  · rw [del_ne e] at h ⊢
    rw [upd_ne (nb h)]
    exact h
theorem Sm.of {d : PyData} (h : (d.showable && (d.leavesShort 100 && (decide (d.weight ≤ 100000) && decide (d.depth ≤ 50)))) = true) : Sm d := by
  simp only [Bool.and_eq_true, decide_eq_true_eq] at h
  exact ⟨h.1, h.2.1, h.2.2.1, h.2.2.2⟩
/-- what _law_made tells of a value -/
def madeD (d : PyData) : PyData := match rkD d with
  | some i => .list [.str "made", d, .int i]
  | none => .list [.str "bad", d]
def spMade (K : PySem.W.Frag) : Sp := fun vs H Q _ => ∃ x d, vs = [x] ∧ Dx K H x d ∧
  ∀ v H', Same H H' → Dx K H' v (madeD d) → Q v H'
theorem same_new {H : Hp} {p : Addr} {o : HO} (n : H p = none) : Same H (upd H p o) := fun b u h => by
  rw [upd_ne (fun e => by rw [e, n] at h; cases h)]
  exact h
end Rm

set_option maxRecDepth 100000
set_option maxHeartbeats 4000000
namespace Rm
open PySem PySem.Spec L2
open PyProof.Rows hiding St
open SeqAt MeetsSeq

/-! ### != of two instances of a class with its own == -/
section
variable {M : Model} {A : Around} {E : Value → Shared → Prop} {s : Shared} {K : PySem.W.Frag} {x C : Addr} {ox : Obj} {od : Option Obj}
theorem bound_ne {args : List Value} {Q : Option Value → Shared → Prop} (X : K.In s.heap) (I : PySem.W.InstAt s.heap x ox C od)
    (hs : PySem.W.findIn K (.ref C) "__ne__" = some (some (.builtin "object.__ne__")))
    (h : wpAny M A (call (.builtin "object.__ne__") (.ref x :: args)) (fun v => Q (some v)) E s) : wpAny M A (callSpecialIfBound? (.ref x) "__ne__" args) Q E s := by
  simp only [callSpecialIfBound?, bindSpecialIfBound?]
  refine wpAny_holding (wpAny_bind (wpAny_bind (wpAny_bind (I.type.here ((PySem.W.looks_findIn X hs).here ?_)))))
  refine wpAny_bind (wpAny_askSetting (wpAny_ite ?_))
  have fin : wpAny M A (call (.builtin "object.__ne__") ([.ref x] ++ args) >>= fun v => pure (some v)) Q E s :=
    wpAny_bind (wpAny_mono h (fun v s' h' => wpAny_pure h') fun _ _ h' => h')
  split
  · exact wpAny_bind (wpAny_of_eq (F.cmp_object.ne.bind _) (wpAny_pure (by exact fin)))
  · exact wpAny_tryCatch (wpAny_bind (wpAny_of_eq (F.cmp_object.ne.bind _) (wpAny_pure (by exact fin))))
theorem entry_ne {y : Value} {Q : Fin → Shared → Prop} (hu : A.units < cLine)
    (h : wpAny M A (callSpecialIfBound? (.ref x) "__eq__" [y]) (fun r s' => ∃ b, r = some (.bool b) ∧ Q (.done (.ret (.bool (!b)))) s') E s) :
    wpAny M A (Builtin.«object.__ne__» ⟨[.ref x, y], []⟩) Q E s := by
  unfold Builtin.«object.__ne__»
  repeat (first
    | with_reducible refine wpAny_cRoomFor hu ?_
    | (refine wpAny_bind (m := callSpecialIfBound? (.ref x) (Str.ofString "__eq__") [y]) (wpAny_mono h (fun r s' hr => by
          obtain ⟨b, rfl, hq⟩ := hr
          repeat (first | exact hq | exact wpAny_pure hq | exact wpAny_truthy_bool hq | (refine wpAny_bind (m := truthy (.bool _)) (wpAny_truthy_bool ?_)) | wp_step)) fun _ _ e => e))
    | wp_step)
end
def rOwnNe (C : Addr) (sp : Sp) : R2 := fun x y H Q => ∃ a dx fs b dy gs, x = .ref a ∧ H a = some (.ins C dx fs) ∧ y = .ref b ∧ H b = some (.ins C dy gs) ∧
  sp [x, y] H (fun z H' => ∃ c, z = .bl c ∧ Q (.bl (!c)) H') E0
section
variable {X : Cx} {C : Addr} {n : Nat} {sp : Sp}
theorem op_ownNe (D : OwnE X.prog X.w X.K X.mg X.base n C sp) (hm : PySem.W.mroIn X.K C (.type "object") = some true)
    (hne : PySem.W.findIn X.K (.ref C) "__ne__" = some (some (.builtin "object.__ne__"))) (hr : Room (n + 1) X.A) (hG : Gd X.A)
    (h1 : X.A.units + 1 < cLine) : OpR X (compareOp .NotEq) (rOwnNe C sp) := by
  intro pins s σ H x y v u Q I rx ry h
  obtain ⟨a, dx, fs, b, dy, gs, rfl, ha, rfl, hb', q⟩ := h
  cases rx
  cases ry
  obtain ⟨f, fd, ps, hs, hf, hb, F0⟩ := D.fn
  obtain ⟨mA, O, _⟩ := ins_get I.hok ha
  obtain ⟨od, J, _⟩ := O.look
  obtain ⟨mB, O', _⟩ := ins_get I.hok hb'
  obtain ⟨od', J', _⟩ := O'.look
  have hl : ([Value.ref a] ++ [Value.ref b]).length = ps.length := F0.len _ _ _ _ q
  have two : wpAny (model X.prog X.w) X.A (tryCompare (.ref a) "__ne__" (.ref b)) (fun r s' => ∃ c, r = some (.bool c) ∧ EP X pins σ Q (.bool c) s') X.xe s := by
    unfold tryCompare
    refine wpAny_bind (bound_ne I.kIn J hne (wpAny_call (codeAny_call_builtin F.cmp_object.ne.plain F.cmpEntry_ne
      (PySem.W.check_slot F.cmpKind_ne F.cmpSplit_ne (J.type.andThen (PySem.W.looks_mroIn I.kIn hm)) (F.cmpArgs_ne _ _) ?_))))
    refine entry_ne (A := X.A.in1) h1 (PySem.W.ifBound_K I.kIn J hs hf (wpAny_call (codeAny_mono (F0.run X.A.in1 X.stack s H ⟨[.ref a, .ref b], []⟩ [.ref a, .ref b] [.ref a, .ref b] _ _ hr.in1 hG.in1 I.env0.in1
      (by have := hb s [.ref a, .ref b] I.kIn (by simpa using hl); simpa using this) (.cons rfl (.cons rfl .nil)) q) fun rr s' hq => ?_)))
    match rr, hq with
    | .error er, hq => exact False.elim hq
    | .ok (.ret z), hq =>
      obtain ⟨y, H', I2, ry, ⟨c, ey, qq⟩⟩ := I.after hq
      subst ey
      cases ry
      have fin : ∃ c', some (Value.bool !c) = some (.bool c') ∧ EP X pins σ Q (.bool c') s' := ⟨_, rfl, .bl (!c), H', I2, rfl, qq⟩
      first | exact ⟨c, rfl, wpAny_pure fin⟩ | exact ⟨c, rfl, _, rfl, wpAny_pure fin⟩ | exact ⟨c, rfl, rfl, wpAny_pure fin⟩ | exact ⟨c, rfl, wpAny_pure (wpAny_pure fin)⟩
    | .ok .next, hq => exact False.elim hq
    | .ok .brk, hq => exact False.elim hq
    | .ok .cont, hq => exact False.elim hq
  show wpAny _ _ (richCompare .NotEq (.ref a) (.ref b)) _ _ _
  simp only [richCompare, cmpInfo_NotEq, oneThing_ref]
  refine wpAny_holding (wpAny_bind (wpAny_cRoomFor hr.units0 ?_))
  refine wpAny_bind (J.type.here (wpAny_bind (J'.type.here ?_)))
  rw [show (Value.ref C != Value.ref C) = false from by simp]
  simp only [Bool.false_eq_true, if_false]
  refine wpAny_bind (wpAny_pure ?_)
  simp only [Bool.false_eq_true, if_false]
  refine wpAny_bind (thn two fun r s' z => ?_)
  obtain ⟨c, rfl, z⟩ := z
  exact wpAny_pure z
end

/-- the law's own promise: a script of at most 63 numbers -/
def spLaw (K : PySem.W.Frag) : Sp := fun vs H Q _ => ∃ (a : Addr) (ns : List Int), vs = [.ref a] ∧ SqL K H a (ns.map V.int) ∧ ns.length ≤ 63 ∧
  (∀ n ∈ ns, Builtin.Int.intBits n ≤ 1048576) ∧ ∀ H', Q (.bl true) H'
end Rm

set_option maxRecDepth 100000
set_option maxHeartbeats 4000000
namespace Rm
open PySem PySem.Spec L2
open PyProof.Rows hiding St

/-! ### blocks with a middle -/
theorem seq_mid {A B : TS} {D : Ends} {σ : L2.St} {H : Hp} (Mid : L2.St → Hp → Prop) (h2 : ∀ σ' H', Mid σ' H' → B D σ' H')
    (h1 : ∀ N : L2.St → Hp → Prop, (∀ σ' H', Mid σ' H' → N σ' H') → A { D with nx := N } σ H) : tSeq A B D σ H := h1 (B D) h2
theorem asg_mid {A B : TS} {D : Ends} {σ : L2.St} {H : Hp} {i : Nat} {v : V} (Mid : L2.St → Hp → Prop) (h2 : ∀ σ' H', Mid σ' H' → B D σ' H')
    (h1 : ∀ N : L2.St → Hp → Prop, (∀ σ' H', Mid σ' H' → N σ' H') → A { D with nx := N } (σ.set i (some v)) H) : gName i v σ H (tSeq A B D) := h1 (B D) h2
/-- a walk through the keys of a locked dict -/
theorem for_keys {d : Addr} {o : Obj} {kvs : List (Key × V)} {g : TG} {tb : TS} {D : Ends} {σ : L2.St} {H : Hp} (Pv : Nat → L2.St → Hp → Prop)
    (h0 : Pv 0 σ H) (hl : ∀ i σ H, i ≤ kvs.length → Pv i σ H → H d = some (.frz o (.dK kvs)))
    (hs : ∀ i k v σ H, kvs[i]? = some (k, v) → Pv i σ H → g (kV k) σ H fun σ2 H2 => tb { D with nx := Pv (i + 1), ct := Pv (i + 1), bk := D.nx } σ2 H2)
    (hd : ∀ σ H, Pv kvs.length σ H → D.nx σ H) :
    ∃ W : Nat → Nat → L2.St → Hp → Prop, (∃ m, W 0 m σ H) ∧ ∀ i m σ H, W i m σ H →
      ((Itk d o kvs).stop i H ∧ D.nx σ H) ∨ ((Itk d o kvs).go i H ∧ ∃ N : L2.St → Hp → Prop, (∀ σ' H', N σ' H' → ∃ m', m' < m ∧ W (i + 1) m' σ' H') ∧
        ∀ x H', (Itk d o kvs).yld i H x H' → g x σ H' fun σ2 H2 => tb { D with nx := N, ct := N, bk := D.nx } σ2 H2) := by
  refine ⟨fun i m σ H => m = kvs.length - i ∧ i ≤ kvs.length ∧ Pv i σ H, ⟨kvs.length, by simp, Nat.zero_le _, h0⟩, ?_⟩
  rintro i m σ H ⟨rfl, hi, p⟩
  have q := hl i σ H hi p
  by_cases hlt : i < kvs.length
  · refine .inr ⟨⟨q, hlt⟩, Pv (i + 1), fun σ' H' p' => ⟨kvs.length - (i + 1), by omega, rfl, hlt, p'⟩, fun x H' y => ?_⟩
    obtain ⟨rfl, k, v, e, rfl⟩ := y
    exact hs i k v σ _ e p
  · have e : i = kvs.length := by omega
    subst e
    exact .inl ⟨⟨q, Nat.le_refl _⟩, hd σ H p⟩

/-! ### heaps beside the tape -/
theorem same_del {H : Hp} {t : Addr} : Same (del H t) H := fun b u h => by
  by_cases e : b = t
  · rw [e, del_same] at h; cases h
  · rw [del_ne e] at h; exact h
theorem same_dels {H H' : Hp} {t : Addr} (s : Same H H') : Same (del H t) (del H' t) := fun b u h => by
  by_cases e : b = t
  · rw [e, del_same] at h; cases h
  · rw [del_ne e] at h ⊢
    exact s b u h
theorem Nxt.same {t : Addr} {H0 H H' : Hp} (n : Nxt t H H') (f : H0 t = none) (s : Same H0 H) : Same H0 H' := fun b u h =>
  n.keep b u (s b u h) fun e => by rw [e, f] at h; cases h
theorem same_tape {t : Addr} {H0 H : Hp} {o : HO} (f : H0 t = none) (s : Same H0 H) : Same H0 (upd H t o) := fun b u h => by
  rw [upd_ne (fun e => by rw [e, f] at h; cases h)]
  exact s b u h
theorem same_two {H : Hp} {x dx : Addr} {o o' : HO} (nd : H dx = none) (nx : H x = none) (ne : dx ≠ x) : Same H (upd (upd H dx o) x o') :=
  (same_new nd).trans (same_new (by rw [upd_ne (Ne.symm ne)]; exact nx))

/-! ### the ranks as the law has them -/
def rkKV : List (Key × V) := [(.inr "hold", .int 1), (.inr "keep", .int 2), (.inr "change", .int 3), (.inr "replace", .int 4)]
theorem mergeK_rk : mergeK [] [((.inr "hold" : Key), V.int 1), (.inr "keep", .int 2), (.inr "change", .int 3), (.inr "replace", .int 4)] = rkKV := by
  simp [mergeK, putK, rkKV, show ¬ (("hold" : Str) = "keep") by decide +kernel, show ¬ (("hold" : Str) = "change") by decide +kernel, show ¬ (("keep" : Str) = "change") by decide +kernel,
    show ¬ (("hold" : Str) = "replace") by decide +kernel, show ¬ (("keep" : Str) = "replace") by decide +kernel, show ¬ (("change" : Str) = "replace") by decide +kernel]
theorem valV_rk (z : Str) : valV rkKV (.inr z) = (rkS z).map V.int := by
  unfold rkKV rkS
  have f : ∀ {a : Str}, ¬ z = a → ¬ ((Sum.inr a : Key) = Sum.inr z) := fun h e => h (Sum.inr.inj e).symm
  by_cases h1 : z = "hold"
  · subst h1; rw [valV_pos rfl, if_pos rfl]; rfl
  rw [valV_neg (f h1), if_neg h1]
  by_cases h2 : z = "keep"
  · subst h2; rw [valV_pos rfl, if_pos rfl]; rfl
  rw [valV_neg (f h2), if_neg h2]
  by_cases h3 : z = "change"
  · subst h3; rw [valV_pos rfl, if_pos rfl]; rfl
  rw [valV_neg (f h3), if_neg h3]
  by_cases h4 : z = "replace"
  · subst h4; rw [valV_pos rfl, if_pos rfl]; rfl
  rw [valV_neg (f h4), if_neg h4, valV_nil]
  rfl
theorem rk_key {i : Nat} {k : Key} {v : V} (h : rkKV[i]? = some (k, v)) : ∃ z n, k = .inr z ∧ rkS z = some n := by
  match i, h with
  | 0, h => cases h; exact ⟨_, 1, rfl, rfl⟩
  | 1, h => cases h; exact ⟨_, 2, rfl, rfl⟩
  | 2, h => cases h; exact ⟨_, 3, rfl, rfl⟩
  | 3, h => cases h; exact ⟨_, 4, rfl, rfl⟩
  | n + 4, h => cases h
theorem tape_rk {o : HO} (h : IsTape o) : o ≠ .dK rkKV := by
  obtain ⟨dg, mx, rfl, _⟩ := h
  intro e
  have e1 := congrArg (fun u : HO => match u with | .dK l => l.length | _ => 0) e
  simp [tapeO, rkKV] at e1

/-! ### values that are small -/
theorem rk_word {d : PyData} {i : Int} (h : rkD d = some i) : (d, i) = (.str "hold", 1) ∨ (d, i) = (.str "keep", 2) ∨ (d, i) = (.str "change", 3) ∨ (d, i) = (.str "replace", 4) := by
  cases d with
  | str z =>
    have h : rkS z = some i := h
    unfold rkS at h
    split at h
    · rename_i e; subst e; cases h; exact .inl rfl
    split at h
    · rename_i e; subst e; cases h; exact .inr (.inl rfl)
    split at h
    · rename_i e; subst e; cases h; exact .inr (.inr (.inl rfl))
    split at h
    · rename_i e; subst e; cases h; exact .inr (.inr (.inr rfl))
    · cases h
  | _ => cases h
theorem Sv.made {d : PyData} (h : Sv d) : Sm (madeD d) := by
  unfold madeD
  cases e : rkD d with
  | some i =>
    rcases rk_word e with q | q | q | q <;> (cases q; exact Sm.of (by decide +kernel))
  | none =>
    obtain ⟨h1, h2, h3, h4⟩ := h
    have w3 : (PyData.str "bad").weight = 3 := by decide +kernel
    have d3 : (PyData.str "bad").depth = 0 := by decide +kernel
    have l3 : (PyData.str "bad").leavesShort 100 = true := by decide +kernel
    have s3 : (PyData.str "bad").showable = true := by decide +kernel
    refine ⟨by simp [PyData.showable, PyData.showableAll, h1], by simp [PyData.leavesShort, PyData.leavesShortAll, h2] at l3 ⊢; exact l3, ?_, ?_⟩
    · simp only [PyData.weight, PyData.weightAll] at w3 ⊢
      omega
    · simp only [PyData.depth, PyData.depthAll]
      omega

/-! ### texts cut and put together -/
def smC (z : Str) : Bool := z.cps.toList.all fun c => decide (c < 16 ^ 8)
theorem smC_cut {z : Str} {lo hi : Option Int} (h : smC z = true) : smC (cutS z lo hi) = true := by
  unfold smC at h ⊢
  rw [List.all_eq_true] at h ⊢
  intro c hc
  unfold cutS at hc
  simp only at hc
  exact h c (List.mem_of_mem_drop (List.mem_of_mem_take hc))
theorem smC_app {x y : Str} (h : smC x = true) (h' : smC y = true) : smC (x ++ y) = true := by
  unfold smC at h h' ⊢
  have e : (x ++ y).cps.toList = x.cps.toList ++ y.cps.toList := by
    show (x.cps ++ y.cps).toList = _
    simp
  rw [e, List.all_append, h, h']
  rfl
theorem len_app (x y : Str) : (x ++ y).length = x.length + y.length := by
  show (x.cps ++ y.cps).size = _
  simp [Str.length]
theorem Sv.str {z : Str} (h : smC z = true) (hl : z.length ≤ 1000) : Sv (.str z) :=
  ⟨by simp [PyData.showable], by simp only [PyData.leavesShort]; exact h, by simp only [PyData.weight]; exact hl, by simp [PyData.depth]⟩
theorem rk_str {i : Nat} {v : V} (h : (rkKV.map fun kv => kV kv.1)[i]? = some v) : ∃ z n, v = .str z ∧ rkS z = some n := by
  rw [List.getElem?_map] at h
  cases e : rkKV[i]? with
  | none => rw [e] at h; cases h
  | some p =>
    obtain ⟨k, x⟩ := p
    rw [e] at h
    obtain ⟨z, n, rfl, hz⟩ := rk_key e
    cases h
    exact ⟨z, n, rfl, hz⟩
theorem rk_len {z : Str} {n : Int} (h : rkS z = some n) : z.length ≤ 7 ∧ smC z = true := by
  rcases rk_word (d := .str z) h with q | q | q | q <;> (cases q; exact ⟨by decide +kernel, by decide +kernel⟩)
theorem sign_str {i : Nat} {v : V} (h : [V.str "", V.str " ", V.str "e", V.str "H"][i]? = some v) : ∃ z, v = .str z ∧ z.length ≤ 1 ∧ smC z = true := by
  match i, h with
  | 0, h => cases h; exact ⟨_, rfl, by decide +kernel, by decide +kernel⟩
  | 1, h => cases h; exact ⟨_, rfl, by decide +kernel, by decide +kernel⟩
  | 2, h => cases h; exact ⟨_, rfl, by decide +kernel, by decide +kernel⟩
  | 3, h => cases h; exact ⟨_, rfl, by decide +kernel, by decide +kernel⟩
  | n + 4, h => cases h

/-! ### two modes made and compared -/
section
variable {K : PySem.W.Frag} {CM : Addr} {σ : L2.St} {H : Hp} {z z' : Str} {n n' : Int} {i j : Nat} {Q : Bool → Hp → Prop}
theorem pair_eq (hi : σ[i]? = some (some (.str z))) (hj : σ[j]? = some (some (.str z'))) (hz : rkS z = some n) (hz' : rkS z' = some n')
    (q : ∀ H3, Same H H3 → Q (decide (z = z')) H3) :
    tTest (tOp (rOwnL K CM (spEqM K CM)) (tMake CM (spModeQ K CM) [] E0 (tCons (tVar i) tNil)) (tMake CM (spModeQ K CM) [] E0 (tCons (tVar j) tNil))) σ H Q := by
  refine ⟨_, hi, fun x dx nx nd ne => ⟨x, dx, z, n, rfl, upd_same, hz, rfl, ?_⟩⟩
  rw [upd_upd]
  have S1 := same_two (o := .own x) (o' := mdO CM dx z) nd nx ne
  refine ⟨_, hj, fun x2 dx2 nx2 nd2 ne2 => ⟨x2, dx2, z', n', rfl, upd_same, hz', rfl, ?_⟩⟩
  rw [upd_upd]
  have S2 := same_two (o := .own x2) (o' := mdO CM dx2 z') nd2 nx2 ne2
  have h1 := S2 _ _ (upd_same (H := upd H dx (.own x)) (a := x) (o := mdO CM dx z))
  exact ⟨x, dx, _, rfl, h1, .inr ⟨x2, dx2, _, rfl, upd_same⟩, x, dx, z, .ref x2, rfl, h1, .inr ⟨x2, dx2, z', rfl, upd_same, _, rfl, _, rfl, q _ (S1.trans S2)⟩⟩
theorem pair_ne (hi : σ[i]? = some (some (.str z))) (hj : σ[j]? = some (some (.str z'))) (hz : rkS z = some n) (hz' : rkS z' = some n')
    (q : ∀ H3, Same H H3 → Q (!decide (z = z')) H3) :
    tTest (tOp (rOwnNe CM (spEqM K CM)) (tMake CM (spModeQ K CM) [] E0 (tCons (tVar i) tNil)) (tMake CM (spModeQ K CM) [] E0 (tCons (tVar j) tNil))) σ H Q := by
  refine ⟨_, hi, fun x dx nx nd ne => ⟨x, dx, z, n, rfl, upd_same, hz, rfl, ?_⟩⟩
  rw [upd_upd]
  have S1 := same_two (o := .own x) (o' := mdO CM dx z) nd nx ne
  refine ⟨_, hj, fun x2 dx2 nx2 nd2 ne2 => ⟨x2, dx2, z', n', rfl, upd_same, hz', rfl, ?_⟩⟩
  rw [upd_upd]
  have S2 := same_two (o := .own x2) (o' := mdO CM dx2 z') nd2 nx2 ne2
  have h1 := S2 _ _ (upd_same (H := upd H dx (.own x)) (a := x) (o := mdO CM dx z))
  exact ⟨x, dx, _, x2, dx2, _, rfl, h1, rfl, upd_same, x, dx, z, .ref x2, rfl, h1, .inr ⟨x2, dx2, z', rfl, upd_same, _, rfl, _, rfl, q _ (S1.trans S2)⟩⟩
end
/-- the words of the law's dict -/
def rkV : List V := rkKV.map fun kv => kV kv.1
theorem take_yes {p : V → Bool} {i : Nat} {x : V} (e : rkV[i]? = some x) (h : p x = true) : (rkV.take (i + 1)).filter p = (rkV.take i).filter p ++ [x] := by
  rw [List.take_succ, e, List.filter_append]
  simp [h]
theorem take_no {p : V → Bool} {i : Nat} {x : V} (e : rkV[i]? = some x) (h : p x = false) : (rkV.take (i + 1)).filter p = (rkV.take i).filter p := by
  rw [List.take_succ, e, List.filter_append]
  simp [h]
theorem mates {z : Str} {n : Int} (h : rkS z = some n) : (rkV.filter fun y => decide (y = V.str z)) = [V.str z] ∧ (rkV.filter fun y => !decide (y = V.str z)).length = 3 ∧
    SeqAt.shaped (.list [.str z]) = true ∧ PyData.eqv (.list [.str z]) (.list [.str z]) = true := by
  rcases rk_word (d := .str z) h with q | q | q | q <;> (cases q; exact ⟨by decide +kernel, by decide +kernel, by decide +kernel, by decide +kernel⟩)
theorem rkV_len {p : V → Bool} {i : Nat} : ((rkV.take i).filter p).length < sizeLine := by
  have h1 := List.length_filter_le p (rkV.take i)
  have h2 : (rkV.take i).length ≤ 4 := by rw [List.length_take]; exact Nat.min_le_right _ _
  have h3 : 16 < sizeLine := by decide
  omega
end Rm

set_option maxRecDepth 100000
set_option maxHeartbeats 4000000
namespace Rm
open PySem PySem.Spec L2
open PyProof.Rows hiding St

/-! ### the end: the law's promise, asked by the caller that has no display under way -/
section
variable {P : Program} {w : World} {K : PySem.W.Frag} {mg mb : Str → Option Value} {k : Nat} {fa a : Addr} {fd : FuncData} {x : Str} {sp : Sp}
variable {s : Shared} {vs : List Value} {ns : List Int}
/-- what the caller is told -/
def Told (s : Shared) (r : Result) (s' : Shared) : Prop :=
  r = .ok (.ret (.bool true)) ∧ OldK s.heap s'.heap ∧ s'.os = s.os ∧ AllBare s'.gens
/-- the heap H tracks the script at most -/
structure Bare (P : Program) (w : World) (K : PySem.W.Frag) (s : Shared) (a : Addr) (H : Hp) : Prop where
  only : Only H
  hok : HOk P w H s.heap
  at_ : ∀ b u, H b = some u → b = a
  out : ∀ u, H a = some u → K.lookup a = none
  lst : ∃ vs : List Value, s.heap.get? a = some { cls := .type "list", data := .seq vs.toArray }
theorem Bare.dict {H : Hp} (B : Bare P w K s a H) {b : Addr} {o : Obj} {es : Array DictEntry} {ep : Nat}
    (e : s.heap.get? b = some o) (d : o.data = .dict es ep) : H b = none := by
  cases q : H b with
  | none => rfl
  | some u =>
    obtain ⟨vs, l⟩ := B.lst
    have z := B.at_ b u q
    rw [z, l] at e
    cases e
    exact absurd (show Data.seq vs.toArray _ = Data.dict es ep from d) (by intro y; cases y)
theorem Bare.names {H : Hp} (B : Bare P w K s a H) {b : Addr} {m : Str → Option Value} (h : s.heap.Ns b m) : (hidT s.heap H).Ns b m := by
  obtain ⟨o, es, ep, e, d, r⟩ := h
  exact ⟨o, es, ep, hidT_get e (B.dict e d), d, r⟩
theorem Bare.kin {H : Hp} (B : Bare P w K s a H) (KX : K.In s.heap) : K.In (hidT s.heap H) := fun b o e => by
  refine hidT_get (KX b o e) ?_
  cases q : H b with
  | none => rfl
  | some u =>
    have z := B.at_ b u q
    subst z
    rw [B.out u q] at e
    cases e
theorem told_of {H : Hp} (B : Bare P w K s a H) (KX : K.In s.heap) (hns : s.heap.Ns mainGlobals mg) (hb : s.heap.Ns builtinsNs mb)
    (hbb : ∀ y : Str, y ≠ "__name__" → mb y = bootBuiltins y) (hlim : s.heap.NoLimit) (hg : s.gens = #[]) (hr : Room k callerA)
    (F : ∀ base : Heap, K.In base → base.Ns mainGlobals mg → FnG P w K mg base CX0 k fa fd [x] sp)
    (hbind : ∀ (s : Shared) (u : Value), BindsTo s fd ⟨[u], []⟩ [(x, u)])
    (q : sp [.ref a] H (fun v _ => v = .bl true) E0) :
    codeAny (model P w) callerA (.call (.ref fa) ⟨[.ref a], []⟩) (Told s) s := by
  have kin := B.kin KX
  have lim : (hidT s.heap H).NoLimit := by
    obtain ⟨mc, h1, h2⟩ := hlim
    exact ⟨mc, B.names h1, h2⟩
  have md : Mod K mg (hidT s.heap H) := ⟨kin, B.names hns, ⟨mb, B.names hb, hbb⟩, lim⟩
  have none_in : ∀ b : Addr, b ∉ ([] : List Addr) := fun b z => by cases z
  have env : Env0 P w K mg (hidT s.heap H) callerA [] s H :=
    ⟨rfl, md, fun b o e => of_hidT e, Nat.le_of_eq (hidT_size _ _), trivial, fun b z => absurd z (none_in b), B.hok, .of_eq hg⟩
  have run := (F _ kin (B.names hns)).run callerA [] s H ⟨[.ref a], []⟩ [.ref a] [.ref a] _ _ hr rfl env (hbind s (.ref a)) (.cons rfl .nil) q
  refine codeAny_mono run fun r s' h => ?_
  match r, h with
  | .error e, h => exact False.elim h
  | .ok .next, h => exact False.elim h
  | .ok .brk, h => exact False.elim h
  | .ok .cont, h => exact False.elim h
  | .ok (.ret u), ⟨v, H', os, bare, un, hok', r', ev⟩ =>
    have ev : v = .bl true := ev
    subst ev
    have eu : u = Value.bool true := r'
    subst eu
    refine ⟨rfl, OldK.of_keep fun b o e => ?_, os, bare⟩
    rcases B.only b with z | ⟨ob, xs, z⟩
    · exact un.keep b o e z (none_in b) (none_in b)
    · have e1 := (B.hok b _ z).1
      have e2 := (hok' b _ (un.frzs b ob _ z)).1
      exact e2.trans (e1.symm.trans e)
/-- the script as the one tracked thing -/
def scH (a : Addr) (vs : List Value) (ns : List Int) : Hp := fun b =>
  if b = a then some (.frz { cls := .type "list", data := .seq vs.toArray } (.lst (ns.map V.int))) else none
theorem bare_sc (hk : K.lookup a = none) (ha : s.heap.get? a = some { cls := .type "list", data := .seq vs.toArray }) (hi : IntsAre vs ns)
    (hl : ns.length ≤ sizeLine) : Bare P w K s a (scH a vs ns) := by
  have at_ : ∀ b u, scH a vs ns b = some u → b = a := fun b u z => by
    unfold scH at z
    split at z
    · assumption
    · cases z
  refine ⟨fun b => ?_, fun b u z => ?_, at_, fun _ _ => hk, vs, ha⟩
  · unfold scH
    split
    · exact .inr ⟨_, _, rfl⟩
    · exact .inl rfl
  · have e := at_ b u z
    subst e
    unfold scH at z
    rw [if_pos rfl] at z
    cases z
    exact ⟨ha, by rw [List.length_map]; exact hl, vs, _, vals_ints hi, ha⟩
theorem bare_k (ha : s.heap.get? a = some { cls := .type "list", data := .seq vs.toArray }) : Bare P w K s a (fun _ => none) :=
  ⟨fun _ => .inl rfl, fun _ _ z => (nomatch z), fun _ _ z => (nomatch z), fun _ z => (nomatch z), vs, ha⟩
end
theorem walkG {l : PySem.W.OpenLaw} {k : Nat} {q : Program} {loose : List Str} {XP : (Str → Option Value) → Heap → Prop} {YP : World → Heap → Prop} {d : DefRec}
    {K : Params → PySem.W.Frag} (hn : l.most = some 63) (hdf : d.params.defaults = []) (hr : Room k callerA)
    (hY : ∀ (w : World) (h : Heap), YP w h → (K w.params).In h)
    (F : ∀ (w : World) (mg : Str → Option Value) (fa : Addr) (h : Heap), (K w.params).In h → h.Ns mainGlobals mg → mg d.name = some (.ref fa) →
      ∃ fd : FuncData, (∀ (s : Shared) (u : Value), BindsTo s fd ⟨[u], []⟩ [("_law_script", u)]) ∧
        ∀ base : Heap, (K w.params).In base → base.Ns mainGlobals mg → FnG l.prog w (K w.params) mg base CX0 k fa fd ["_law_script"] (spLaw (K w.params))) :
    PySem.W.WalkO q loose XP YP l.row.toRowW d [] (fun f vs => PySem.call f vs) := by
  refine Att.attach_callB hn hdf fun w s₀ s mg mb fa o pm cd doc a vs ns G Y ho hd hcd hmg ha hi hlen hbits hg => ?_
  have KX := hY w _ Y
  obtain ⟨fd, hb, hF⟩ := F w mg fa _ KX G.T.g hmg
  have hl : ns.length ≤ sizeLine := Nat.le_trans hlen (by decide)
  have go : ∀ H : Hp, Bare l.prog w (K w.params) s a H → SqL (K w.params) H a (ns.map V.int) →
      codeAny (model l.prog w) callerA (.call (.ref fa) ⟨[.ref a], []⟩) (Told s) s := fun H B S =>
    told_of B KX G.T.g G.T.b G.T.builtins G.T.nolimit hg hr hF hb ⟨a, ns, rfl, S, hlen, hbits, fun _ => rfl⟩
  cases hk : (K w.params).lookup a with
  | none => exact go _ (bare_sc hk ha hi hl) (.inl (.inr ⟨_, if_pos rfl⟩))
  | some ob =>
    have e := KX a ob hk
    rw [ha] at e
    cases e
    refine go _ (bare_k ha) (.inr ⟨_, vs.toArray, _, hk, rfl, rfl, rfl, ?_, ?_⟩)
    · rw [List.size_toArray, hi.length]; exact hl
    · simpa using vals_ints hi
/-- an error of the class at C is what `except` of C names -/
theorem em_self {K : PySem.W.Frag} {C : Addr} (h1 : PySem.W.subIn K (.ref C) (.type "BaseException") = some true) (h2 : PySem.W.hasDictIn K C = true)
    (h3 : PySem.W.typeIn K (.ref C) = some (.type "type")) (h4 : PySem.W.mroIn K C (.ref C) = some true) : PySem.W.exmOne K (.ref C) (.ref C) = some true := by
  have e : (PySem.W.clsIn K C).isSome = true := by
    obtain ⟨cd, z, _⟩ := PySem.W.any_some h2
    rw [z]; rfl
  unfold PySem.W.exmOne PySem.W.kitCls
  dsimp only
  rw [if_pos (by rw [h1]; rfl), if_pos (by rw [e, h3]; rfl)]
  exact h4
end Rm

set_option maxRecDepth 100000
set_option maxHeartbeats 4000000
namespace Rm
open PySem PySem.Spec L2
open PyProof.Rows hiding St

/-! ### one keyword and nothing else -/
/-- the keyword y fills the last of ps, behind n values -/
structure Kw1 (fd : FuncData) (ps : List Str) (n : Nat) (y : Str) : Prop where
  to : ∀ (s : Shared) (us : List Value) (w : Value), us.length = n → BindsTo s fd ⟨us, [(y, w)]⟩ (ps.zip (us ++ [w]))
def CmK (P : Program) (w : World) (K : PySem.W.Frag) (mg : Str → Option Value) (base : Heap) (CX : CXT)
    (k : Nat) (C : Addr) (m : Str) (ps : List Str) (y : Str) (sp : Sp) : Prop :=
  ∃ f fd, Cls K C ∧ Meth K C m f ∧ Kw1 fd ps 1 y ∧ FnG P w K mg base CX k f fd ps sp
def CnK (P : Program) (w : World) (K : PySem.W.Frag) (mg : Str → Option Value) (base : Heap) (CX : CXT)
    (k : Nat) (x : Str) (C : Addr) (ps : List Str) (y : Str) (sp : Sp) : Prop :=
  ∃ f fd, mg x = some (.ref C) ∧ Mk K C f ∧ Kw1 fd ps 1 y ∧ FnG P w K mg base CX k f fd ps sp
section
variable {X : Cx} {CX : CXT} {k n : Nat} {f C : Addr} {fd : FuncData} {ps : List Str} {sp : Sp} {E : XK} {x m y : Str} {p pos apos kpos : Pos} {e o : Expr} {te ta : TE}
theorem goes1 {pins : List (Addr × Obj)} {σ : L2.St} {H : Hp} {s : Shared} {Q : VK} {us : List Value} {vs : List V} {u : Value} {v : V}
    (F : FnG X.prog X.w X.K X.mg X.base CX k f fd ps sp) (hr : Room k X.A) (hG : Gd X.A) (hb : Kw1 fd ps n y) (hx : Passes CX X E)
    (I : Inv X pins σ H s) (r : Vals vs us) (rv : RelV v u) (hl : vs.length = n) (h : sp (vs ++ [v]) H Q E) :
    wpAny (model X.prog X.w) X.A (call (.ref f) us [(y, u)]) (EP X pins σ Q) X.xe s :=
  wpAny_call (codeAny_mono (F.run X.A X.stack s H ⟨us, [(y, u)]⟩ (us ++ [u]) (vs ++ [v]) Q E hr hG I.env0
    (hb.to s us u (r.length.symm.trans hl)) (r.append (.cons rv .nil)) h) fun r s' hq => came hx I hq)
theorem kw_one {pins : List (Addr × Obj)} {σ : L2.St} {H : Hp} {s : Shared} {Q : VK} (ha : PE X e te) (I : Inv X pins σ H s) (h : te σ H Q) :
    wpAny (model X.prog X.w) X.A (evalAll ((backToKw pos (keywordEach [⟨some y, e, kpos⟩] X.env)).map (·.2)))
      (fun us s' => ∃ v u H', us = [u] ∧ Inv X pins σ H' s' ∧ RelV v u ∧ Q v H') X.xe s := by
  show wpAny _ _ (evalAll ((do let v ← eval e X.env; standAt pos; pure v) :: [])) _ _ s
  refine wpAny_evalAll_cons (wpAny_bind (thn (ha.run pins s σ H _ I h) fun u s1 hh => wpAny_bind (wpAny_standAt (wpAny_pure ?_))))
  obtain ⟨v, H1, I1, r1, q1⟩ := hh
  exact wpAny_evalAll_nil ⟨v, u, H1, rfl, I1, r1, q1⟩
theorem pe_cmK {pl : Sem Bool} (D : CmK X.prog X.w X.K X.mg X.base CX k C m ps y sp) (hr : Room k X.A) (hG : Gd X.A)
    (he : PE X o ta) (ha : PE X e te) (hx : Passes CX X E)
    (ht : eval (.Call (.Attribute o m apos) [] [⟨some y, e, kpos⟩] pos) X.env = (do
      let ov ← eval o X.env
      standAt apos.atName
      let (g, first) ← holding [ov] (getMethod ov m pl)
      callWith pos g first (backTo pos (starEach [] X.env)) (backToKw pos (keywordEach [⟨some y, e, kpos⟩] X.env))) := by rfl) :
    PE X (.Call (.Attribute o m apos) [] [⟨some y, e, kpos⟩] pos) (tMeth C m sp [] E ta (tCons te tNil)) := by
  obtain ⟨f, fd, c, hm, hb, F⟩ := D
  constructor
  intro pins s σ H Q I h
  refine PySem.W.methodCall_KW (pl := pl)
    (thn (he.run pins s σ H _ I h) fun u s1 ⟨z, H1, I1, rz, a, dx, fs, ez, ea, l, q⟩ => ?_) ht
  subst ez
  cases rz
  refine getmeth_ok I1 ea c hm l (PySem.W.callWith_KW0 (first := [.ref a]) (h₀ := X.base) I1.ok.mod.kin hm.kp rfl
    (thn (kw_one ha I1 q) fun us s2 hh => ?_) rfl)
  obtain ⟨v, u, H2, rfl, I2, r1, q2⟩ := hh
  exact ⟨I2.kIn, goes1 (us := [.ref a]) (vs := [.ref a]) F hr hG hb hx I2 (.cons rfl .nil) r1 rfl q2⟩
theorem grows1 {pins : List (Addr × Obj)} {σ : L2.St} {H : Hp} {s : Shared} {Q : VK} {v : V} {u : Value} (M : Mk X.K C f)
    (F : FnG X.prog X.w X.K X.mg X.base CX k f fd ps sp) (hr : Room (k + 1) X.A) (hG : Gd X.A) (hb : Kw1 fd ps 1 y) (hx : Passes CX X E)
    (I : Inv X pins σ H s) (rv : RelV v u)
    (h : ∀ z dx, H z = none → H dx = none → dx ≠ z → sp [.ref z, v] (upd (upd H dx (.own z)) z (.ins C dx [])) (fun v H2 => v = .non ∧ Q (.ref z) H2) E) :
    wpAny (model X.prog X.w) X.A (call (.ref C) [] [(y, u)]) (EP X pins σ Q) X.xe s := by
  have hq := h (s.heap.objs.size + 1) s.heap.objs.size (I.hok.fresh (Nat.le_succ _)) (I.hok.fresh (Nat.le_refl _)) (Nat.ne_of_lt (Nat.lt_succ_self _))
  have I2 := Inv.made (C := C) I
  refine wpAny_call (make_map (f := f) I.kIn M.makes M.init (beq_iff_eq.mp M.fn)
    (codeAny_mono (F.run _ X.stack _ _ ⟨[Value.ref (s.heap.objs.size + 1)], [(y, u)]⟩ [Value.ref (s.heap.objs.size + 1), u] _ _ E
      (hr.make C [] [(y, u)]) (hG.make C [] [(y, u)]) (I2.env0.make C [] [(y, u)])
      (hb.to _ [Value.ref (s.heap.objs.size + 1)] u rfl) (show Vals [V.ref (s.heap.objs.size + 1), v] _ from .cons rfl (.cons rv .nil)) hq) fun r s' hq' => ?_))
  match r, hq' with
  | .error er, hq' => exact hx pins σ _ _ er s' I2 hq'
  | .ok (.ret z), hq' =>
    obtain ⟨v, H', I3, rz, ev, q3⟩ := I2.after hq'
    subst ev
    exact ⟨rz, V.ref (s.heap.objs.size + 1), H', I3, rfl, q3⟩
  | .ok .next, hq' => exact False.elim hq'
  | .ok .brk, hq' => exact False.elim hq'
  | .ok .cont, hq' => exact False.elim hq'
theorem pe_cnK (D : CnK X.prog X.w X.K X.mg X.base CX k x C ps y sp) (hr : Room (k + 1) X.A) (hG : Gd X.A) (ha : PE X e te) (hx : Passes CX X E)
    (hg : Gl X x := by rfl) (hdb : (x == ("__debug__" : Str)) = false := by decide) :
    PE X (.Call (.Name x p) [] [⟨some y, e, kpos⟩] pos) (tMake C sp [] E (tCons te tNil)) := by
  obtain ⟨f, fd, hm, M, hb, F⟩ := D
  constructor
  intro pins s σ H Q I h
  refine wpAny_Call_Name_kw (ld_glob I hg hm ?_ hdb)
  refine PySem.W.callWith_KW0 (first := []) (h₀ := X.base) I.ok.mod.kin M.kp rfl (thn (kw_one ha I h) fun us s2 hh => ?_) rfl
  obtain ⟨v, u, H2, rfl, I2, r1, q2⟩ := hh
  exact ⟨I2.kIn, grows1 M F hr hG hb hx I2 r1 q2⟩

/-! ### | by an own __or__ -/
def rOwnOr (C : Addr) (sp : Sp) : R2 := fun x y H Q => ∃ a dx fs b dy gs, x = .ref a ∧ H a = some (.ins C dx fs) ∧ y = .ref b ∧ H b = some (.ins C dy gs) ∧
  sp [x, y] H (fun z H' => (∃ c, z = .ref c) ∧ Q z H') E0
theorem op_ownOr (D : Cm X.prog X.w X.K X.mg X.base CX0 k C "__or__" ps sp) (sf : PySem.W.selfFirst X.K C = true) (hr : Room k X.A) (hG : Gd X.A) :
    OpR X (binaryOp .BitOr) (rOwnOr C sp) := by
  intro pins s σ H x y v u Q I rx ry h
  obtain ⟨a, dx, fs, b, dy, gs, rfl, ha, rfl, hb', q⟩ := h
  cases rx
  cases ry
  obtain ⟨f, fd, c, hm, hb, F0⟩ := D
  obtain ⟨mA, O, _⟩ := ins_get I.hok ha
  obtain ⟨od, J, _⟩ := O.look
  obtain ⟨mB, O', _⟩ := ins_get I.hok hb'
  obtain ⟨od', J', _⟩ := O'.look
  obtain ⟨m, hF⟩ := I.fr
  have hl : ([Value.ref a] ++ [Value.ref b]).length = ps.length := F0.len _ _ _ _ q
  refine PySem.W.binop_K (op := .BitOr) hF I.ok.mod.kin J J'.type sf hm.at_ hm.fn ?_
  refine wpAny_call (codeAny_mono (F0.run X.A X.stack s H ⟨[.ref a, .ref b], []⟩ [.ref a, .ref b] [.ref a, .ref b] _ _ hr hG I.env0
      (by have := hb s [.ref a, .ref b] I.kIn (by simpa using hl); simpa using this) (.cons rfl (.cons rfl .nil)) q) fun rr s' hq => ?_)
  match rr, hq with
  | .error er, hq => exact False.elim hq
  | .ok (.ret z), hq =>
    obtain ⟨y, H', I2, ry, ⟨⟨c, ey⟩, qq⟩⟩ := I.after hq
    subst ey
    cases ry
    exact ⟨.ref c, H', I2, rfl, qq⟩
  | .ok .next, hq => exact False.elim hq
  | .ok .brk, hq => exact False.elim hq
  | .ok .cont, hq => exact False.elim hq
end
end Rm

set_option maxRecDepth 100000
set_option maxHeartbeats 4000000
namespace Rm
open PySem PySem.Spec L2
open PyProof.Rows hiding St

/-! ### static methods -/
structure StM (K : PySem.W.Frag) (C : Addr) (m : Str) (f : Addr) : Prop where
  ga : PySem.W.specialIn K (.ref C) "__getattribute__" = some (some (.builtin "type.__getattribute__"))
  cls : Cls K C
  ty : PySem.W.typeIn K (.ref C) = some (.type "type")
  rd : PySem.W.readsIn K C (.type "type") = true
  at_ : ∃ p rest, PySem.W.findCls K (.ref C) (.type "type") m = some (.get (.builtin "staticmethod.__get__") (.ref p) .none (.ref C)) ∧
    PySem.W.recIn K p "staticmethod" = some (.ref f :: rest) ∧ PySem.W.findIn K (.ref C) m = some (some (.ref p)) ∧ PySem.W.typeIn K (.ref p) = some (.type "staticmethod") ∧
    PySem.W.specialIn K (.ref p) "__get__" = some (some (.builtin "staticmethod.__get__")) ∧ PySem.W.takesIn K (.ref p) = some false
  cp : PySem.W.copiedNames.contains m = false
  kp : PySem.W.keepIn K (.ref f) = true
def Cs (P : Program) (w : World) (K : PySem.W.Frag) (mg : Str → Option Value) (base : Heap) (CX : CXT)
    (k : Nat) (C : Addr) (m : Str) (ps : List Str) (y : Str) (sp : Sp) : Prop :=
  ∃ f fd, StM K C m f ∧ Binds K fd ps [] ∧ Kw1 fd ps 0 y ∧ FnG P w K mg base CX k f fd ps sp
def tStat (C : Addr) (sp : Sp) (E : XK) (ta : TE) (t : TA) : TE := fun σ H Q => ta σ H fun x H1 => x = .ref C ∧ t σ H1 fun vs H2 => sp vs H2 Q E
def tStatI (C : Addr) (m : Str) (sp : Sp) (E : XK) (ta : TE) (t : TA) : TE := fun σ H Q => ta σ H fun x H1 =>
  ∃ a dx fs, x = .ref a ∧ H1 a = some (.ins C dx fs) ∧ fs.lookup m = none ∧ t σ H1 fun vs H2 => sp vs H2 Q E
section
variable {X : Cx} {CX : CXT} {k : Nat} {f C : Addr} {ps : List Str} {sp : Sp} {E : XK} {m y : Str} {pos apos kpos : Pos} {e o : Expr} {es : List Expr} {te ta : TE} {t : TA}
theorem get_sm {pl : Sem Bool} {pins : List (Addr × Obj)} {σ : L2.St} {H : Hp} {s : Shared} {Q : Value × List Value → Shared → Prop} (S : StM X.K C m f) (I : Inv X pins σ H s)
    (h : ∀ s', Inv X pins σ H s' → Q (.ref f, []) s') : wpAny (model X.prog X.w) X.A (getMethod (.ref C) m pl) Q X.xe s := by
  obtain ⟨p, rest, h1, h2, _⟩ := S.at_
  obtain ⟨n, hF⟩ := I.fr
  exact PySem.W.method_of_cls hF I.ok.mod.kin S.ga (PySem.W.cls_sm hF I.ok.mod.kin S.ty S.rd h1 h2 rfl (h _ (I.tok _)))
theorem get_smI {pl : Sem Bool} {pins : List (Addr × Obj)} {σ : L2.St} {H : Hp} {s : Shared} {Q : Value × List Value → Shared → Prop} {a dx : Addr} {fs : List (Str × V)}
    (S : StM X.K C m f) (I : Inv X pins σ H s) (ea : H a = some (.ins C dx fs)) (l : fs.lookup m = none)
    (h : ∀ s', Inv X pins σ H s' → Q (.ref f, []) s') : wpAny (model X.prog X.w) X.A (getMethod (.ref a) m pl) Q X.xe s := by
  obtain ⟨p, rest, _, h2, h3, h4, h5, h6⟩ := S.at_
  obtain ⟨mA, O, r, _⟩ := ins_get I.hok ea
  have hn : mA m = none := RelO.none_of (by rw [← l]; exact r m)
  obtain ⟨od, J, lk⟩ := O.look
  have pg := PySem.W.plainGet_of (S.cls.get m)
  refine PySem.W.method_usual (r := some (.ref p)) I.kIn J pg.1 pg.2 h3 (by simp only [Option.all_some, h4, Option.any_some]; decide +kernel) ?_
  refine PySem.W.get_bind I.kIn J pg.1 (PySem.W.findObj_fn S.cls.hd h3 h5 h6 S.cp (by rw [lk, hn])) pg.2 ?_
  exact wpAny_call (PySem.W.sm_get (s := { s with toks := s.toks + 1 }) I.kIn h2 (PySem.W.handed_on rfl (h _ (I.tok _))))
theorem pe_cs {pl : Sem Bool} (D : Cs X.prog X.w X.K X.mg X.base CX k C m ps y sp) (hr : Room k X.A) (hG : Gd X.A)
    (he : PE X o ta) (ha : PA X (e :: es) t) (hx : Passes CX X E)
    (hst : starEach (e :: es) X.env = (false, eval e X.env) :: starEach es X.env := by rfl)
    (hpl : (backTo pos (starEach es X.env)).any (·.1) = false := by rfl)
    (ht : eval (.Call (.Attribute o m apos) (e :: es) [] pos) X.env = (do
      let ov ← eval o X.env
      standAt apos.atName
      let (g, first) ← holding [ov] (getMethod ov m pl)
      callWith pos g first (backTo pos (starEach (e :: es) X.env)) (backToKw pos (keywordEach [] X.env))) := by rfl) :
    PE X (.Call (.Attribute o m apos) (e :: es) [] pos) (tStat C sp E ta t) := by
  obtain ⟨f, fd, S, hb, _, F⟩ := D
  constructor
  intro pins s σ H Q I h
  refine PySem.W.methodCall_KW (pl := pl) (thn (he.run pins s σ H _ I h) fun u s1 ⟨z, H1, I1, rz, ez, q⟩ => ?_) ht
  subst ez
  cases rz
  refine get_sm S I1 fun s2 I2 => PySem.W.callWith_K (first := []) (h₀ := X.base) I.ok.mod.kin S.kp (thn (ha.run pos pins s2 σ H1 _ I2 q) fun us s3 ⟨vs, H2, I3, r, q2⟩ =>
      ⟨I3.kIn, goes (dvs := []) (ds := []) F hr hG hb .nil hx I3 r (by rw [List.append_nil]; exact q2)⟩) hst hpl
theorem pe_csI {pl : Sem Bool} (D : Cs X.prog X.w X.K X.mg X.base CX k C m ps y sp) (hr : Room k X.A) (hG : Gd X.A)
    (he : PE X o ta) (ha : PA X (e :: es) t) (hx : Passes CX X E)
    (hst : starEach (e :: es) X.env = (false, eval e X.env) :: starEach es X.env := by rfl)
    (hpl : (backTo pos (starEach es X.env)).any (·.1) = false := by rfl)
    (ht : eval (.Call (.Attribute o m apos) (e :: es) [] pos) X.env = (do
      let ov ← eval o X.env
      standAt apos.atName
      let (g, first) ← holding [ov] (getMethod ov m pl)
      callWith pos g first (backTo pos (starEach (e :: es) X.env)) (backToKw pos (keywordEach [] X.env))) := by rfl) :
    PE X (.Call (.Attribute o m apos) (e :: es) [] pos) (tStatI C m sp E ta t) := by
  obtain ⟨f, fd, S, hb, _, F⟩ := D
  constructor
  intro pins s σ H Q I h
  refine PySem.W.methodCall_KW (pl := pl) (thn (he.run pins s σ H _ I h) fun u s1 ⟨z, H1, I1, rz, a, dx, fs, ez, ea, l, q⟩ => ?_) ht
  subst ez
  cases rz
  refine get_smI S I1 ea l fun s2 I2 => PySem.W.callWith_K (first := []) (h₀ := X.base) I.ok.mod.kin S.kp (thn (ha.run pos pins s2 σ H1 _ I2 q) fun us s3 ⟨vs, H2, I3, r, q2⟩ =>
      ⟨I3.kIn, goes (dvs := []) (ds := []) F hr hG hb .nil hx I3 r (by rw [List.append_nil]; exact q2)⟩) hst hpl
theorem pe_csK {pl : Sem Bool} (D : Cs X.prog X.w X.K X.mg X.base CX k C m ps y sp) (hr : Room k X.A) (hG : Gd X.A)
    (he : PE X o ta) (ha : PE X e te) (hx : Passes CX X E)
    (ht : eval (.Call (.Attribute o m apos) [] [⟨some y, e, kpos⟩] pos) X.env = (do
      let ov ← eval o X.env
      standAt apos.atName
      let (g, first) ← holding [ov] (getMethod ov m pl)
      callWith pos g first (backTo pos (starEach [] X.env)) (backToKw pos (keywordEach [⟨some y, e, kpos⟩] X.env))) := by rfl) :
    PE X (.Call (.Attribute o m apos) [] [⟨some y, e, kpos⟩] pos) (tStat C sp E ta (tCons te tNil)) := by
  obtain ⟨f, fd, S, _, hb, F⟩ := D
  constructor
  intro pins s σ H Q I h
  refine PySem.W.methodCall_KW (pl := pl) (thn (he.run pins s σ H _ I h) fun u s1 ⟨z, H1, I1, rz, ez, q⟩ => ?_) ht
  subst ez
  cases rz
  refine get_sm S I1 fun s2 I2 => PySem.W.callWith_KW0 (first := []) (h₀ := X.base) I.ok.mod.kin S.kp rfl (thn (kw_one ha I2 q) fun us s3 hh => ?_) rfl
  obtain ⟨v, u, H2, rfl, I3, r1, q2⟩ := hh
  exact ⟨I3.kIn, goes1 (us := []) (vs := []) F hr hG hb hx I3 .nil r1 rfl q2⟩
end
end Rm

set_option maxRecDepth 100000
set_option maxHeartbeats 4000000
namespace Rm
open PySem PySem.Spec L2
open PyProof.Rows hiding St

/-! ### max(list of words, key=own def, default=None) -/
/-- an object that nothing of ours knows -/
structure Apart (X : Cx) (pins : List (Addr × Obj)) (H : Hp) (a : Addr) : Prop where
  na : H a = none
  nL : a ≠ X.env.locals
  nF : a ∉ X.fs
  n0 : X.s_0.heap.get? a = none
  nC : ∀ x c, X.env.cells.lookup x = some c → c ≠ a
  nP : ∀ p ∈ X.pn ++ pins, p.1 ≠ a
section
variable {X : Cx} {pins : List (Addr × Obj)} {σ : L2.St} {H : Hp} {s : Shared} {a : Addr}
theorem Apart.new (I : Inv X pins σ H s) (h : s.heap.objs.size ≤ a) : Apart X pins H a := by
  have no : s.heap.get? a = none := Heap.get?_none_of_le h
  refine ⟨I.hok.fresh h, fun e => ?_, I.nofs h, Heap.get?_none_of_le (Nat.le_trans I.sz h), fun x c e z => ?_, fun p hp z => ?_⟩
  · rw [e] at h
    exact absurd (Nat.lt_of_lt_of_le I.lt h) (Nat.lt_irrefl _)
  · obtain ⟨v, o, ho, _⟩ := I.cell x c e
    rw [z, no] at ho
    cases ho
  · have := (I.pin p hp).1
    rw [z, no] at this
    cases this
theorem Inv.other {h' : Heap} {t' : Nat} (I : Inv X pins σ H s) (A : Apart X pins H a)
    (k : ∀ b o, b ≠ a → s.heap.get? b = some o → h'.get? b = some o) : Inv X pins σ H { s with heap := h', toks := t' } := by
  obtain ⟨m, hn, hlk⟩ := id I.loc
  have ne0 : ∀ b o, X.s_0.heap.get? b = some o → b ≠ a := fun b o e z => by rw [z, A.n0] at e; cases e
  have ns : h'.Ns X.env.locals m := by
    obtain ⟨o, es, ep, e, d, r⟩ := hn
    exact ⟨o, es, ep, k _ _ (Ne.symm A.nL) e, d, r⟩
  refine ⟨I.ok, I.os, I.bare, ⟨fun b o e n hb hx => ?_, fun b o e n hb hx => ?_, I.base.free, fun b o e hx => ?_, I.base.tups, I.base.frzs, I.base.tbls⟩,
    ⟨m, ns, fun i x v e1 e2 e3 => ?_⟩, fun x c e => ?_, I.free, I.freeC, fun p hp => ?_, fun b ob e => ?_, I.len⟩
  · exact k _ _ (ne0 b o e) (I.base.keep b o e n hb hx)
  · obtain ⟨sl, e1⟩ := I.base.slot b o e n hb hx
    exact ⟨sl, k _ _ (ne0 b o e) e1⟩
  · obtain ⟨o', e1⟩ := I.base.there b o e hx
    exact ⟨o', k _ _ (ne0 b o e) e1⟩
  · obtain ⟨u, r, q⟩ := hlk i x v e1 e2 e3
    refine ⟨u, r, ?_⟩
    rcases q with q | ⟨kk, c, e, z⟩
    · exact .inl q
    · obtain ⟨o, ho, hd⟩ := z
      exact .inr ⟨kk, c, e, o, k _ _ (A.nC x c e) ho, hd⟩
  · obtain ⟨v, o, ho, hd⟩ := I.cell x c e
    exact ⟨v, o, k _ _ (A.nC x c e) ho, hd⟩
  · obtain ⟨e, r⟩ := I.pin p hp
    exact ⟨k _ _ (A.nP p hp) e, r⟩
  · refine (I.hok b ob e).stay (fun c w' hc q => k _ _ ?_ q) (fun _ q => q) fun _ _ q => q
    intro z
    subst z
    rcases hc with hc | hc
    · rw [← hc, A.na] at e; cases e
    · rw [A.na] at hc; cases hc
end
/-- the first of the greatest -/
def better (b : Option (Str × Int)) (p : Str × Int) : Option (Str × Int) := match b with
  | none => some p
  | some q => if p.2 > q.2 then some p else some q
def bestL (ws : List (Str × Int)) : Option (Str × Int) := ws.foldl better none
def bestV (ws : List (Str × Int)) : V := match bestL ws with
  | none => .non
  | some p => .str p.1
theorem best_next {ws : List (Str × Int)} {i : Nat} {p : Str × Int} (e : ws[i]? = some p) : bestL (ws.take (i + 1)) = better (bestL (ws.take i)) p := by
  unfold bestL
  rw [List.take_succ, e, List.foldl_append]
  rfl
/-- what the loop keeps of the best one so far -/
def Held (b : Option (Str × Int)) (items : List Value) : Prop := match b with
  | none => items = []
  | some p => ∃ t t', items = [.str p.1 t, .int p.2 t']
theorem max_args (a v d : Value) : argsOk "max" ⟨[a], [(Str.ofString "key", v), (Str.ofString "default", d)]⟩ := by unfold argsOk; kernel_rfl
section
variable {X : Cx} {pins : List (Addr × Obj)} {σ : L2.St} {H : Hp} {l q it S : Addr} {ws : List (Str × Int)} {fd : FuncData} {R : Result → Shared → Prop}
theorem max_loop (F0 : FnG X.prog X.w X.K X.mg X.base CX0 1 q fd ["word"] spRank) (hb : Binds X.K fd ["word"] []) (hr : Room 2 X.A) (hG : Gd X.A)
    (hh : X.A.handled = none) (hw : ∀ p ∈ ws, rkS p.1 = some p.2) (hl : SqL X.K H l (ws.map fun p => V.str p.1))
    (aI : Apart X pins H it) (aS : Apart X pins H S) (ne : it ≠ S)
    (hR : ∀ u s', Inv X pins σ H s' → RelV (bestV ws) u → R (.ok (.ret u)) s') :
    ∀ (r i : Nat) (s : Shared) (items : List Value) (c : Nat), ws.length - i = r → i ≤ ws.length → Inv X pins σ H s → s.heap.IsListIter it l i →
      s.heap.get? S = some (seqObj "list" items.toArray c) → Held (bestL (ws.take i)) items →
      codeAny (model X.prog X.w) X.A (.builtin "max.loop" ⟨[.ref it, .ref q, .ref S], [(Str.ofString "default", .none)]⟩) R s := by
  have hname : (toString "max" ++ toString ".loop" : String) = "max.loop" := by decide
  intro r
  induction r with
  | zero =>
    intro i s items c hi hle I hit hS hacc
    have e : i = ws.length := by omega
    subst e
    rw [List.take_length] at hacc
    obtain ⟨its, rv, hls, _⟩ := I.list hl
    have hn : its.toArray[ws.length]? = none := by
      have e1 := rv.length
      rw [List.length_map] at e1
      rw [e1]
      simp
    refine codeAny_builtin PySem.F.entry_max_loop ?_
    rw [Around.under_plainId PySem.F.plain_max_loop _]
    show wpAny _ X.A.in1 (seqItems? (.ref S) >>= _) _ _ _
    refine wpAny_bind (wpAny_seqItems hS rfl ?_)
    show wpAny _ X.A.in1 (tryCatch (pyNext (.ref it)) _ >>= _) _ _ _
    refine wpAny_bind (wpAny_tryCatch (wpAny_pyNext_list_end hh hit hls.isList hn fun h' hk => ?_))
    have I1 : Inv X pins σ H { s with heap := h' } := Inv.other (t' := s.toks) I aI fun b o nb e => hk b o nb e
    have hS' := hk S _ (Ne.symm ne) hS
    unfold bestV at hR
    cases hB : bestL ws with
    | none =>
      rw [hB] at hacc hR
      have hacc : items = [] := hacc
      subst hacc
      refine wpAny_bind (wpAny_rule (wpAny_pure ?_))
      exact hR .none _ I1 rfl
    | some p =>
      rw [hB] at hacc hR
      obtain ⟨t, t', hacc⟩ := (show ∃ t t', items = [.str p.1 t, .int p.2 t'] from hacc)
      subst hacc
      show wpAny _ X.A.in1 (updateSeq S (fun _ => #[]) >>= _) _ _ _
      refine wpAny_bind ?_
      refine wpAny_updateSeq hS' rfl (wpAny_bind (wpAny_letGo (wpAny_pure ?_)))
      exact hR _ _ (Inv.other (t' := s.toks) I1 aS fun b o nb e => ((Heap.SameBut.update h' S _).2 b nb).trans e) ⟨t, rfl⟩
  | succ r ih =>
    intro i s items c hi hle I hit hS hacc
    have hlt : i < ws.length := by omega
    obtain ⟨its, rv, hls, _⟩ := I.list hl
    have ep : ws[i]? = some ws[i] := List.getElem?_eq_getElem hlt
    have em : (ws.map fun p => V.str p.1)[i]? = some (V.str ws[i].1) := by rw [List.getElem?_map, ep]; rfl
    obtain ⟨u, hu, ru⟩ := rv.get em
    obtain ⟨t, rfl⟩ := ru
    refine codeAny_builtin PySem.F.entry_max_loop ?_
    rw [Around.under_plainId PySem.F.plain_max_loop _]
    show wpAny _ X.A.in1 (seqItems? (.ref S) >>= _) _ _ _
    refine wpAny_bind (wpAny_seqItems hS rfl ?_)
    show wpAny _ X.A.in1 (tryCatch (pyNext (.ref it)) _ >>= _) _ _ _
    refine wpAny_bind (wpAny_tryCatch (wpAny_pyNext_list_item hit hls.isList (x := .str ws[i].1 t) (by simpa using hu) fun h' hit' hk => ?_))
    have I1 : Inv X pins σ H { s with heap := h' } := Inv.other (t' := s.toks) I aI fun b o nb e => (hk.2 b nb).trans e
    have hS' := (hk.2 S (Ne.symm ne)).trans hS
    obtain ⟨oI, hoI, hoc, hod⟩ := hit'
    -- the call
    have rk := hw _ (List.getElem_mem hlt)
    have P1 : Inv X ((it, oI) :: (S, seqObj "list" items.toArray c) :: pins) σ H { s with heap := h' } := I1.pins_of fun p hp => by
      rcases List.mem_cons.mp hp with e | hp
      · subst e
        exact ⟨hoI, aI.na, aI.nL, aI.nF, fun v z => by have z' : oI.data = .cell v := z; rw [hod] at z'; cases z'⟩
      · rcases List.mem_cons.mp hp with e | hp
        · subst e
          exact ⟨hS', aS.na, aS.nL, aS.nF, fun v z => nomatch z⟩
        · exact I1.pin p (List.mem_append_right _ hp)
    show wpAny _ X.A.in1 (tryCatch (holding [.str ws[i].1 t] (call (.ref q) [.str ws[i].1 t])) _ >>= _) _ _ _
    have q1 : spRank [V.str ws[i].1] H (fun v H' => v = .int ws[i].2 ∧ H' = H) E0 := ⟨_, _, rfl, rk, rfl, rfl⟩
    have run := F0.run X.A.in1 X.stack { s with heap := h' } H ⟨[.str ws[i].1 t], []⟩ [.str ws[i].1 t] [.str ws[i].1] _ _ hr.in1 hG.in1 P1.env0.in1
      (hb _ [.str ws[i].1 t] P1.kIn rfl) (.cons ⟨t, rfl⟩ .nil) q1
    refine wpAny_bind (wpAny_tryCatch (wpAny_holding (wpAny_call (codeAny_mono run fun rr s2 hq => ?_))))
    match rr, hq with
    | .error er, hq => exact False.elim hq
    | .ok .next, hq => exact False.elim hq
    | .ok .brk, hq => exact False.elim hq
    | .ok .cont, hq => exact False.elim hq
    | .ok (.ret z), hq =>
      obtain ⟨y, H2, I2, ry, ey, eH⟩ := P1.after hq
      subst ey
      subst eH
      obtain ⟨t2, rfl⟩ := ry
      have gI := (I2.pin (it, oI) (List.mem_append_right _ (.head _))).1
      have gS := (I2.pin (S, seqObj "list" items.toArray c) (List.mem_append_right _ (.tail _ (.head _)))).1
      have I3 : Inv X pins σ H2 s2 := I2.pins_of fun p hp => I2.pin p (List.mem_append_right _ (.tail _ (.tail _ hp)))
      have bn := best_next ep
      cases hB : bestL (ws.take i) with
      | none =>
        rw [hB] at hacc bn
        have hacc : items = [] := hacc
        subst hacc
        have s1 := Heap.SameBut.update s2.heap S (Obj.mapSeq fun _ => #[Value.str ws[i].1 t, .int ws[i].2 t2])
        obtain ⟨c2, hc2⟩ : ∃ c2, (s2.heap.update S (Obj.mapSeq fun _ => #[Value.str ws[i].1 t, .int ws[i].2 t2])).get? S = some (seqObj "list" #[Value.str ws[i].1 t, .int ws[i].2 t2] c2) :=
          ⟨_, get?_update_seq gS fun _ => #[Value.str ws[i].1 t, .int ws[i].2 t2]⟩
        show wpAny _ X.A.in1 (updateSeq S (fun _ => #[Value.str ws[i].1 t, .int ws[i].2 t2]) >>= _) _ _ _
        refine wpAny_bind ?_
        refine wpAny_updateSeq gS rfl ?_
        rw [hname]
        refine wpAny_pure ⟨plainId_quiet PySem.F.plain_max_loop _, ih (i + 1) _ [.str ws[i].1 t, .int ws[i].2 t2] c2 (by omega) hlt (Inv.other (t' := s2.toks) I3 aS fun b o nb e => (s1.2 b nb).trans e)
          ⟨oI, (s1.2 it ne).trans gI, hoc, hod⟩ hc2 ?_⟩
        rw [bn]
        exact ⟨t, t2, rfl⟩
      | some p =>
        rw [hB] at hacc bn
        obtain ⟨tb, tb', hacc⟩ := (show ∃ t t', items = [.str p.1 t, .int p.2 t'] from hacc)
        subst hacc
        show wpAny _ X.A.in1 (tryCatch (holding [.str ws[i].1 t, .int ws[i].2 t2] (richCompare .Gt (.int ws[i].2 t2) (.int p.2 tb') >>= _)) _ >>= _) _ _ _
        refine wpAny_bind (wpAny_tryCatch (wpAny_holding (wpAny_bind (CmpOf.ints_gt (prog := X.prog) (w := X.w) (A := X.A.in1) (P := fun n v => ∃ t, v = .int (if n = 0 then ws[i].2 else p.2) t)
          (fun n => if n = 0 then ws[i].2 else p.2) (fun i v h => h) 0 1 _ _ _ _ _ ⟨t2, rfl⟩ ⟨tb', rfl⟩ ?_))))
        refine wpAny_bind (wpAny_holding (wpAny_truthy_bool ?_))
        refine wpAny_bind (wpAny_letGo (wpAny_pure ?_))
        simp only [if_true, Nat.one_ne_zero, if_false]
        by_cases hgt : ws[i].2 > p.2
        · have s1 := Heap.SameBut.update s2.heap S (Obj.mapSeq fun _ => #[Value.str ws[i].1 t, .int ws[i].2 t2])
          obtain ⟨c2, hc2⟩ : ∃ c2, (s2.heap.update S (Obj.mapSeq fun _ => #[Value.str ws[i].1 t, .int ws[i].2 t2])).get? S = some (seqObj "list" #[Value.str ws[i].1 t, .int ws[i].2 t2] c2) :=
            ⟨_, get?_update_seq gS fun _ => #[Value.str ws[i].1 t, .int ws[i].2 t2]⟩
          simp only [hgt, decide_true, if_true]
          refine wpAny_bind ?_
          refine wpAny_updateSeq gS rfl (wpAny_bind (wpAny_letGo ?_))
          rw [hname]
          refine wpAny_pure ⟨plainId_quiet PySem.F.plain_max_loop _, ih (i + 1) _ [.str ws[i].1 t, .int ws[i].2 t2] c2 (by omega) hlt (Inv.other (t' := s2.toks) I3 aS fun b o nb e => (s1.2 b nb).trans e)
            ⟨oI, (s1.2 it ne).trans gI, hoc, hod⟩ hc2 ?_⟩
          rw [bn]
          show Held (if _ then _ else _) _
          rw [if_pos hgt]
          exact ⟨t, t2, rfl⟩
        · simp only [hgt, decide_false, Bool.false_eq_true, if_false]
          refine wpAny_bind (wpAny_letGo ?_)
          rw [hname]
          refine wpAny_pure ⟨plainId_quiet PySem.F.plain_max_loop _, ih (i + 1) _ [.str p.1 tb, .int p.2 tb'] c (by omega) hlt I3 ⟨oI, gI, hoc, hod⟩ gS ?_⟩
          rw [bn]
          show Held (if _ then _ else _) _
          rw [if_neg hgt]
          exact ⟨tb, tb', rfl⟩
end
end Rm

set_option maxRecDepth 100000
set_option maxHeartbeats 4000000
namespace Rm
open PySem PySem.Spec L2
open PyProof.Rows hiding St
/-- max(ws, key=rank, default=None): the first of the greatest, or None -/
def rMaxW (K : PySem.W.Frag) (q : Addr) : List V → List V → Hp → VK → Prop := fun vs zs H Q => ∃ l ws, vs = [.ref l] ∧ zs = [.ref q, .non] ∧
  SqL K H l (ws.map fun p : Str × Int => V.str p.1) ∧ (∀ p ∈ ws, rkS p.1 = some p.2) ∧ Q (bestV ws) H
theorem call_maxW {X : Cx} {q : Addr} {fd : FuncData} (F0 : FnG X.prog X.w X.K X.mg X.base CX0 1 q fd ["word"] spRank) (hb : Binds X.K fd ["word"] []) (hr : Room 2 X.A) (hG : Gd X.A)
    (hc : X.calm = true) : CallRK X (.builtin "max") ["key", "default"] (rMaxW X.K q) := by
  have hname : (toString "max" ++ toString ".loop" : String) = "max.loop" := by decide
  intro pins s σ H vs us zs ws Q I r rz h
  obtain ⟨l, ps, rfl, rfl, hl, hw, hQ⟩ := h
  rw [Vals.ref1 r]
  obtain ⟨w1, w2, rfl, r1, r2⟩ := vals2 rz
  cases r1
  cases r2
  obtain ⟨its, rv, hls, _⟩ := I.list hl
  show wpAny _ X.A (call (.builtin "max") [.ref l] [(Str.ofString "key", .ref q), (Str.ofString "default", .none)]) _ _ s
  refine kmk_tree PySem.F.kind_max PySem.F.plain_max PySem.F.entry_max (max_args _ _ _) ?_
  show wpAny _ X.A.in1 (Builtin.Builtins.bindParams "max" ["key", "default"] 0 ⟨[], [(Str.ofString "key", .ref q), (Str.ofString "default", .none)]⟩ >>= _) _ _ s
  refine wpAny_bind (wpAny_of_eq (show Builtin.Builtins.bindParams "max" ["key", "default"] 0 ⟨[], [(Str.ofString "key", .ref q), (Str.ofString "default", .none)]⟩ = pure [some (.ref q), some .none] from rfl) ?_)
  refine wpAny_bind (wpAny_pure ?_)
  refine wpAny_bind (wpAny_pyIter_list hls.isList ?_)
  refine wpAny_bind (wpAny_newList ?_ (Nat.zero_le _))
  rw [hname]
  refine wpAny_pure ⟨plainId_quiet PySem.F.plain_max_loop _, ?_⟩
  have hS : (s.heap.push { cls := .type "list_iterator", data := .fields #[.ref l, .int 0 0] }).objs.size = s.heap.objs.size + 1 := size_push' ..
  have I1 : Inv X pins σ H { s with heap := s.heap.push { cls := .type "list_iterator", data := .fields #[.ref l, .int 0 0] } } :=
    I.kept (t' := s.toks) fun b o e => Heap.get?_push_of_some _ e
  have I2 : Inv X pins σ H { s with heap := (s.heap.push { cls := .type "list_iterator", data := .fields #[.ref l, .int 0 0] }).push (seqObj "list" #[] 0) } :=
    I1.kept (t' := s.toks) fun b o e => Heap.get?_push_of_some _ e
  have gI : ((s.heap.push { cls := .type "list_iterator", data := .fields #[.ref l, .int 0 0] }).push (seqObj "list" #[] 0)).get? s.heap.objs.size =
      some { cls := .type "list_iterator", data := .fields #[.ref l, .int 0 0] } := Heap.get?_push_of_some _ (Heap.get?_push_size _ rfl)
  have gS : ((s.heap.push { cls := .type "list_iterator", data := .fields #[.ref l, .int 0 0] }).push (seqObj "list" #[] 0)).get?
      (s.heap.push { cls := .type "list_iterator", data := .fields #[.ref l, .int 0 0] }).objs.size = some (seqObj "list" #[] 0) := Heap.get?_push_size _ rfl
  refine max_loop F0 hb hr hG (I.ok.hd hc) hw hl (Apart.new I (Nat.le_refl _)) (Apart.new I (by rw [hS]; exact Nat.le_succ _)) (by rw [hS]; exact Nat.ne_of_lt (Nat.lt_succ_self _))
    (fun u s' J ru => ?_) _ 0 _ [] 0 rfl (Nat.zero_le _) I2 ⟨_, gI, rfl, rfl⟩ gS rfl
  exact ⟨bestV ps, H, J, ru, hQ⟩
end Rm

set_option maxRecDepth 100000
set_option maxHeartbeats 4000000
namespace Rm
open PySem PySem.Spec L2
open PyProof.Rows hiding St

/-! ### xs[::-1] -/
def tRevL (K : PySem.W.Frag) (te ts : TE) : TE := fun σ H Q => te σ H fun x H1 => ts σ H1 fun y H2 => y = .int (-1) ∧ ∃ a xs, x = .ref a ∧ SqL K H2 a xs ∧
  ∀ p, H2 p = none → Q (.ref p) (upd H2 p (.lst xs.reverse))
theorem pe_rev {X : Cx} {e st : Expr} {te ts : TE} {p2 pos : Pos} (he : PE X e te) (hst : PE X st ts) :
    PE X (.Subscript e (.Slice none none (some st) p2) pos) (tRevL X.K te ts) := by
  refine ⟨fun pins s σ H Q I h => ?_⟩
  refine Subscript_ (thn (he.run pins s σ H _ I h) fun v s1 hh => ?_)
  obtain ⟨x, H1, I1, r1, q1⟩ := hh
  refine wpAny_Slice ?_
  rw [evalPart_none]
  refine wpAny_pure (wpAny_pure ?_)
  rw [evalPart_some]
  refine thn (hst.run pins s1 σ H1 _ I1 q1) fun vs s3 hh => ?_
  obtain ⟨y, H3, I3, ry, ey, a, xs, ex, hl, q⟩ := hh
  subst ey
  subst ex
  cases r1
  obtain ⟨t, rfl⟩ := ry
  have I4 : Inv X pins σ H3 { s3 with heap := s3.heap.push { cls := .type "slice", data := .fields #[.none, .none, .int (-1) t] } } :=
    I3.kept (t' := s3.toks) fun b ob q => Heap.get?_push_of_some _ q
  obtain ⟨its, r, ht, hz⟩ := I4.list hl
  have hlen := r.length
  show wpAny (model X.prog X.w) X.A (subscriptTail e (.Slice none none (some st) p2) (.ref a) (.ref s3.heap.objs.size)) (EP X pins σ Q) X.xe { s3 with heap := s3.heap.push { cls := .type "slice", data := .fields #[.none, .none, .int (-1) t] } }
  refine tail_any (ops := [.ref a, .ref s3.heap.objs.size]) ht.isList.typeIs slot_list_getitem.lookup ?_ rfl
  refine wpAny_getItem_list_slice ht.isList (Heap.IsSliceOf.new ..) .none .none (.int (-1) t) (by decide) ?_ (by rw [List.size_toArray] <;> omega)
  rw [PySem.W.krv_pick]
  refine ⟨.ref _, _, I4.laid (t' := s3.toks) (o := .lst xs.reverse) (fun b ob q => Heap.get?_push_of_some _ q) (Nat.le_refl _) ?_, rfl, q _ (I4.hok.fresh (Nat.le_refl _))⟩
  exact ⟨by rw [List.length_reverse]; omega, _, 0, r.reverse, Heap.get?_push_size _ rfl⟩

/-! ### walks -/
theorem for_enum {K : PySem.W.Frag} {a : Addr} {xs : List V} {g : TG} {tb : TS} {D : Ends} {σ : L2.St} {H : Hp} (Pv : Nat → L2.St → Hp → Prop)
    (h0 : Pv 0 σ H) (hl : ∀ i σ H, i ≤ xs.length → Pv i σ H → SqL K H a xs)
    (hs : ∀ i x T σ H, xs[i]? = some x → Pv i σ H → H T = none → g (.ref T) σ (upd H T (.tup [.int (i : Nat), x])) fun σ2 H2 => tb { D with nx := Pv (i + 1), ct := Pv (i + 1), bk := D.nx } σ2 H2)
    (hd : ∀ σ H, Pv xs.length σ H → D.nx σ H) :
    ∃ W : Nat → Nat → L2.St → Hp → Prop, (∃ m, W 0 m σ H) ∧ ∀ i m σ H, W i m σ H →
      ((Ite K a).stop i H ∧ D.nx σ H) ∨ ((Ite K a).go i H ∧ ∃ N : L2.St → Hp → Prop, (∀ σ' H', N σ' H' → ∃ m', m' < m ∧ W (i + 1) m' σ' H') ∧
        ∀ x H', (Ite K a).yld i H x H' → g x σ H' fun σ2 H2 => tb { D with nx := N, ct := N, bk := D.nx } σ2 H2) := by
  refine ⟨fun i m σ H => m = xs.length - i ∧ i ≤ xs.length ∧ Pv i σ H, ⟨xs.length, by simp, Nat.zero_le _, h0⟩, ?_⟩
  rintro i m σ H ⟨rfl, hi, p⟩
  have q := hl i σ H hi p
  by_cases hlt : i < xs.length
  · refine .inr ⟨⟨xs, xs[i], q, List.getElem?_eq_getElem hlt⟩, Pv (i + 1), fun σ' H' p' => ⟨xs.length - (i + 1), by omega, rfl, hlt, p'⟩, fun v H' y => ?_⟩
    obtain ⟨T, x, rfl, nT, rfl, e⟩ := y
    exact hs i x T σ _ (e xs q) p nT
  · have e : i = xs.length := by omega
    subst e
    exact .inl ⟨⟨xs, q, Nat.le_refl _⟩, hd σ H p⟩
theorem lc_range {lo : Int} {n : Nat} {g : TG} {tt : TT} {te : TE} {vs : List Nat} {σ : L2.St} {H1 : Hp} {D : Addr} {Qd : Hp → Prop} (Pv : Nat → Hp → Prop)
    (h0 : Pv 0 (upd H1 D (.lst [])))
    (hs : ∀ i H, i < n → Pv i H → g (.int (lo + (i : Nat))) (wipe σ vs) H fun σ2 H2 => wipe σ2 vs = wipe σ vs ∧ tt σ2 H2 fun b H3 =>
      if b = true then te σ2 H3 fun y H4 => ∃ acc, H4 D = some (.lst acc) ∧ acc.length < sizeLine ∧ Pv (i + 1) (upd H4 D (.lst (acc ++ [y]))) else Pv (i + 1) H3)
    (hd : ∀ H, Pv n H → Qd H) :
    ∃ W : Nat → Nat → Hp → Prop, (∃ m, W 0 m (upd H1 D (.lst []))) ∧ ∀ i m H, W i m H →
      ((Itr lo n).stop i H ∧ Qd H) ∨ ((Itr lo n).go i H ∧ ∃ Nx : Hp → Prop, (∀ H', Nx H' → ∃ m', m' < m ∧ W (i + 1) m' H') ∧ ∀ x H', (Itr lo n).yld i H x H' →
        g x (wipe σ vs) H' fun σ2 H2 => wipe σ2 vs = wipe σ vs ∧ tt σ2 H2 fun b H3 =>
          if b = true then te σ2 H3 fun y H4 => ∃ acc, H4 D = some (.lst acc) ∧ acc.length < sizeLine ∧ Nx (upd H4 D (.lst (acc ++ [y]))) else Nx H3) := by
  refine ⟨fun i m H => m = n - i ∧ i ≤ n ∧ Pv i H, ⟨n, by simp, Nat.zero_le _, h0⟩, ?_⟩
  rintro i m H ⟨rfl, hi, p⟩
  by_cases hlt : i < n
  · refine .inr ⟨hlt, Pv (i + 1), fun H' p' => ⟨n - (i + 1), by omega, rfl, hlt, p'⟩, fun x H' y => ?_⟩
    obtain ⟨e, y⟩ := y
    subst e y
    exact hs i _ hlt p
  · have e : i = n := by omega
    subst e
    exact .inl ⟨Nat.le_refl _, hd H p⟩

/-! ### what the modes' comparing defs keep -/
/-- two modes, their ranks -/
def spTwo (C : Addr) (r : Addr → Int → Addr → Int → V) : Sp := fun vs H Q _ => ∃ a dx z i b dy z' j, vs = [.ref a, .ref b] ∧ H a = some (mdO C dx z) ∧ H b = some (mdO C dy z') ∧
  rkS z = some i ∧ rkS z' = some j ∧ Q (r a i b j) H
def spWk (C : Addr) : Sp := spTwo C fun _ i _ j => .bl (decide (i < j))
def spCl (C : Addr) : Sp := spTwo C fun _ i _ j => .bl (decide (i + j ≥ 5))
def spOr (C : Addr) : Sp := spTwo C fun a i b j => if i < j then .ref b else .ref a
def spStr (K : PySem.W.Frag) : Sp := fun vs H Q _ => ∃ l ws, vs = [.ref l] ∧ SqL K H l (ws.map fun p : Str × Int => V.str p.1) ∧ (∀ p ∈ ws, rkS p.1 = some p.2) ∧ Q (bestV ws) H
/-- the grades are right -/
def spGr (K : PySem.W.Frag) : Sp := fun vs H Q _ => ∃ g, vs = [.ref g] ∧ SqL K H g rkV ∧ ∀ H', Same H H' → Q (.bl true) H'
theorem rk_at {i : Nat} {x : V} (h : rkV[i]? = some x) : ∃ z, x = .str z ∧ rkS z = some ((i : Int) + 1) ∧ i < 4 := by
  match i, h with
  | 0, h => cases h; exact ⟨_, rfl, rfl, by decide⟩
  | 1, h => cases h; exact ⟨_, rfl, rfl, by decide⟩
  | 2, h => cases h; exact ⟨_, rfl, rfl, by decide⟩
  | 3, h => cases h; exact ⟨_, rfl, rfl, by decide⟩
  | n + 4, h => cases h
theorem sm3 (a b c : Bool) : Sm (.list [.bool a, .bool b, .bool c]) := by
  cases a <;> cases b <;> cases c <;> exact Sm.of (by decide +kernel)
theorem eqv2 (a b : Bool) : SeqAt.shaped (.list [.bool a, .bool b]) = true ∧ PyData.eqv (.list [.bool a, .bool b]) (.list [.bool a, .bool b]) = true := by
  cases a <;> cases b <;> exact ⟨by decide +kernel, by decide +kernel⟩
theorem kit_self {K : PySem.W.Frag} {C : Addr} : PySem.W.kitOne K (.ref C) (.ref C) = some true := by
  unfold PySem.W.kitOne
  rw [if_pos (by simp)]
theorem rk_ge {i : Nat} {z : Str} {H : Hp} {n : Int} (h : rkV[i]? = some (.str z)) (e : n = i) : atI rkV n = some (V.str z) := by
  subst e
  exact atI_nat h
theorem cut2 (a b c : V) : cutV [a, b, c] none (some 2) = [a, b] := by
  unfold cutV
  rfl
/-! ### modes made and joined -/
/-- the reading gives a mode of the word z, rank n -/
def MdR (C : Addr) (t : TE) (σ : L2.St) (z : Str) (n : Int) : Prop :=
  rkS z = some n ∧ ∀ (H : Hp) (Q : VK), (∀ a dx H', Same H H' → H' a = some (mdO C dx z) → Q (.ref a) H') → t σ H Q
theorem md_make {K : PySem.W.Frag} {C : Addr} {σ : L2.St} {z : Str} {n : Int} {i : Nat} (hi : σ[i]? = some (some (.str z))) (hz : rkS z = some n) :
    MdR C (tMake C (spModeQ K C) [] E0 (tCons (tVar i) tNil)) σ z n := by
  refine ⟨hz, fun H Q h => ⟨_, hi, fun x dx nx nd ne => ⟨x, dx, z, n, rfl, upd_same, hz, rfl, ?_⟩⟩⟩
  rw [upd_upd]
  exact h x dx _ (same_two nd nx ne) upd_same
theorem md_or {C : Addr} {tA tB : TE} {σ : L2.St} {z z' : Str} {n n' : Int} (A : MdR C tA σ z n) (B : MdR C tB σ z' n') :
    MdR C (tOp (rOwnOr C (spOr C)) tA tB) σ (if n < n' then z' else z) (if n < n' then n' else n) := by
  obtain ⟨hz, hA⟩ := A
  obtain ⟨hz', hB⟩ := B
  refine ⟨by split <;> assumption, fun H Q h => hA H _ fun a dx H1 s1 ha => hB H1 _ fun b dy H2 s2 hb => ?_⟩
  refine ⟨a, dx, _, b, dy, _, rfl, s2 _ _ ha, rfl, hb, a, dx, z, n, b, dy, z', n', rfl, s2 _ _ ha, hb, hz, hz', ?_⟩
  dsimp only
  by_cases e : n < n'
  · simp only [e, if_true] at h ⊢
    exact ⟨⟨b, rfl⟩, h b dy H2 (s1.trans s2) hb⟩
  · simp only [e, if_false] at h ⊢
    exact ⟨⟨a, rfl⟩, h a dx H2 (s1.trans s2) (s2 _ _ ha)⟩
theorem asg_md {C : Addr} {te : TE} {B : TS} {D : Ends} {σ : L2.St} {H : Hp} {i : Nat} {z : Str} {n : Int} (M : MdR C te σ z n)
    (h : ∀ a dx H', Same H H' → H' a = some (mdO C dx z) → B D (σ.set i (some (.ref a))) H') : tSeq (tAsg te (gName i)) B D σ H :=
  M.2 H _ fun a dx H' s e => h a dx H' s e
theorem rk_inj {z z' : Str} {n : Int} (h : rkS z = some n) (h' : rkS z' = some n) : z = z' := by
  rcases rk_word (d := .str z) h with q | q | q | q <;> rcases rk_word (d := .str z') h' with q' | q' | q' | q' <;> (cases q; cases q') <;> rfl
theorem rk_ix {z : Str} {m : Int} (h : rkS z = some (m + 1)) : atI rkV m = some (V.str z) := by
  rcases rk_word (d := .str z) h with q | q | q | q
  all_goals (obtain ⟨q1, q2⟩ := Prod.mk.inj q; cases q1)
  · have e : m = (0 : Nat) := by omega
    subst e; exact atI_nat (xs := rkV) (j := 0) rfl
  · have e : m = (1 : Nat) := by omega
    subst e; exact atI_nat (xs := rkV) (j := 1) rfl
  · have e : m = (2 : Nat) := by omega
    subst e; exact atI_nat (xs := rkV) (j := 2) rfl
  · have e : m = (3 : Nat) := by omega
    subst e; exact atI_nat (xs := rkV) (j := 3) rfl
end Rm

set_option maxRecDepth 100000
set_option maxHeartbeats 4000000
namespace Rm
open PySem PySem.Spec L2
open PyProof.Rows hiding St

/-! ### the strongest of drawn words -/
theorem fold_none : ∀ (ws : List (Str × Int)) (b : Option (Str × Int)), ws.foldl better b = none → b = none ∧ ws = []
  | [], b, h => ⟨h, rfl⟩
  | x :: r, b, h => by
    have h2 := (fold_none r (better b x) h).1
    cases b with
    | none => cases h2
    | some q =>
      simp only [better] at h2
      split at h2 <;> cases h2
theorem fold_some : ∀ (ws : List (Str × Int)) (b : Option (Str × Int)) (p : Str × Int), ws.foldl better b = some p →
    (p ∈ ws ∨ b = some p) ∧ (∀ q ∈ ws, q.2 ≤ p.2) ∧ ∀ q, b = some q → q.2 ≤ p.2
  | [], b, p, h => by
    have h : b = some p := h
    refine ⟨.inr h, fun _ z => (by cases z), fun q e => ?_⟩
    rw [e] at h
    cases h
    exact Int.le_refl _
  | x :: r, b, p, h => by
    obtain ⟨h1, h2, h3⟩ := fold_some r (better b x) p h
    cases b with
    | none =>
      have hx := h3 x rfl
      refine ⟨.inl ?_, fun q hq => ?_, fun q e => (by cases e)⟩
      · rcases h1 with h1 | h1
        · exact List.mem_cons_of_mem _ h1
        · cases h1; exact List.mem_cons_self ..
      · rcases List.mem_cons.mp hq with e | hq
        · rw [e]; exact hx
        · exact h2 q hq
    | some y =>
      simp only [better] at h1 h3
      by_cases c : x.2 > y.2
      · rw [if_pos c] at h1 h3
        have hx := h3 x rfl
        refine ⟨.inl ?_, fun q hq => ?_, fun q e => ?_⟩
        · rcases h1 with h1 | h1
          · exact List.mem_cons_of_mem _ h1
          · cases h1; exact List.mem_cons_self ..
        · rcases List.mem_cons.mp hq with e | hq
          · rw [e]; exact hx
          · exact h2 q hq
        · cases e; omega
      · rw [if_neg c] at h1 h3
        have hy := h3 y rfl
        refine ⟨?_, fun q hq => ?_, fun q e => ?_⟩
        · rcases h1 with h1 | h1
          · exact .inl (List.mem_cons_of_mem _ h1)
          · exact .inr h1
        · rcases List.mem_cons.mp hq with e | hq
          · rw [e]; omega
          · exact h2 q hq
        · cases e; exact hy
theorem best_cases (ws : List (Str × Int)) : (ws = [] ∧ bestV ws = .non) ∨ ∃ p ∈ ws, bestL ws = some p ∧ bestV ws = .str p.1 ∧ ∀ q ∈ ws, q.2 ≤ p.2 := by
  cases h : bestL ws with
  | none => exact .inl ⟨(fold_none ws none h).2, by unfold bestV; rw [h]⟩
  | some p =>
    obtain ⟨h1, h2, _⟩ := fold_some ws none p h
    rcases h1 with h1 | h1
    · exact .inr ⟨p, h1, rfl, by unfold bestV; rw [h], h2⟩
    · cases h1
theorem best_rev {ws : List (Str × Int)} (hw : ∀ p ∈ ws, rkS p.1 = some p.2) : bestV ws.reverse = bestV ws := by
  rcases best_cases ws with ⟨e, h⟩ | ⟨p, hp, _, h, hm⟩
  · subst e; rfl
  · rcases best_cases ws.reverse with ⟨e, h'⟩ | ⟨p', hp', _, h', hm'⟩
    · have := List.reverse_eq_nil_iff.mp e
      subst this
      cases hp
    · rw [h, h']
      have a := hm p' (List.mem_reverse.mp hp')
      have b := hm' p (List.mem_reverse.mpr hp)
      have r1 := hw p hp
      have r2 := hw p' (List.mem_reverse.mp hp')
      have e : p.2 = p'.2 := by omega
      rw [e] at r1
      rw [rk_inj r1 r2]
def strV (ws : List (Str × Int)) : List V := ws.map fun p => V.str p.1
theorem in_yes {ws : List (Str × Int)} {p : Str × Int} (h : p ∈ ws) : inV (.str p.1) (strV ws) = true := by
  unfold inV strV
  rw [List.any_eq_true]
  exact ⟨.str p.1, List.mem_map.mpr ⟨p, h, rfl⟩, by simp [eqV]⟩
theorem in_no {ws : List (Str × Int)} {z : Str} (h : ∀ q ∈ ws, q.1 ≠ z) : inV (.str z) (strV ws) = false := by
  unfold inV strV
  rw [List.any_eq_false]
  intro v hv
  obtain ⟨q, hq, rfl⟩ := List.mem_map.mp hv
  simp [eqV]
  exact h q hq
def dueStep (xs : List V) (d g : V) : V := if inV g xs = true then g else d
def dueOf (gs xs : List V) : V := gs.foldl (dueStep xs) .non
theorem due_next {xs : List V} {i : Nat} {x : V} (e : rkV[i]? = some x) : dueOf (rkV.take (i + 1)) xs = dueStep xs (dueOf (rkV.take i) xs) x := by
  unfold dueOf
  rw [List.take_succ, e, List.foldl_append]
  rfl
theorem due_best {ws : List (Str × Int)} (hw : ∀ p ∈ ws, rkS p.1 = some p.2) : dueOf rkV (strV ws) = bestV ws := by
  show dueStep (strV ws) (dueStep (strV ws) (dueStep (strV ws) (dueStep (strV ws) .non (.str "hold")) (.str "keep")) (.str "change")) (.str "replace") = _
  rcases best_cases ws with ⟨e, h⟩ | ⟨p, hp, _, h, hm⟩
  · subst e; rw [h]; rfl
  · rw [h]
    have hi := in_yes hp
    have no : ∀ {z : Str} {n : Int}, rkS z = some n → p.2 < n → inV (.str z) (strV ws) = false := fun {z n} hz hn => in_no fun q hq e => by
      have r := hw q hq
      rw [e, hz] at r
      have := hm q hq
      cases r
      omega
    obtain ⟨w, n⟩ := p
    rcases rk_word (d := .str w) (hw _ hp) with e | e | e | e <;> cases e
    · unfold dueStep
      rw [no (z := "replace") (n := 4) rfl (by show (1 : Int) < 4; decide), no (z := "change") (n := 3) rfl (by show (1 : Int) < 3; decide), no (z := "keep") (n := 2) rfl (by show (1 : Int) < 2; decide)]
      rw [show inV (.str "hold") (strV ws) = true from hi]
      rfl
    · unfold dueStep
      rw [no (z := "replace") (n := 4) rfl (by show (2 : Int) < 4; decide), no (z := "change") (n := 3) rfl (by show (2 : Int) < 3; decide)]
      rw [show inV (.str "keep") (strV ws) = true from hi]
      rfl
    · unfold dueStep
      rw [no (z := "replace") (n := 4) rfl (by show (3 : Int) < 4; decide)]
      rw [show inV (.str "change") (strV ws) = true from hi]
      rfl
    · unfold dueStep
      rw [show inV (.str "replace") (strV ws) = true from hi]
      rfl
def bestD (ws : List (Str × Int)) : PyData := match bestL ws with
  | none => .none
  | some p => .str p.1
theorem best_dx {K : PySem.W.Frag} {H : Hp} (ws : List (Str × Int)) : Dx K H (bestV ws) (bestD ws) := by
  unfold bestV bestD
  cases bestL ws with
  | none => exact .non
  | some p => exact .str _
theorem best_sm {ws : List (Str × Int)} (hw : ∀ p ∈ ws, rkS p.1 = some p.2) : Sm (bestD ws) := by
  rcases best_cases ws with ⟨e, h⟩ | ⟨p, hp, h, _, _⟩
  · subst e; exact Sm.of (by decide +kernel)
  · unfold bestD
    rw [h]
    rcases rk_word (d := .str p.1) (hw _ hp) with e | e | e | e <;> (obtain ⟨e1, _⟩ := Prod.mk.inj e; show Sm (.str p.1); rw [e1]; exact Sm.of (by decide +kernel))
def strD (ws : List (Str × Int)) : PyData := .list (ws.map fun p => .str p.1)
theorem str_all {K : PySem.W.Frag} {H : Hp} : ∀ ws : List (Str × Int), DpAll K H (strV ws) (ws.map fun p => .str p.1)
  | [] => .nil
  | p :: r => .cons (.str _) (str_all r)
theorem str_lay : ∀ {ws : List (Str × Int)}, (∀ p ∈ ws, rkS p.1 = some p.2) → PyData.canLayAll0 (ws.map fun p => PyData.str p.1) = true ∧ PyData.depthAll (ws.map fun p => PyData.str p.1) = 0
  | [], _ => ⟨by simp [PyData.canLayAll0], by simp [PyData.depthAll]⟩
  | p :: r, h => by
    obtain ⟨h1, h2⟩ := str_lay (ws := r) fun q hq => h q (List.mem_cons_of_mem _ hq)
    have hp : PyData.canLay0 (.str p.1) = true := by
      rcases rk_word (d := .str p.1) (h p (List.mem_cons_self ..)) with e | e | e | e <;> (obtain ⟨e1, _⟩ := Prod.mk.inj e; rw [e1]; decide +kernel)
    refine ⟨?_, ?_⟩
    · simp only [List.map_cons, PyData.canLayAll0, hp, h1, Bool.true_and]
    · simp only [List.map_cons, PyData.depthAll, PyData.depth, h2, Nat.max_self]
theorem str_shaped {ws : List (Str × Int)} (h : ∀ p ∈ ws, rkS p.1 = some p.2) : SeqAt.shaped (strD ws) = true := by
  obtain ⟨h1, h2⟩ := str_lay h
  unfold SeqAt.shaped strD
  simp only [PyData.canLay0, PyData.depth, h1, h2]
  decide
theorem pool_at {k : Int} (h0 : 0 ≤ k) (h1 : k < 4) : 1 ≤ (cutV rkV none (some (1 + k))).length ∧ (cutV rkV none (some (1 + k))).length ≤ 4 ∧
    ∀ (i : Nat) (v : V), (cutV rkV none (some (1 + k)))[i]? = some v → ∃ z n, v = V.str z ∧ rkS z = some n := by
  refine ⟨?_, Nat.le_trans (cutV_length _ _ _) (by decide), fun i v h => ?_⟩
  · have : k = 0 ∨ k = 1 ∨ k = 2 ∨ k = 3 := by omega
    rcases this with e | e | e | e <;> (subst e; decide +kernel)
  · have m := List.mem_of_getElem? h
    unfold cutV at m
    have m2 := List.mem_of_mem_drop (List.mem_of_mem_take m)
    obtain ⟨j, hj, e⟩ := List.getElem_of_mem m2
    exact rk_str (i := j) (by rw [← e]; exact List.getElem?_eq_getElem hj)
end Rm

set_option maxRecDepth 100000
set_option maxHeartbeats 4000000
namespace Rm
open PySem PySem.Spec L2
open PyProof.Rows hiding St

/-! ### an own error made by one keyword -/
section
variable {P : Program} {w : World} {A : Around} {EX : Value → Shared → Prop} {hp : Heap} {gs : Array GenState} {dr : Drawn} {tk : Nat} {os : OsState}
variable {nm qn : Str} {C NS f : Addr} {bs bm : List Value} {sn : List Str} {sub : List Value} {ab : Bool} {col : Option Bool} {dd : Option Addr}
variable {j0 j1 j2 j3 j5 : Option Value} {y : Str} {u : Value}
/-- the class's own object -/
def ErO (C : Addr) (hp : Heap) (bm : List Value) : Prop :=
  ∃ nm qn NS bs sn sub ab col dd j0 j1 j2 j3 j5,
    hp.get? C = some (excClassObj nm qn C NS bs bm true sn sub ab col dd j0 j1 j2 j3 j5 "ValueError.__new__") ∧ PySem.HandSPX.refsVE bm = true
theorem kw_check {Q : Unit → Shared → Prop} (hC : hp.get? C = some (excClassObj nm qn C NS bs bm true sn sub ab col dd j0 j1 j2 j3 j5 "ValueError.__new__"))
    (hbm : PySem.HandSPX.refsVE bm = true) (z : Q () ⟨hp, gs, dr, tk, os⟩) :
    wpAny (model P w) A (checkBuiltinCall "ValueError.__new__" ⟨[.ref C], [(y, u)]⟩) Q EX ⟨hp, gs, dr, tk, os⟩ := by
  have c1 : (Value.ref C :: bm).contains (.type "ValueError") = true := by
    rw [List.contains_cons, PySem.HandSPX.refsVE_contains "ValueError" bm hbm, F.excBase_ValueError.hasB, Bool.or_true]
  have st := F.excBase_ValueError.noStar
  simp only [checkBuiltinCall, F.excBase_ValueError.newKind, F.excBase_ValueError.newSplit, F.excBase_ValueError.newRow]
  repeat (first
    | refine wpAny_loadPart_at hC ?_
    | (refine wpAny_isSubtype_exc hC ?_; rw [c1])
    | refine wpAny_staticBase_exc hC ?_
    | refine wpAny_madeBy_exc hC ?_
    | simp only [bne_self_eq_false, Bool.false_eq_true, if_false]
    | wp_step)
  exact z
theorem kw_new {R : Result → Shared → Prop} (hC : hp.get? C = some (excClassObj nm qn C NS bs bm true sn sub ab col dd j0 j1 j2 j3 j5 "ValueError.__new__"))
    (hbm : PySem.HandSPX.refsVE bm = true)
    (z : R (.ok (.ret (.ref (hp.objs.size + 1)))) ⟨(hp.push (PySem.W.kdv_tup [])).push (PySem.HandSPX.excO C hp.objs.size), gs, dr, tk, os⟩) :
    codeAny (model P w) A (.builtin "ValueError.__new__" ⟨[.ref C], [(y, u)]⟩) R ⟨hp, gs, dr, tk, os⟩ := by
  have has : ∀ (X : String) (b : Bool), PySem.HandSPX.veTail.contains (.type X) = b → (Value.ref C :: bm).contains (.type X) = b := fun X b e => by
    rw [List.contains_cons, PySem.HandSPX.refsVE_contains X bm hbm, e]
    rfl
  have c1 := has "ValueError" true F.excBase_ValueError.hasB
  have c2 := has "AttributeError" false F.excBase_ValueError.noAttr
  have c3 := has "NameError" false F.excBase_ValueError.noName
  have en := F.excBase_ValueError.ends
  refine codeAny_builtinAt F.excBase_ValueError.entry ?_
  unfold Builtin.«BaseException.__new__»
  refine PySem.wpAt_bind ?_
  show PySem.wpAt _ _ _ (stack >>= _) _ _ _
  refine PySem.wpAt_bind (PySem.wpAt_stack fun p below => PySem.wpAt_of_wpAny ?_)
  wp_walk
  refine PySem.wpAt_of_wpAny ?_
  rw [F.excBase_ValueError.owner]
  repeat (first
    | with_reducible refine wpAny_madeHere_exc F.excBase_ValueError.canon hC ?_
    | with_reducible refine wpAny_loadPart_at hC ?_
    | (with_reducible refine wpAny_isSubtype_exc hC ?_; first | rw [c1] | rw [c2] | rw [c3])
    | wp_step)
  show R _ _
  rw [Heap.size_push]
  exact z
theorem kw_type {Q : Fin → Shared → Prop} (hC : hp.get? C = some (excClassObj nm qn C NS bs bm true sn sub ab col dd j0 j1 j2 j3 j5 "ValueError.__new__"))
    (hbm : PySem.HandSPX.refsVE bm = true)
    (hi : PySem.W.Looks (model P w) hp (typeLookup (.ref C) "__init__") (some (.ref f))) (hb : ∀ self, PySem.W.Looks (model P w) hp (bindSpecial (.ref f) self) (.ref f, [self]))
    (z : codeAny (model P w) A (.call (.ref f) ⟨[.ref (hp.objs.size + 1)], [(y, u)]⟩)
      (fun r s' => match r with
        | .ok (.ret v) => v = .none ∧ Q (.done (.ret (.ref (hp.objs.size + 1)))) s'
        | .ok _ => False
        | .error e => EX e s')
      ⟨(hp.push (PySem.W.kdv_tup [])).push (PySem.HandSPX.excO C hp.objs.size), gs, dr, tk, os⟩) :
    wpAny (model P w) A (Builtin.«type.__call__» ⟨[.ref C], [(y, u)]⟩) Q EX ⟨hp, gs, dr, tk, os⟩ := by
  repeat (first
    | with_reducible refine wpAny_loadPart_at hC ?_
    | with_reducible refine wpAny_madeBy_exc hC ?_
    | wp_step)
  refine codeAny_call_builtin_code (Code.quiet_builtin _ F.excBase_ValueError.quiet) (kw_check hC hbm ?_)
  refine kw_new hC hbm ?_
  show wpAny _ _ _ _ _ _
  have up : ∀ b o, hp.get? b = some o → ((hp.push (PySem.W.kdv_tup [])).push (PySem.HandSPX.excO C hp.objs.size)).get? b = some o :=
    fun b o e => Heap.get?_push_of_some _ (Heap.get?_push_of_some _ e)
  have hC1 := up _ _ hC
  have hE : ((hp.push (PySem.W.kdv_tup [])).push (PySem.HandSPX.excO C hp.objs.size)).get? (hp.objs.size + 1) = some (PySem.HandSPX.excO C hp.objs.size) := by
    heap_get
  have cC : (Value.ref C :: bm).contains (.ref C) = true := by simp
  unfold isInstance
  repeat (first
    | with_reducible refine wpAny_loadPart_at hE ?_
    | (with_reducible refine wpAny_isSubtype_exc hC1 ?_; rw [cC])
    | wp_step)
  show wpAny _ _ (typeLookup (.ref C) _) _ _ _
  refine (hi.keeps up).at ?_
  refine wpAny_holding (wpAny_bind (((hb (.ref (hp.objs.size + 1))).keeps up).at ?_))
  refine wpAny_bind (wpAny_call (codeAny_mono z fun r s' q => ?_))
  match r, q with
  | .error e, q => exact q
  | .ok .next, q => exact q.elim
  | .ok .brk, q => exact q.elim
  | .ok .cont, q => exact q.elim
  | .ok (.ret v), ⟨e, q⟩ =>
    subst e
    first
      | exact wpAny_pure (wpAny_pure q)
      | (wp_walk; exact q)
theorem kw_call {R : Result → Shared → Prop} (hC : hp.get? C = some (excClassObj nm qn C NS bs bm true sn sub ab col dd j0 j1 j2 j3 j5 "ValueError.__new__"))
    (hbm : PySem.HandSPX.refsVE bm = true)
    (hi : PySem.W.Looks (model P w) hp (typeLookup (.ref C) "__init__") (some (.ref f))) (hb : ∀ self, PySem.W.Looks (model P w) hp (bindSpecial (.ref f) self) (.ref f, [self]))
    (z : codeAny (model P w) (A.under (.builtin "type.__call__" ⟨[.ref C], [(y, u)]⟩)) (.call (.ref f) ⟨[.ref (hp.objs.size + 1)], [(y, u)]⟩) (PySem.W.InitBack (hp.objs.size + 1) R)
      ⟨(hp.push (PySem.W.kdv_tup [])).push (PySem.HandSPX.excO C hp.objs.size), gs, dr, tk, os⟩) :
    codeAny (model P w) A (.call (.ref C) ⟨[], [(y, u)]⟩) R ⟨hp, gs, dr, tk, os⟩ := by
  have l1 := tc_lookup
  have l2 := tc_bind (.ref C)
  have ty : (⟨hp, gs, dr, tk, os⟩ : Shared).TypeIs (.ref C) "type" := ⟨_, hC, rfl⟩
  refine codeAny_of_tree ?_
  show wpAny _ _ (callAny (.ref C) _) _ _ _
  repeat (any_goals (first
    | assumption
    | with_reducible refine wpAny_loadPart_at hC ?_
    | wp_step))
  refine ⟨rfl, ?_⟩
  refine codeAny_call_builtin_at (Code.quiet_builtin _ (by decide +kernel)) entry_typeCall (wpAny_check_type_call_sub hC (kw_type hC hbm hi hb ?_))
  refine codeAny_mono z fun r s' q => ?_
  rcases r with e | (v | _ | _ | _) <;> exact q
end
/-- the module's name x is an error class whose __init__ may be called by one keyword -/
def ErK (P : Program) (w : World) (K : PySem.W.Frag) (mg : Str → Option Value) (base : Heap) (x : Str) (C : Addr) (y : Str) : Prop :=
  ∃ f fd, mg x = some (.ref C) ∧ OexC K C ∧ PySem.W.findIn K (.ref C) "__init__" = some (some (.ref f)) ∧
    PySem.W.typeIn K (.ref f) = some (.type "function") ∧ PySem.W.keepIn K (.ref C) = true ∧
    Kw1 fd [("self" : Str), y] 1 y ∧ FnG P w K mg base CX0 2 f fd [("self" : Str), y] (spErr K C y)
section
variable {X : Cx} {C : Addr} {y : Str}
theorem bornK {x : Str} {pins : List (Addr × Obj)} {σ : L2.St} {H : Hp} {s : Shared} {v : V} {u : Value} {E : Value → Shared → Prop}
    (D : ErK X.prog X.w X.K X.mg X.base x C y) (hr : Room 3 X.A) (hG : Gd X.A) (I : Inv X pins σ H s) (r : RelV v u) :
    wpAny (model X.prog X.w) X.A (call (.ref C) [] [(y, u)]) (Born X pins σ H s C y v) E s := by
  obtain ⟨f, fd, hm, T, iC, tI, kC, hb, F0⟩ := D
  obtain ⟨nm, q, N, bs, bm, sn, sub, ab, col, dd, k0, k1, k2, k3, k5, lC, hbm⟩ := T.cls
  obtain ⟨hp, g, dr, tk, os⟩ := s
  have one : hp.objs.size ≤ hp.objs.size + 1 := Nat.le_succ _
  have hn : H (hp.objs.size + 1) = none := I.hok.fresh one
  let hp2 := (hp.push (PySem.W.kdv_tup [])).push (PySem.HandSPX.excO C hp.objs.size)
  have kk : ∀ b o, hp.get? b = some o → hp2.get? b = some o := fun b o e =>
    Heap.get?_push_of_some _ (Heap.get?_push_of_some _ e)
  have hget : hp2.get? (hp.objs.size + 1) = some (PySem.HandSPX.excO C hp.objs.size) := by
    show ((hp.push _).push _).get? _ = _
    heap_get
  have I2 := I.laid (t' := tk) (a := hp.objs.size + 1) (o := exo (hp.objs.size + 1) C none) (h' := hp2) kk one (exo_ok hget)
  have both : Vals [V.ref (hp.objs.size + 1), v] [Value.ref (hp.objs.size + 1), u] := .cons rfl (.cons r .nil)
  have hsp : spErr X.K C y [V.ref (hp.objs.size + 1), v] (upd H (hp.objs.size + 1) (exo (hp.objs.size + 1) C none))
      (fun z H2 => z = .non ∧ ∃ d, H d = none ∧ d ≠ hp.objs.size + 1 ∧
        H2 = upd (upd (upd H (hp.objs.size + 1) (exo (hp.objs.size + 1) C none)) d (exd d [(y, v)])) (hp.objs.size + 1) (exo (hp.objs.size + 1) C (some d)))
      (fun _ _ _ => False) :=
    ⟨_, v, rfl, upd_same, fun d n ne => ⟨rfl, d, by rw [upd_ne ne] at n; exact n, ne, rfl⟩⟩
  refine wpAny_call (kw_call (I.kIn _ _ lC) hbm (PySem.W.looks_findIn I.kIn iC) (fun self => PySem.W.bind_fn I.kIn self tI)
    (codeAny_mono (F0.run _ X.stack _ _ ⟨[Value.ref (hp.objs.size + 1)], [(y, u)]⟩ _ _ _ (fun _ _ _ => False)
      (hr.make C [] [(y, u)]) (hG.make C [] [(y, u)]) (I2.env0.make C [] [(y, u)]) (hb.to _ [Value.ref (hp.objs.size + 1)] u rfl) both hsp)
      fun rr s' hq => ?_))
  match rr, hq with
  | .ok (.ret z), ⟨zz, H2, os2, bare2, un2, hok2, rz, ez, d, hd, ne, eH⟩ =>
    subst ez
    subst eH
    exact ⟨rz, ⟨_, d, hp2, rfl, one, hn, hd, ne, kk, un2, hok2, os2, bare2⟩⟩
  | .error er, hq => exact False.elim hq
  | .ok .next, hq => exact False.elim hq
  | .ok .brk, hq => exact False.elim hq
  | .ok .cont, hq => exact False.elim hq
variable {x : Str} {e : Expr} {te : TE} {p pos kpos : Pos}
theorem pe_erK (D : ErK X.prog X.w X.K X.mg X.base x C y) (hr : Room 3 X.A) (hG : Gd X.A) (he : PE X e te) (hg : Gl X x := by rfl)
    (hdb : (x == ("__debug__" : Str)) = false := by decide) : PE X (.Call (.Name x p) [] [⟨some y, e, kpos⟩] pos) (tBorn C y te) := by
  have D' := D
  obtain ⟨f, fd, hm, T, iC, tI, kC, hb, F0⟩ := D'
  constructor
  intro pins s σ H Q I h
  refine wpAny_Call_Name_kw (ld_glob I hg hm ?_ hdb)
  refine PySem.W.callWith_KW0 (first := []) (h₀ := X.base) I.ok.mod.kin kC rfl (thn (kw_one he I (show te σ H _ from h)) fun us s1 hh => ?_) rfl
  obtain ⟨v, u, H1, rfl, I1, ru, v', ev, q⟩ := hh
  cases ev
  refine ⟨I1.kIn, ?_⟩
  refine thn (bornK D hr hG I1 ru) fun u2 s2 B => ?_
  obtain ⟨a, d, hp2, rfl, sz, na, nd, ne, kk, un, hok, ho, hb2⟩ := B.ex
  rw [born_eq ne] at un hok
  refine ⟨.ref a, _, ?_, rfl, q a d na nd ne⟩
  have nha : ∀ {b : Addr} {o : Obj}, s1.heap.get? b = some o → b ≠ a := fun z => Nat.ne_of_lt (Nat.lt_of_lt_of_le (Heap.lt_size z) sz)
  have upn : ∀ {b : Addr}, b ≠ a → H1 b = none → upd H1 a (exo a C none) b = none := fun hb n => by rw [upd_ne hb]; exact n
  have un0 : Un (frs X.stack) [] H1 (upd (upd H1 d (exd d [(y, v)])) a (exo a C (some d))) s1.heap s2.heap := {
    keep := fun b o z n hf hx => un.keep b o (kk b o z) (upn (nha z) n) hf hx
    slot := fun b o z n hf hx => un.slot b o (kk b o z) (upn (nha z) n) hf hx
    free := fun b o z n hx => un.free b o (kk b o z) (upn (nha z) n) hx
    there := fun b o z hx => un.there b o (kk b o z) hx
    tups := fun b xs z => un.tups b xs (by rw [upd_ne (ne_of_none z na)]; exact z)
    frzs := fun b o w z => un.frzs b o w (by rw [upd_ne (ne_of_none z na)]; exact z)
    tbls := fun b ps z => un.tbls b ps (by rw [upd_ne (ne_of_none z na)]; exact z) }
  exact I1.call' (ch := []) ho un0 hok hb2 fun b z => absurd z (by simp)
end
end Rm

set_option maxRecDepth 100000
set_option maxHeartbeats 4000000
namespace Rm
open PySem PySem.Spec L2
open PyProof.Rows hiding St

/-! ### isinstance of a tracked error, its field -/
section
variable {P : Program} {w : World} {A : Around} {E : Value → Shared → Prop} {s : Shared} {K : PySem.W.Frag} {x D : Addr} {ox od : Obj}
theorem ask_class {Q : Option Value → Shared → Prop} (T : ExcC K D) (X : K.In s.heap) (I : PySem.W.InstAt s.heap x ox D (some od))
    (q : Q (some (.ref D)) { s with toks := s.toks + 1 }) : wpAny (model P w) A (getAttr? (.ref x) "__class__") Q E s := by
  have is_cls : (PySem.W.clsIn K D).isSome = true := by
    obtain ⟨cd, z, _⟩ := PySem.W.any_some T.hd
    rw [z]
    rfl
  have found : PySem.W.findObj K D (some od) "__class__" = some (.bind (.builtin "getset_descriptor.__get__") (.builtin "object.__class__")) :=
    PySem.W.findObj_data is_cls T.ha T.hn T.ht
  obtain ⟨hp, gs, dr, tk, os⟩ := s
  have a0 := I.type (M := model P w)
  have a1 := PySem.W.looks_findIn (M := model P w) X T.hg
  have a2 := PySem.W.looks_findIn (M := model P w) X T.hk
  have a3 := PySem.W.looks_find (M := model P w) X I found
  have isB : PySem.W.Looks (model P w) hp (isInstance (.ref x) (.type "BaseException")) true := a0.andThen (PySem.W.looks_subIn X T.hs)
  have n2 : (Value.builtin "BaseException.__getattribute__" == Value.builtin "object.__getattribute__") = false := by
    decide +kernel
  have n1 : (onTheHeap (Value.ref D) && Value.builtin "BaseException.__getattribute__" == Value.builtin "object.__getattribute__") = false := by
    rw [n2]
    rfl
  have n0 : (false && onTheHeap (Value.builtin "BaseException.__getattribute__")) = false := rfl
  unfold getAttr? getAttrBy? getAttrBy
  refine wpAny_bind (wpAny_mkText (wpAny_bind (wpAny_attempt (wpAny_holding (wpAny_bind (a0.at (wpAny_bind (a1.at ?_))))))))
  show wpAny _ _ (if (onTheHeap (Value.ref D) && Value.builtin "BaseException.__getattribute__" == Value.builtin "object.__getattribute__") = true
    then _ else _) _ _ _
  rw [n1, if_neg Bool.false_ne_true]
  unfold getAttrByItsOwn hookBefore
  refine wpAny_bind ?_
  rw [if_pos (show onTheHeap (Value.ref D) = true from rfl)]
  refine a2.at ?_
  refine wpAny_bind (wpAny_attempt (wpAny_holding ?_))
  unfold callGetattribute
  rw [n0, if_neg Bool.false_ne_true]
  unfold boundAndCalled
  rw [PySem.F.excAttr_ValueError.ga.bind (.ref x)]
  refine wpAny_bind (wpAny_pure ?_)
  show wpAny _ _ (call (.builtin "BaseException.__getattribute__")
    [.ref x, .str "__class__" tk]) _ _ _
  refine wpAny_call (codeAny_call_builtin PySem.F.excAttr_ValueError.ga.plain PySem.F.entry_bexc_ga ?_)
  refine @PySem.W.check_slot (model P w) _ _ ⟨hp, gs, dr, tk + 1, os⟩
    "BaseException.__getattribute__" "BaseException" "__getattribute__" (.ref x) [.str "__class__" tk] [] _
    (by decide +kernel) (by decide +kernel) isB (PySem.F.args_bexc_ga (.ref x) (.str "__class__" tk)) ?_
  unfold Builtin.«object.__getattribute__»
  refine wpAny_bind (wpAny_of_eq (a := ((Value.ref x : Value), [Value.str "__class__" tk])) (by first | rfl | (simp only [slotArgs]; rfl)) ?_)
  refine wpAny_bind (wpAny_pure (wpAny_bind (a0.at (wpAny_bind (a3.at ?_)))))
  show wpAny _ _ (holding [Value.builtin "object.__class__"]
    (call (.builtin "getset_descriptor.__get__") [.builtin "object.__class__", .ref x, .ref D]) >>= ret) _ _ _
  refine wpAny_bind (wpAny_holding (wpAny_call (PySem.W.class_get (s := ⟨hp, gs, dr, tk + 1, os⟩) (ox := ox) (od := some od) X I T.hm ?_)))
  refine wpAny_pure ?_
  show wpAny _ _ (handedOut (.ref D)) _ _ _
  rw [PySem.W.handedOut_of (v := .ref D) rfl]
  first
    | exact wpAny_pure (wpAny_pure q)
    | exact wpAny_pure q
    | exact wpAny_pure (wpAny_bind (wpAny_pure (wpAny_pure q)))
theorem kit_err (T : ExcC K D) : PySem.W.KitX K (.ref x) (.ref D) (fun h => ∃ ox od, PySem.W.InstAt h x ox D (some od)) where
  ty := fun _ _ _ ⟨_, _, I⟩ => I.type
  it := fun _ _ X _ => by
    obtain ⟨cd, hc, _⟩ := PySem.W.any_some T.hd
    unfold PySem.W.clsIn at hc
    split at hc
    · rename_i ho
      intro A' Q' E' s' k q
      unfold isType loadHead
      exact wpAny_bind (wpAny_loadPart (k _ _ (X _ _ ho)) (wpAny_pure q))
    · cases hc
  ne := fun h tp dd its n sl X htp => by
    obtain ⟨cd, hc, _⟩ := PySem.W.any_some T.hd
    refine Bool.eq_false_iff.mpr fun q => ?_
    have e : D = tp := Value.ref.inj (beq_iff_eq.mp q)
    subst e
    unfold PySem.W.clsIn at hc
    split at hc
    · rename_i ho
      have z := (X _ _ ho).symm.trans htp
      cases z
    · cases hc
  ca := fun X ⟨_, _, I⟩ k => ask_class T X I k
end
/-- isinstance(e, c), e a tracked error with its dict -/
def rIsX (K : PySem.W.Frag) : List V → Hp → VK → Prop := fun xs H Q => ∃ (a C d : Addr) (fs : List (Str × V)) (c : V) (u : Value) (b : Bool), xs = [.ref a, c] ∧
  H a = some (exo a C (some d)) ∧ H d = some (exd d fs) ∧ ExcC K C ∧ ClsV c u ∧ PySem.W.kitOne K (.ref C) u = some b ∧ Q (.bl b) H
theorem err_at {X : Cx} {pins : List (Addr × Obj)} {σ : L2.St} {H : Hp} {s : Shared} {a C d : Addr} {fs : List (Str × V)} (I : Inv X pins σ H s)
    (ha : H a = some (exo a C (some d))) (hd : H d = some (exd d fs)) :
    ∃ ox od, PySem.W.InstAt s.heap a ox C (some od) ∧ ∀ f, RelO (fs.lookup f) ((PySem.W.lookIn f od).getD none) ∧ (PySem.W.lookIn f od).isSome = true := by
  obtain ⟨t1, hx⟩ := exo_at I.hok ha
  obtain ⟨mA, hn, hr⟩ := exd_at I.hok hd
  obtain ⟨od, ho, hl⟩ := lookIn_ns hn
  exact ⟨_, od, ⟨hx, rfl, rfl, ho⟩, fun f => by rw [hl]; exact ⟨hr f, rfl⟩⟩
theorem call_isX {X : Cx} : CallR X (.builtin "isinstance") (rIsX X.K) := by
  intro pins s σ H xs us Q I r h
  obtain ⟨a, C, d, fs, c, u, b, rfl, ha, hd, T, k, e, q⟩ := h
  obtain ⟨u1, u2, rfl, r1, r2⟩ := vals2 r
  cases r1
  have e2 := k.eq r2
  subst e2
  obtain ⟨ox, od, J, _⟩ := err_at I ha hd
  exact PySem.W.kia_one (kit_err T) I.kIn ⟨ox, od, J⟩ e (fun z => nomatch z) fun tk => ⟨.bl b, H, I.tok tk, rfl, q⟩
/-- e.n, e a tracked error -/
def tErf (C : Addr) (n : Str) (te : TE) : TE := fun σ H Q => te σ H fun x H1 => ∃ a d fs v, x = .ref a ∧ H1 a = some (exo a C (some d)) ∧ H1 d = some (exd d fs) ∧
  fs.lookup n = some v ∧ Q v H1
theorem pe_ef {X : Cx} {C : Addr} {e : Expr} {te : TE} {pos : Pos} {n : Str} (T : XfC X.K C) (hno : PySem.W.findIn X.K (.ref C) n = some none) (he : PE X e te)
    (hb : attributeBase e n X.env (eval e X.env) = eval e X.env := by rfl) : PE X (.Attribute e n pos) (tErf C n te) := by
  constructor
  intro pins s σ H Q I h
  refine attr_of hb (thn (he.run pins s σ H _ I h) fun u s1 hh => ?_)
  obtain ⟨x, H1, I1, rx, a, d, fs, v, ex, ha, hd, l, q⟩ := hh
  subst ex
  cases rx
  obtain ⟨ox, od, J, hl⟩ := err_at I1 ha hd
  obtain ⟨h1, h2⟩ := hl n
  cases eo : PySem.W.lookIn n od with
  | none => rw [eo] at h2; cases h2
  | some r =>
    rw [eo] at h1
    obtain ⟨u, hu, ru⟩ := RelO.some_of (v := v) (o := r) (by rw [← l]; exact h1)
    exact PySem.HandSPX.exc_get I1.kIn J T.ga T.gg T.exC (PySem.W.findObj_own T.hdC hno rfl (by rw [eo, hu])) (handed_of ru) ⟨v, H1, I1.tok _, ru, q⟩
/-- e.n, e a tracked error of any own class -/
def tErfG (K : PySem.W.Frag) (n : Str) (te : TE) : TE := fun σ H Q => te σ H fun x H1 => ∃ a C d fs v, x = .ref a ∧ XfC K C ∧ PySem.W.findIn K (.ref C) n = some none ∧
  H1 a = some (exo a C (some d)) ∧ H1 d = some (exd d fs) ∧ fs.lookup n = some v ∧ Q v H1
theorem pe_efG {X : Cx} {e : Expr} {te : TE} {pos : Pos} {n : Str} (he : PE X e te)
    (hb : attributeBase e n X.env (eval e X.env) = eval e X.env := by rfl) : PE X (.Attribute e n pos) (tErfG X.K n te) := by
  constructor
  intro pins s σ H Q I h
  refine attr_of hb (thn (he.run pins s σ H _ I h) fun u s1 hh => ?_)
  obtain ⟨x, H1, I1, rx, a, C, d, fs, v, ex, T, hno, ha, hd, l, q⟩ := hh
  subst ex
  cases rx
  obtain ⟨ox, od, J, hl⟩ := err_at I1 ha hd
  obtain ⟨h1, h2⟩ := hl n
  cases eo : PySem.W.lookIn n od with
  | none => rw [eo] at h2; cases h2
  | some r =>
    rw [eo] at h1
    obtain ⟨u, hu, ru⟩ := RelO.some_of (v := v) (o := r) (by rw [← l]; exact h1)
    exact PySem.HandSPX.exc_get I1.kIn J T.ga T.gg T.exC (PySem.W.findObj_own T.hdC hno rfl (by rw [eo, hu])) (handed_of ru) ⟨v, H1, I1.tok _, ru, q⟩
end Rm

set_option maxRecDepth 100000
set_option maxHeartbeats 4000000
namespace Rm
open PySem PySem.Spec L2
open PyProof.Rows hiding St

/-! ### xs.count(y), flat items -/
theorem count_flat {x : V} : ∀ {xs : List V} {us : List Value}, Vals xs us → xs.all flatV = true → us.countP (eqU x) = xs.countP fun y => eqV y x
  | _, _, .nil, _ => rfl
  | y :: xs, u :: us, .cons r t, f => by
    rw [List.all_cons, Bool.and_eq_true] at f
    rw [List.countP_cons, List.countP_cons, eqU_of r f.1, count_flat t f.2]
def rCntV (K : PySem.W.Frag) : V → List V → Hp → VK → Prop := fun x xs H Q => ∃ (p : Addr) (zs : List V) (y : V), x = .ref p ∧ xs = [y] ∧ SqL K H p zs ∧
  flatV y = true ∧ zs.all flatV = true ∧ Q (.int ((zs.countP fun z => eqV z y : Nat) : Int)) H
theorem mt_countV {X : Cx} : MtR X "list.count" (rCntV X.K) := by
  intro pins s σ H x xs v us Q I rx rxs h
  obtain ⟨p, zs, y, rfl, rfl, hs, fy, fz, q⟩ := h
  cases rx
  obtain ⟨u, rfl, ru⟩ := rxs.one
  obtain ⟨its, rv, ⟨⟨cls, dd, data, sl⟩, n, ho, hc, hdn, hd⟩, hlen⟩ := I.list hs
  simp only at hc hd
  subst hc hd
  refine call_meets PySem.F.slot_list_count ⟨_, ho, rfl⟩ PySem.F.entry_list_count (PySem.F.args_list_count_2 _ _)
    (SeqAt.list_countAt p its.toArray n dd sl u (eqU y)) ⟨ho, fun z hz => (mem_eqAt ru fy rv fz z (by simpa using hz)), ?_⟩
  refine ⟨.int ((zs.countP fun z => eqV z y : Nat) : Int), H, I.tok _, ⟨s.toks, ?_⟩, q⟩
  show Value.int ((its.toArray.toList.countP (eqU y) : Nat) : Int) s.toks = _
  rw [show its.toArray.toList = its by simp, count_flat rv fz]
/-! ### d.update(e), tracked dicts -/
def rUpd : V → List V → Hp → VK → Prop := fun x xs H Q => ∃ (p q : Addr) (kvs more : List (Key × V)), x = .ref p ∧ xs = [.ref q] ∧ H p = some (.dK kvs) ∧ H q = some (.dK more) ∧
  p ≠ q ∧ kvs.length + more.length ≤ sizeLine ∧ Q .non (upd H p (.dK (mergeK kvs more)))
theorem mt_upd {X : Cx} : MtR X "dict.update" rUpd := by
  intro pins s σ H x xs v us Q I rx rxs h
  obtain ⟨p, q, kvs, more, rfl, rfl, hp, hq, ne, hz, k⟩ := h
  cases rx
  obtain ⟨u, rfl, ru⟩ := rxs.one
  cases ru
  obtain ⟨z1, lo1, vs1, r1, d1⟩ := dk_of I.hok hp
  obtain ⟨z2, lo2, vs2, r2, d2⟩ := dk_of I.hok hq
  have mu : Mut (H p) := by rw [hp]; exact True.intro
  refine call_meetsIn PySem.F.slot_dict_update d1.typeIs PySem.F.entry_dict_update (PySem.F.args_dict_update_2 _ _)
    (meets_dict_update (mixKind X.prog X.w) p q ne lo2) ⟨vs1, vs2, d1, d2, (by rw [← r1.length, ← r2.length]; exact hz), fun h' hmm _ hs => ?_⟩
  have hl : (mergeK kvs more).length ≤ sizeLine := by
    have := length_mergeK more kvs
    omega
  obtain ⟨o', ho', _⟩ := Heap.dictOf_iff.mp hmm
  exact ⟨.non, _, I.write (x := p) (e := p) (t' := s.toks) mu (.inl rfl) (fun b o nb e => (hs.2 b nb).trans e) ⟨o', ho'⟩ (dk_new hl lo1 (r2.merge r1) hmm), rfl, k⟩
/-! ### pairs of errors -/
def ErrAt (H : Hp) (a C : Addr) (y : Str) (x : V) : Prop := ∃ d, H a = some (exo a C (some d)) ∧ H d = some (exd d [(y, x)])
def PairOk (H : Hp) (C : Addr) (y : Str) (x : V) (t : Addr) : Prop := ∃ a b, H t = some (.tup [.ref a, .ref b]) ∧ ErrAt H a C y x ∧ ErrAt H b C y x
theorem ErrAt.up {H H' : Hp} {a C : Addr} {y : Str} {x : V} (s : Same H H') (h : ErrAt H a C y x) : ErrAt H' a C y x :=
  let ⟨d, h1, h2⟩ := h
  ⟨d, s _ _ h1, s _ _ h2⟩
theorem PairOk.up {H H' : Hp} {t C : Addr} {y : Str} {x : V} (s : Same H H') (h : PairOk H C y x t) : PairOk H' C y x t :=
  let ⟨a, b, h1, h2, h3⟩ := h
  ⟨a, b, s _ _ h1, h2.up s, h3.up s⟩
theorem err_new {H : Hp} {a d C : Addr} {y : Str} {x : V} (na : H a = none) (nd : H d = none) (ne : d ≠ a) :
    Same H (upd (upd H d (exd d [(y, x)])) a (exo a C (some d))) ∧ ErrAt (upd (upd H d (exd d [(y, x)])) a (exo a C (some d))) a C y x :=
  ⟨same_two nd na ne, d, upd_same, by rw [upd_ne ne]; exact upd_same⟩
theorem tup_pair {C : Addr} {y : Str} {σ : L2.St} {i : Nat} {x : V} {H : Hp} {Q : VK} (hi : σ[i]? = some (some x))
    (h : ∀ t H1, Same H H1 → PairOk H1 C y x t → Q (.ref t) H1) :
    tTup (tCons (tBorn C y (tVar i)) (tCons (tBorn C y (tVar i)) tNil)) σ H Q := by
  refine ⟨x, hi, x, rfl, fun a d na nd ne => ⟨x, hi, x, rfl, fun b e nb nd2 ne2 => ⟨(show 2 ≤ sizeLine by decide), fun t nt => ?_⟩⟩⟩
  obtain ⟨s1, e1⟩ := err_new (C := C) (y := y) (x := x) na nd ne
  obtain ⟨s2, e2⟩ := err_new (C := C) (y := y) (x := x) nb nd2 ne2
  have s3 := same_new (o := .tup [.ref a, .ref b]) nt
  exact h t _ ((s1.trans s2).trans s3) ⟨a, b, upd_same, (e1.up s2).up s3, e2.up s3⟩
theorem cons_pair {C : Addr} {y : Str} {σ : L2.St} {i : Nat} {x : V} {H : Hp} {tr : TA} {Q : List V → Hp → Prop} (hi : σ[i]? = some (some x))
    (h : ∀ t H1, Same H H1 → PairOk H1 C y x t → tr σ H1 fun xs H2 => Q (.ref t :: xs) H2) :
    tCons (tTup (tCons (tBorn C y (tVar i)) (tCons (tBorn C y (tVar i)) tNil))) tr σ H Q := tup_pair hi h
/-- rows of pairs, one for each class -/
def Prs (H : Hp) (x : V) : List (Addr × Str) → List V → Prop
  | [], [] => True
  | c :: cs, v :: vs => (∃ t, v = .ref t ∧ PairOk H c.1 c.2 x t) ∧ Prs H x cs vs
  | _, _ => False
theorem Prs.up {H H' : Hp} {x : V} (s : Same H H') : ∀ {cs : List (Addr × Str)} {vs : List V}, Prs H x cs vs → Prs H' x cs vs
  | [], [], _ => True.intro
  | _ :: _, _ :: _, ⟨⟨t, e, p⟩, r⟩ => ⟨⟨t, e, p.up s⟩, r.up s⟩
  | [], _ :: _, h => h.elim
  | _ :: _, [], h => h.elim
theorem Prs.app {H : Hp} {x : V} : ∀ {cs ds : List (Addr × Str)} {vs us : List V}, Prs H x cs vs → Prs H x ds us → Prs H x (cs ++ ds) (vs ++ us)
  | [], _, [], _, _, h => h
  | _ :: _, _, _ :: _, _, ⟨p, r⟩, h => ⟨p, r.app h⟩
  | [], _, _ :: _, _, h, _ => h.elim
  | _ :: _, _, [], _, h, _ => h.elim
theorem Prs.len {H : Hp} {x : V} : ∀ {cs : List (Addr × Str)} {vs : List V}, Prs H x cs vs → vs.length = cs.length
  | [], [], _ => rfl
  | _ :: _, _ :: _, ⟨_, r⟩ => congrArg Nat.succ r.len
  | [], _ :: _, h => h.elim
  | _ :: _, [], h => h.elim
theorem Prs.get {H : Hp} {x : V} : ∀ {cs : List (Addr × Str)} {vs : List V} {i : Nat} {v : V}, Prs H x cs vs → vs[i]? = some v →
    ∃ c t, cs[i]? = some c ∧ v = .ref t ∧ PairOk H c.1 c.2 x t
  | _ :: _, _ :: _, 0, _, ⟨⟨t, e, p⟩, _⟩, h => by
    simp at h; subst h; exact ⟨_, t, rfl, e, p⟩
  | _ :: _, _ :: _, i + 1, _, ⟨_, r⟩, h => by
    simp at h
    simpa using r.get h
  | [], [], _, _, _, h => by simp at h
  | [], _ :: _, _, _, h, _ => h.elim
  | _ :: _, [], _, _, h, _ => h.elim
/-- a row of the law: two errors and what they keep -/
def RowOk (H : Hp) (C : Addr) (y : Str) (x : V) (t : Addr) : Prop := ∃ a b, H t = some (.tup [.ref a, .ref b, x, x]) ∧ ErrAt H a C y x ∧ ErrAt H b C y x
def Rws (H : Hp) (x : V) (cs : List (Addr × Str)) (vs : List V) : Prop := vs.length = cs.length ∧
  ∀ (i : Nat) (c : Addr × Str), cs[i]? = some c → ∃ t, vs[i]? = some (.ref t) ∧ RowOk H c.1 c.2 x t
theorem RowOk.up {H H' : Hp} {t C : Addr} {y : Str} {x : V} (s : Same H H') (h : RowOk H C y x t) : RowOk H' C y x t :=
  let ⟨a, b, h1, h2, h3⟩ := h
  ⟨a, b, s _ _ h1, h2.up s, h3.up s⟩
def spRows (cs : List (Addr × Str)) : Sp := fun vs H Q _ => ∃ x, vs = [x] ∧ ∀ p H' rows, Same H H' → H' p = some (.lst rows) → Rws H' x cs rows → Q (.ref p) H'
theorem ErrAt.upd {H : Hp} {p a C : Addr} {y : Str} {x : V} {xs : List V} {o : HO} (hp : H p = some (.lst xs)) (h : ErrAt H a C y x) : ErrAt (upd H p o) a C y x := by
  obtain ⟨d, h1, h2⟩ := h
  have n1 : a ≠ p := fun e => by
    rw [e, hp] at h1
    have h1' : HO.lst xs = HO.ext _ := Option.some.inj h1
    cases h1'
  have n2 : d ≠ p := fun e => by
    rw [e, hp] at h2
    have h2' : HO.lst xs = HO.ext _ := Option.some.inj h2
    cases h2'
  exact ⟨d, by rw [upd_ne n1]; exact h1, by rw [upd_ne n2]; exact h2⟩
theorem PairOk.upd {H : Hp} {p t C : Addr} {y : Str} {x : V} {xs : List V} {o : HO} (hp : H p = some (.lst xs)) (h : PairOk H C y x t) : PairOk (upd H p o) C y x t := by
  obtain ⟨a, b, h1, h2, h3⟩ := h
  have n1 : t ≠ p := fun e => by
    rw [e, hp] at h1
    cases h1
  exact ⟨a, b, by rw [upd_ne n1]; exact h1, h2.upd hp, h3.upd hp⟩
theorem Prs.upd {H : Hp} {p : Addr} {x : V} {xs : List V} {o : HO} (hp : H p = some (.lst xs)) : ∀ {cs : List (Addr × Str)} {vs : List V}, Prs H x cs vs → Prs (upd H p o) x cs vs
  | [], [], _ => True.intro
  | _ :: _, _ :: _, ⟨⟨t, e, q⟩, r⟩ => ⟨⟨t, e, q.upd hp⟩, r.upd hp⟩
  | [], _ :: _, h => h.elim
  | _ :: _, [], h => h.elim
end Rm

set_option maxRecDepth 100000
set_option maxHeartbeats 4000000
namespace Rm
open PySem PySem.Spec L2
open PyProof.Rows hiding St

/-! ### rows of errors, one after the other -/
/-- rows, one for each class -/
def Rwl (H : Hp) (x : V) : List (Addr × Str) → List V → Prop
  | [], [] => True
  | c :: cs, v :: vs => (∃ t, v = .ref t ∧ RowOk H c.1 c.2 x t) ∧ Rwl H x cs vs
  | _, _ => False
theorem Rwl.up {H H' : Hp} {x : V} (s : Same H H') : ∀ {cs : List (Addr × Str)} {vs : List V}, Rwl H x cs vs → Rwl H' x cs vs
  | [], [], _ => True.intro
  | _ :: _, _ :: _, ⟨⟨t, e, p⟩, r⟩ => ⟨⟨t, e, p.up s⟩, r.up s⟩
  | [], _ :: _, h => h.elim
  | _ :: _, [], h => h.elim
theorem Rwl.app {H : Hp} {x : V} : ∀ {cs ds : List (Addr × Str)} {vs us : List V}, Rwl H x cs vs → Rwl H x ds us → Rwl H x (cs ++ ds) (vs ++ us)
  | [], _, [], _, _, h => h
  | _ :: _, _, _ :: _, _, ⟨p, r⟩, h => ⟨p, r.app h⟩
  | [], _, _ :: _, _, h, _ => h.elim
  | _ :: _, _, [], _, h, _ => h.elim
theorem Rwl.len {H : Hp} {x : V} : ∀ {cs : List (Addr × Str)} {vs : List V}, Rwl H x cs vs → vs.length = cs.length
  | [], [], _ => rfl
  | _ :: _, _ :: _, ⟨_, r⟩ => congrArg Nat.succ r.len
  | [], _ :: _, h => h.elim
  | _ :: _, [], h => h.elim
theorem Rwl.get {H : Hp} {x : V} : ∀ {cs : List (Addr × Str)} {vs : List V} {i : Nat} {v : V}, Rwl H x cs vs → vs[i]? = some v →
    ∃ c t, cs[i]? = some c ∧ v = .ref t ∧ RowOk H c.1 c.2 x t
  | _ :: _, _ :: _, 0, _, ⟨⟨t, e, p⟩, _⟩, h => by
    simp at h; subst h; exact ⟨_, t, rfl, e, p⟩
  | _ :: _, _ :: _, i + 1, _, ⟨_, r⟩, h => by
    simp at h
    simpa using r.get h
  | [], [], _, _, _, h => by simp at h
  | [], _ :: _, _, _, h, _ => h.elim
  | _ :: _, [], _, _, h, _ => h.elim
theorem Rwl.of {H : Hp} {x : V} : ∀ {cs : List (Addr × Str)} {vs : List V}, Rws H x cs vs → Rwl H x cs vs
  | [], [], _ => True.intro
  | [], _ :: _, h => by cases h.1
  | _ :: _, [], h => by cases h.1
  | c :: cs, v :: vs, h => by
    obtain ⟨t, e, p⟩ := h.2 0 c rfl
    simp at e
    refine ⟨⟨t, e, p⟩, Rwl.of ⟨by simpa using h.1, fun i c' hc => ?_⟩⟩
    obtain ⟨t', e', p'⟩ := h.2 (i + 1) c' (by simpa using hc)
    exact ⟨t', by simpa using e', p'⟩
theorem Rwl.ws {H : Hp} {x : V} : ∀ {cs : List (Addr × Str)} {vs : List V}, Rwl H x cs vs → Rws H x cs vs
  | [], [], _ => ⟨rfl, fun i c h => by simp at h⟩
  | [], _ :: _, h => h.elim
  | _ :: _, [], h => h.elim
  | c :: cs, v :: vs, ⟨⟨t, e, p⟩, r⟩ => by
    have q := r.ws
    refine ⟨by simpa using q.1, fun i c' hc => ?_⟩
    cases i with
    | zero => simp at hc; subst hc; exact ⟨t, by simpa using e, p⟩
    | succ i =>
      obtain ⟨t', e', p'⟩ := q.2 i c' (by simpa using hc)
      exact ⟨t', by simpa using e', p'⟩
/-- neither a tuple nor an error -/
def SoftO (u : HO) : Prop := (∀ xs, u ≠ HO.tup xs) ∧ (∀ f, u ≠ HO.ext f)
theorem soft_lst {xs : List V} : SoftO (HO.lst xs) := ⟨fun _ e => (by cases e), fun _ e => (by cases e)⟩
theorem soft_dK {xs : List (Key × V)} : SoftO (HO.dK xs) := ⟨fun _ e => (by cases e), fun _ e => (by cases e)⟩
theorem ErrAt.updS {H : Hp} {p a C : Addr} {y : Str} {x : V} {u o : HO} (hp : H p = some u) (su : SoftO u) (h : ErrAt H a C y x) : ErrAt (L2.upd H p o) a C y x := by
  obtain ⟨d, h1, h2⟩ := h
  have n1 : a ≠ p := fun e => by
    rw [e, hp] at h1
    exact su.2 _ (Option.some.inj h1)
  have n2 : d ≠ p := fun e => by
    rw [e, hp] at h2
    exact su.2 _ (Option.some.inj h2)
  exact ⟨d, by rw [upd_ne n1]; exact h1, by rw [upd_ne n2]; exact h2⟩
theorem RowOk.updS {H : Hp} {p t C : Addr} {y : Str} {x : V} {u o : HO} (hp : H p = some u) (su : SoftO u) (h : RowOk H C y x t) : RowOk (L2.upd H p o) C y x t := by
  obtain ⟨a, b, h1, h2, h3⟩ := h
  have n1 : t ≠ p := fun e => by
    rw [e, hp] at h1
    exact su.1 _ (Option.some.inj h1)
  exact ⟨a, b, by rw [upd_ne n1]; exact h1, h2.updS hp su, h3.updS hp su⟩
theorem Rwl.updS {H : Hp} {p : Addr} {x : V} {u o : HO} (hp : H p = some u) (su : SoftO u) : ∀ {cs : List (Addr × Str)} {vs : List V}, Rwl H x cs vs → Rwl (L2.upd H p o) x cs vs
  | [], [], _ => True.intro
  | _ :: _, _ :: _, ⟨⟨t, e, q⟩, r⟩ => ⟨⟨t, e, q.updS hp su⟩, r.updS hp su⟩
  | [], _ :: _, h => h.elim
  | _ :: _, [], h => h.elim

section
variable {K : PySem.W.Frag} {C : Addr} {y : Str} {σ : L2.St} {i j : Nat} {x : V} {H : Hp}
/-- two errors, each a name's -/
theorem par_pair {k : Nat} {D : Ends} (hk : σ[k]? = some (some x))
    (h : ∀ a b H1, Same H H1 → ErrAt H1 a C y x → ErrAt H1 b C y x → D.nx ((σ.set i (some (.ref a))).set j (some (.ref b))) H1) :
    tPar i j (tCons (tBorn C y (tVar k)) (tCons (tBorn C y (tVar k)) tNil)) D σ H := by
  refine ⟨x, hk, x, rfl, fun a d na nd ne => ⟨x, hk, x, rfl, fun b e nb nd2 ne2 => ⟨_, _, rfl, ?_⟩⟩⟩
  obtain ⟨s1, e1⟩ := err_new (C := C) (y := y) (x := x) na nd ne
  obtain ⟨s2, e2⟩ := err_new (C := C) (y := y) (x := x) nb nd2 ne2
  exact h a b _ (s1.trans s2) (e1.up s2) e2
/-- the row of two errors -/
theorem row4 {a b : Addr} {Q : VK} (hX : XfC K C) (hno : PySem.W.findIn K (.ref C) y = some none) (hi : σ[i]? = some (some (.ref a))) (hj : σ[j]? = some (some (.ref b)))
    (ea : ErrAt H a C y x) (eb : ErrAt H b C y x) (h : ∀ t H1, Same H H1 → RowOk H1 C y x t → Q (.ref t) H1) :
    tTup (tCons (tVar i) (tCons (tVar j) (tCons (tErfG K y (tVar i)) (tCons (tErfG K y (tVar j)) tNil)))) σ H Q := by
  have ea' := ea
  have eb' := eb
  obtain ⟨da, ha, hda⟩ := ea'
  obtain ⟨db, hb, hdb⟩ := eb'
  refine ⟨_, hi, _, hj, _, hi, a, C, da, _, x, rfl, hX, hno, ha, hda, by simp, _, hj, b, C, db, _, x, rfl, hX, hno, hb, hdb, by simp, (show 4 ≤ sizeLine by decide), fun r nr => ?_⟩
  have z := same_new (o := .tup [.ref a, .ref b, x, x]) nr
  exact h r _ z ⟨a, b, upd_same, ea.up z, eb.up z⟩
theorem cons_row4 {a b : Addr} {tr : TA} {Q : List V → Hp → Prop} (hX : XfC K C) (hno : PySem.W.findIn K (.ref C) y = some none) (hi : σ[i]? = some (some (.ref a))) (hj : σ[j]? = some (some (.ref b)))
    (ea : ErrAt H a C y x) (eb : ErrAt H b C y x) (h : ∀ t H1, Same H H1 → RowOk H1 C y x t → tr σ H1 fun xs H2 => Q (.ref t :: xs) H2) :
    tCons (tTup (tCons (tVar i) (tCons (tVar j) (tCons (tErfG K y (tVar i)) (tCons (tErfG K y (tVar j)) tNil))))) tr σ H Q := row4 hX hno hi hj ea eb h
end
end Rm

set_option maxRecDepth 100000
set_option maxHeartbeats 4000000
namespace Rm
open PySem PySem.Spec L2
open PyProof.Rows hiding St
open SeqAt MeetsSeq

/-! ### a text beside anything -/
theorem str_off_dict (b : Str) (u : Tok) (l : Addr) (c : Value) (es : Array DictEntry) (n : Nat) (dd : Option Addr) (sl : Array (Option Value)) :
    Meets (Builtin.«str.__eq__» ⟨[.str b u, .ref l], []⟩) (fun _ R s => s.heap.get? l = some { cls := c, dict := dd, data := .dict es n, slots := sl } ∧ R (.ok (.ret .notImplemented)) s) :=
  .of_wp fun prog w A R s h => by obtain ⟨hp, g, d, tk, os⟩ := s; obtain ⟨hl, h⟩ := h; wp_walk using AutoSeq1.wpAny_loadPart' hl, wpAny_load hl; exact ⟨_, rfl, h⟩
theorem dict_off_str (l : Addr) (es : Array DictEntry) (n : Nat) (dd : Option Addr) (sl : Array (Option Value)) (b : Str) (u : Tok) :
    Meets (Builtin.«dict.__eq__» ⟨[.ref l, .str b u], []⟩) (fun _ R s => s.heap.get? l = some { cls := .type "dict", dict := dd, data := .dict es n, slots := sl } ∧ R (.ok (.ret .notImplemented)) s) :=
  .of_wp fun prog w A R s h => by obtain ⟨hp, g, d, tk, os⟩ := s; obtain ⟨hl, h⟩ := h; have f1 := F.sub_str_dict; wp_walk using AutoSeq1.wpAny_loadPart' hl; exact ⟨_, rfl, h⟩
section
variable {A : Around} {s : Shared}
theorem rc_str_dict {l : Addr} {o : Obj} {es : Array DictEntry} {n : Nat} (b : Str) (u : Tok) (ho : s.heap.get? l = some o) (hc : o.cls = .type "dict") (hd : o.data = .dict es n) (hu : A.units < cLine) :
    RcAt A s (.str b u) (.ref l) false := fun prog w E Q h => by
  obtain ⟨cls, dd, data, sl⟩ := o
  simp only at hc hd
  subst hc hd
  exact rc_eq_decline_or (k := false) (typeIs_str s b u) ⟨_, ho, rfl⟩ (by decide) F.sub_dict_str F.slot_str_eq F.slot_dict_eq_refl
    (fun _ hq => call_meets F.slot_str_eq (typeIs_str s b u) F.entry_str_eq (F.args_str_eq_2 _ _) (str_off_dict b u l (.type "dict") es n dd sl) ⟨ho, hq⟩)
    (fun _ hq => call_meets F.slot_dict_eq_refl ⟨_, ho, rfl⟩ F.entry_dict_eq (F.args_dict_eq_2 _ _) (dict_off_str l es n dd sl b u) ⟨ho, hq⟩)
    (fun _ hq => wpAny_of_eq (rfl : isSame (.str b u) (.ref l) = pure false) hq) (.inr hu) h
theorem rc_dict_str {l : Addr} {o : Obj} {es : Array DictEntry} {n : Nat} (b : Str) (u : Tok) (ho : s.heap.get? l = some o) (hc : o.cls = .type "dict") (hd : o.data = .dict es n) (hu : A.units < cLine) :
    RcAt A s (.ref l) (.str b u) false := fun prog w E Q h => by
  obtain ⟨cls, dd, data, sl⟩ := o
  simp only at hc hd
  subst hc hd
  exact rc_eq_decline_or (k := false) ⟨_, ho, rfl⟩ (typeIs_str s b u) (by decide) F.sub_str_dict F.slot_dict_eq F.slot_str_eq_refl
    (fun _ hq => call_meets F.slot_dict_eq ⟨_, ho, rfl⟩ F.entry_dict_eq (F.args_dict_eq_2 _ _) (dict_off_str l es n dd sl b u) ⟨ho, hq⟩)
    (fun _ hq => call_meets F.slot_str_eq_refl (typeIs_str s b u) F.entry_str_eq (F.args_str_eq_2 _ _) (str_off_dict b u l (.type "dict") es n dd sl) ⟨ho, hq⟩)
    (fun _ hq => wpAny_of_eq (rfl : isSame (.ref l) (.str b u) = pure false) hq) (.inr hu) h
theorem eqAt_str_dict {l : Addr} {o : Obj} {es : Array DictEntry} {n : Nat} (b : Str) (u : Tok) (ho : s.heap.get? l = some o) (hc : o.cls = .type "dict") (hd : o.data = .dict es n) (hu : A.units < cLine) :
    EqAt A s (.str b u) (.ref l) false := fun prog w E Q h => by
  unfold eqBool
  refine wpAny_holding ?_
  refine wpAny_ite_split (fun hab => absurd (eq_of_beq hab) nofun) (fun _ => ?_)
  exact wpAny_bind (rc_str_dict b u ho hc hd hu prog w E _ (wpAny_truthy_bool h))
/-- a text and what is read: equal just if it is this text -/
def isT (z : Str) : PyData → Bool
  | .str y => decide (y = z)
  | _ => false
theorem eqAt_strD {d : PyData} {as : List Addr} {v : Value} (z : Str) (t : Tok) (r : Reads s.heap v d as) (hu : A.units < cLine) : EqAt A s (.str z t) v (isT z d) := by
  cases r with
  | none => exact EqAt.str_none z t
  | bool y => exact EqAt.str_bool z t y
  | int y u => exact EqAt.str_int z t y u
  | str y u =>
    have e := EqAt.str_str (A := A) (s := s) z t y u
    have q : isT z (.str y) = (z == y) := by
      unfold isT
      rw [Bool.eq_iff_iff]
      simp
      exact eq_comm
    rw [q]
    exact e
  | list k1 k2 k3 k4 => exact EqAt.str_list z t ⟨_, k1, k2, _, k3⟩ hu
  | tuple k1 k2 k3 k4 => exact EqAt.str_tuple z t ⟨_, k1, k2, _, k3⟩ hu
  | dict k1 k2 k3 k4 k5 => exact eqAt_str_dict z t k1 k2 k3 hu
end
end Rm

set_option maxRecDepth 100000
set_option maxHeartbeats 4000000
namespace Rm
open PySem PySem.Spec L2
open PyProof.Rows hiding St

/-! ### all that is asked of an own error class: x names the class at C below the one at M, whose __init__ stores y -/
structure EF (P : Program) (w : World) (K : PySem.W.Frag) (mg : Str → Option Value) (C M : Addr) (x y : Str) : Prop where
  g : mg x = some (.ref C)
  er : ∀ base, Er P w K mg base x C y
  erk : ∀ base, ErK P w K mg base x C y
  xf : XfC K C
  no : PySem.W.findIn K (.ref C) y = some none
  ex : ExcC K C
  cl : ∃ nm q N bs tl sn sub ab col dd k0 k1 k2 k3 k5, K.lookup C = some (excClassObj nm q C N bs (.ref M :: tl) true sn sub ab col dd k0 k1 k2 k3 k5 "ValueError.__new__") ∧ allTy tl = true
  ty : PySem.W.typeIn K (.ref C) = some (.type "type")
  em : PySem.W.exmOne K (.ref C) (.ref C) = some true
  ve : PySem.W.subIn K (.ref C) (.type "ValueError") = some true
theorem EF.mro {P : Program} {w : World} {K : PySem.W.Frag} {mg : Str → Option Value} {C M D : Addr} {x y : Str} (e : EF P w K mg C M x y) :
    PySem.W.subIn K (.ref C) (.ref D) = some (decide (D = C) || decide (D = M)) := by
  obtain ⟨nm, q, N, bs, tl, sn, sub, ab, col, dd, k0, k1, k2, k3, k5, l, a⟩ := e.cl
  show PySem.W.mroIn K C (.ref D) = _
  have h : PySem.W.clsIn K C = some { name := nm, bases := bs, mro := .ref C :: .ref M :: tl, ns := N, qualname := q, hasDict := true, slotNames := sn, subclasses := sub, abstract := ab, collection := col, hasDel := false } := by
    unfold PySem.W.clsIn
    rw [l]
  unfold PySem.W.mroIn
  rw [h]
  simp only [Option.bind_some, List.isEmpty_cons, Bool.false_eq_true, if_false, List.contains_cons, allTy_no a, Bool.or_false]
  congr 1
  have b : ∀ a b : Addr, ((Value.ref a) == Value.ref b) = decide (a = b) := fun a b => by
    by_cases e : a = b
    · subst e; simp
    · rw [decide_eq_false e]
      exact Bool.eq_false_iff.mpr fun q => e (Value.ref.inj (beq_iff_eq.mp q))
  rw [b, b]
theorem EF.kit {P : Program} {w : World} {K : PySem.W.Frag} {mg : Str → Option Value} {C M D M' : Addr} {x y x' y' : Str} (e : EF P w K mg C M x y) (e' : EF P w K mg D M' x' y') (hM : D ≠ M) :
    PySem.W.kitOne K (.ref C) (.ref D) = some (decide (D = C)) := by
  have q : ∀ a b : Addr, ((Value.ref a) == Value.ref b) = decide (a = b) := fun a b => by
    by_cases e : a = b
    · subst e; simp
    · rw [decide_eq_false e]
      exact Bool.eq_false_iff.mpr fun q => e (Value.ref.inj (beq_iff_eq.mp q))
  unfold PySem.W.kitOne
  rw [q]
  by_cases h : C = D
  · subst h
    simp
  · rw [decide_eq_false h, if_neg (by simp)]
    obtain ⟨nm, q', N, bs, tl, sn, sub, ab, col, dd, k0, k1, k2, k3, k5, l, a⟩ := e'.cl
    unfold PySem.W.kitCls
    dsimp only
    have h1 : (PySem.W.clsIn K D).isSome = true := by
      unfold PySem.W.clsIn
      rw [l]
      rfl
    have h2 : PySem.W.typeIn K (.ref D) = some (.type "type") := e'.ty
    rw [if_pos (by rw [h1, h2]; simp), e.mro, decide_eq_false hM, Bool.or_false]
theorem ef_mk {P : Program} {w : World} {K : PySem.W.Frag} {h : Heap} {mg : Str → Option Value} {C M : Addr} {x y qual : Str} {st : Stmt} (X : K.In h) (G : h.Ns mainGlobals mg)
    {nm q : Str} {N : Addr} {bs tl : List Value} {sn : List Str} {sub : List Value} {ab : Bool} {col : Option Bool} {dd : Option Addr} {m0 m1 m2 m3 m5 : Option Value}
    (e_g : PySem.W.nsIn K mainGlobals x = some (some (.ref C)))
    (e_l : K.lookup C = some (excClassObj nm q C N bs (.ref M :: tl) true sn sub ab col dd m0 m1 m2 m3 m5 "ValueError.__new__")) (e_v : PySem.HandSPX.refsVE (.ref M :: tl) = true) (e_t : allTy tl = true)
    (e_sa : PySem.W.findIn K (.ref C) "__setattr__" = some (some (.builtin "object.__setattr__")))
    (e_ga : PySem.W.findIn K (.ref C) "__getattribute__" = some (some (.builtin "BaseException.__getattribute__"))) (e_gg : PySem.W.findIn K (.ref C) "__getattr__" = some none)
    (e_ex : PySem.W.subIn K (.ref C) (.type "BaseException") = some true) (e_ty : PySem.W.typeIn K (.ref C) = some (.type "type")) (e_k : PySem.W.keepIn K (.ref C) = true)
    (e_hd : PySem.W.hasDictIn K C = true) (e_no : PySem.W.findIn K (.ref C) y = some none) (e_sub : PySem.W.subIn K (.ref C) (.type "ValueError") = some true)
    (e_self : PySem.W.mroIn K C (.ref C) = some true)
    (e_sup : PySem.W.ks_superIn K C C "__init__" = some (some (.builtin "ValueError.__init__"))) (e_any : PySem.W.nsIn K cStatics "thirdparty.any" = some none)
    (e_ha : PySem.W.findIn K (.ref C) "__class__" = some (some (.builtin "object.__class__")))
    (e_hn : PySem.W.specialIn K (.builtin "object.__class__") "__get__" = some (some (.builtin "getset_descriptor.__get__"))) (e_ht : PySem.W.takesIn K (.builtin "object.__class__") = some true)
    (e_hm : PySem.W.mroIn K C (.type "object") = some true)
    {ef cda cc : Addr} {oc dV kV doc pm ct ccl cl : Value} {od an cdd cld : Option Addr} {osl ccs csl : Array (Option Value)} {vs : Array Value} {file : Str} {tf : Tok}
    (e_i : PySem.W.findIn K (.ref C) "__init__" = some (some (.ref ef))) (e_it : PySem.W.typeIn K (.ref ef) = some (.type "function"))
    (e_f : K.lookup ef = some ⟨oc, od, .func (PySem.W.ksFn "__init__" qual (defArgs st) (defBody st) (defScope st) dV kV doc pm an (.ref cda) ct cc), osl⟩)
    (e_c : PySem.W.codeIn K (.ref cda) qual = true) (e_cd : K.lookup cda = some ⟨ccl, cdd, .fields vs, ccs⟩) (e_fi : vs[2]? = some (.str file tf)) (e_pf : ((P.main.file : Str) == file) = true)
    (e_cc : K.lookup cc = some ⟨cl, cld, .cell (some (.ref C)), csl⟩) (e_df : dV = .none)
    (htop : (P.main.scope.names.lookup ("super" : Str)).isSome = false) (n_super : PySem.W.nsIn K mainGlobals "super" = some none)
    (hb1 : ∀ us : List Value, us.length = 2 → Binds K (PySem.W.ksFn "__init__" qual (defArgs st) (defBody st) (defScope st) .none kV doc pm an (.ref cda) ct cc) ["self", y] [])
    (hb2 : Kw1 (PySem.W.ksFn "__init__" qual (defArgs st) (defBody st) (defScope st) .none kV doc pm an (.ref cda) ct cc) ["self", y] 1 y)
    (hfn : ∀ base, mg "super" = none → ErrC P K C ef qual y (defArgs st) (defBody st) (defScope st) (PySem.W.ksFn "__init__" qual (defArgs st) (defBody st) (defScope st) .none kV doc pm an (.ref cda) ct cc) →
      FnG P w K mg base CX0 2 ef (PySem.W.ksFn "__init__" qual (defArgs st) (defBody st) (defScope st) .none kV doc pm an (.ref cda) ct cc) ["self", y] (spErr K C y)) :
    EF P w K mg C M x y := by
  subst e_df
  have ox : OexC K C := ⟨⟨nm, q, N, bs, _, sn, sub, ab, col, dd, m0, m1, m2, m3, m5, e_l, e_v⟩, e_sa, e_ex, e_ty, e_k⟩
  have T : ErrC P K C ef qual y (defArgs st) (defBody st) (defScope st) _ :=
    ⟨ox, ⟨oc, od, _, kV, doc, pm, an, cda, cc, ct, osl, ccl, cl, cdd, cld, vs, ccs, csl, file, tf, rfl, e_f, e_c, e_cd, e_fi, e_pf, e_cc⟩, e_any, e_sup, e_sub, e_self, e_no, e_i, e_it⟩
  have gC : mg x = some (.ref C) := PySem.W.mg_of X G e_g
  have ns : mg "super" = none := PySem.W.mg_none_of X G n_super
  exact ⟨gC, fun base => ⟨ef, _, gC, ox, e_i, e_it, e_k, hb1 [.none, .none] rfl, hfn base ns T⟩, fun base => ⟨ef, _, gC, ox, e_i, e_it, e_k, hb2, hfn base ns T⟩,
    ⟨e_ga, e_gg, e_ex, e_hd⟩, e_no, ⟨e_ga, e_gg, e_ex, e_hd, e_ha, e_hn, e_ht, e_hm⟩, ⟨nm, q, N, bs, tl, sn, sub, ab, col, dd, m0, m1, m2, m3, m5, e_l, e_t⟩, e_ty, em_self e_ex e_hd e_ty e_self, e_sub⟩
end Rm

set_option maxRecDepth 100000
set_option maxHeartbeats 4000000
namespace Rm
open PySem PySem.Spec L2
open PyProof.Rows hiding St
open SeqAt MeetsSeq

/-! ### data of any kind beside a text; in a tuple of texts; is True -/
section
variable {A : Around} {s : Shared}
theorem rcAt_Dstr {d : PyData} {as : List Addr} {v : Value} (z : Str) (t : Tok) (r : Reads s.heap v d as) (hu : A.units < cLine) : RcAt A s v (.str z t) (isT z d) := by
  cases r with
  | none => exact RcAt.none_str z t
  | bool y => exact RcAt.bool_str y z t
  | int y u => exact RcAt.int_str y u z t
  | str y u =>
    have e := RcAt.str_str (A := A) (s := s) y u z t
    have q : isT z (.str y) = (y == z) := by
      unfold isT
      rw [Bool.eq_iff_iff]
      simp
    rw [q]
    exact e
  | list k1 k2 k3 k4 => exact RcAt.list_str z t ⟨_, k1, k2, _, k3⟩ hu
  | tuple k1 k2 k3 k4 => exact RcAt.tuple_str z t ⟨_, k1, k2, _, k3⟩ hu
  | dict k1 k2 k3 k4 k5 => exact rc_dict_str z t k1 k2 k3 hu
end
section
variable {X : Cx}
/-- x == a text, x any small data -/
def rEqS (K : PySem.W.Frag) : R2 := fun x y H Q => ∃ d z, Dx K H x d ∧ y = .str z ∧ Sm d ∧ Q (.bl (isT z d)) H
theorem op_eqS (hu : X.A.units + 64 < cLine) : OpR X (compareOp .Eq) (rEqS X.K) := by
  intro pins s σ H x y v u Q I rx ry h
  obtain ⟨d, z, hd, rfl, sm, q⟩ := h
  obtain ⟨t, rfl⟩ := ry
  obtain ⟨⟨as, r⟩, _⟩ := Dx.shw I d x v hd rx sm.sh sm.len
  exact rcAt_Dstr z t r (by omega) X.prog X.w _ _ ⟨.bl _, H, I, rfl, q⟩
/-- x in a tuple of texts, x any small data -/
def rInS (K : PySem.W.Frag) : R2 := fun x y H Q => ∃ (d : PyData) (p : Addr) (zs : List Str), Dx K H x d ∧ y = .ref p ∧ SqT K H p (zs.map V.str) ∧ Sm d ∧ Q (.bl (zs.any fun z => isT z d)) H
theorem vals_strs {us : List Value} : ∀ {zs : List Str}, Vals (zs.map V.str) us → ∀ v ∈ us, ∃ z ∈ zs, ∃ t, v = .str z t := by
  intro zs
  induction zs generalizing us with
  | nil => intro r; cases r; intro v h; cases h
  | cons z zs ih =>
    intro r
    rw [List.map_cons] at r
    cases r with
    | cons r1 r2 =>
      intro v h
      rcases List.mem_cons.mp h with h | h
      · obtain ⟨t, e⟩ := r1
        subst h
        exact ⟨z, .head _, t, e⟩
      · obtain ⟨z', m, q⟩ := ih r2 v h
        exact ⟨z', .tail _ m, q⟩
theorem op_inS (hu : X.A.units + 65 < cLine) : OpR X (compareOp .In) (rInS X.K) := by
  intro pins s σ H x y v u Q I rx ry h
  obtain ⟨d, p, zs, hd, rfl, hp, sm, q⟩ := h
  cases ry
  obtain ⟨⟨as, r⟩, _⟩ := Dx.shw I d x v hd rx sm.sh sm.len
  obtain ⟨its, rv, ⟨o, ho, hc, n, hdt⟩, hlen⟩ := I.tuple hp
  let e : Value → Bool := fun y => match y with
    | .str z _ => isT z d
    | _ => false
  refine in_tupleAt e ⟨_, ho, hc, _, hdt⟩ (fun y hy => ?_) ?_
  · obtain ⟨z, _, t, rfl⟩ := vals_strs rv y (by simpa using hy)
    exact eqAt_strD z t r (show X.A.in1.units < cLine by show X.A.units + 1 < cLine; omega)
  · have hq : its.toArray.any e = zs.any fun z => isT z d := by
      rw [← Array.any_toList]
      simp only [List.toList_toArray]
      clear hdt ho hc hp q hlen
      induction zs generalizing its with
      | nil => cases rv; rfl
      | cons z zs ih =>
        rw [List.map_cons] at rv
        cases rv with
        | cons r1 r2 =>
          obtain ⟨t, rfl⟩ := r1
          rw [List.any_cons, List.any_cons, ih _ r2]
    rw [hq]
    exact ⟨.bl _, H, I, rfl, q⟩
theorem op_isB : OpR X (compareOp .Is) (fun x y H Q => ∃ a b, x = .bl a ∧ y = .bl b ∧ Q (.bl (decide (a = b))) H) := by
  intro pins s σ H x y v u Q I rx ry h
  obtain ⟨a, b, rfl, rfl, q⟩ := h
  cases rx
  cases ry
  show wpAny _ _ ((isSame (Value.bool a) (.bool b)) >>= fun z => pure (Value.bool z)) _ _ s
  refine wpAny_bind (wpAny_of_eq (a := decide (a = b)) (by cases a <;> cases b <;> rfl) (wpAny_pure (fin_bl I q rfl)))
end
/-! ### a def called by one keyword -/
def CeK (P : Program) (w : World) (K : PySem.W.Frag) (mg : Str → Option Value) (base : Heap) (CX : CXT)
    (k : Nat) (x : Str) (ps : List Str) (y : Str) (sp : Sp) : Prop :=
  ∃ f fd, mg x = some (.ref f) ∧ PySem.W.keepIn K (.ref f) = true ∧ Kw1 fd ps 0 y ∧ FnG P w K mg base CX k f fd ps sp
theorem pe_ceK {X : Cx} {CX : CXT} {k : Nat} {x y : Str} {ps : List Str} {sp : Sp} {E : XK} {e : Expr} {te : TE} {p pos kpos : Pos}
    (D : CeK X.prog X.w X.K X.mg X.base CX k x ps y sp) (hr : Room k X.A) (hG : Gd X.A) (he : PE X e te) (hx : Passes CX X E) (hg : Gl X x := by rfl)
    (hdb : (x == ("__debug__" : Str)) = false := by decide) : PE X (.Call (.Name x p) [] [⟨some y, e, kpos⟩] pos) (tCall sp [] E (tCons te tNil)) := by
  obtain ⟨f, fd, hm, hk, hb, F⟩ := D
  constructor
  intro pins s σ H Q I h
  refine wpAny_Call_Name_kw (ld_glob I hg hm ?_ hdb)
  refine PySem.W.callWith_KW0 (first := []) (h₀ := X.base) I.ok.mod.kin hk rfl (thn (kw_one he I (show te σ H _ from h)) fun us s1 hh => ?_) rfl
  obtain ⟨v, u, H1, rfl, I1, ru, q⟩ := hh
  exact ⟨I1.kIn, goes1 (us := []) (vs := []) F hr hG hb hx I1 .nil ru rfl q⟩
/-! ### isinstance of data: which built-in kinds -/
def isKd (T : String) (d : PyData) : Bool := (tyD d == T) || (T == "int" && tyD d == "bool")
theorem kit_kd {K : PySem.W.Frag} {T : String} (h : T = "str" ∨ T = "tuple" ∨ T = "list" ∨ T = "dict" ∨ T = "bool" ∨ T = "int") : ∀ d : PyData, PySem.W.kitOne K (.type (tyD d)) (.type T) = some (isKd T d) := by
  rcases h with rfl | rfl | rfl | rfl | rfl | rfl <;> (intro d; cases d <;> (dsimp only [tyD, isKd]; exact kit_ty (by decide +kernel)))
theorem isi_kd {K : PySem.W.Frag} {H : Hp} {v : V} {d : PyData} {Q : VK} {T : String} (hT : T = "str" ∨ T = "tuple" ∨ T = "list" ∨ T = "dict" ∨ T = "bool" ∨ T = "int") (h : Dx K H v d) (q : Q (.bl (isKd T d)) H) :
    rIsi K [v, .ty T] H Q := ⟨v, .ty T, _, _, _, rfl, .ty _, h.tyx, kit_kd hT d, q⟩
/-! ### members -/
/-- an integer from lo to hi -/
def isW (lo hi : Int) : PyData → Bool
  | .int i => decide (lo ≤ i) && decide (i ≤ hi)
  | _ => false
def isCh (d : PyData) : Bool := isT "change" d || isT "replace" d
def memD : PyData → Bool
  | .tuple [p, w, m] => isW 1 1000000 p && ((isT "locks" w && (rkD m).isSome) || (isT "changes" w && isCh m))
  | _ => false
end Rm
namespace Rm
open PySem PySem.Spec L2
open PyProof.Rows hiding St
/-! ### what is new -/
def nw (H H' : Hp) : Hp := fun b => match H b with
  | none => H' b
  | some _ => none
theorem none_of {H H' : Hp} {p : Addr} (s : Same H H') (n : H' p = none) : H p = none := by
  cases e : H p with
  | none => rfl
  | some u => rw [s _ _ e] at n; cases n
theorem nw_of {H H' : Hp} {p : Addr} {u : HO} (f : H p = none) (h : H' p = some u) : nw H H' p = some u := by
  unfold nw
  rw [f]
  exact h
theorem nw_at {H H' : Hp} {p t : Addr} {u o o' : HO} (ht : H t = some o) (f : H p = none) (h : H' p = some u) : nw H (upd H' t o') p = some u :=
  nw_of f (by rw [upd_ne (fun e => by rw [e, ht] at f; cases f)]; exact h)
theorem nw_same {H H' : Hp} : Same (nw H H') H' := fun b u h => by
  unfold nw at h
  split at h
  · exact h
  · cases h
theorem nw_off {H H' : Hp} {p : Addr} {u o : HO} (hp : H p = some u) : Same (nw H H') (upd H' p o) := fun b v h => by
  rw [upd_ne (fun e => by unfold nw at h; rw [e, hp] at h; cases h)]
  exact nw_same _ _ h
/-- a drawn value, all of it new -/
def spAnyN (K : PySem.W.Frag) : Sp := fun vs H Q _ => ∃ t o, vs = [.ref t] ∧ H t = some o ∧ IsTape o ∧
  ∀ v d H', Dx K (nw H H') v d → Sv d → Nxt t H H' → Q v H'
/-- lists and tuples of small data are small -/
theorem sv_dep : ∀ {ds : List PyData}, (∀ d ∈ ds, Sv d) → PyData.showableAll ds = true ∧ PyData.leavesShortAll 100 ds = true ∧ PyData.weightAll ds ≤ 1010 * ds.length ∧ PyData.depthAll ds ≤ 10
  | [], _ => ⟨rfl, rfl, by simp [PyData.weightAll], by simp [PyData.depthAll]⟩
  | d :: ds, h => by
    have hd := h d (.head _)
    obtain ⟨a, b, c, e⟩ := sv_dep (ds := ds) fun x m => h x (.tail _ m)
    obtain ⟨h1, h2, h3, h4⟩ := hd
    refine ⟨by simp [PyData.showableAll, h1, a], by simp [PyData.leavesShortAll, h2, b], ?_, ?_⟩
    · simp only [PyData.weightAll, List.length_cons]; omega
    · simp only [PyData.depthAll]; omega
theorem sm_seq {ds : List PyData} (h : ∀ d ∈ ds, Sv d) (hl : ds.length ≤ 40) : Sm (.list ds) ∧ Sm (.tuple ds) := by
  obtain ⟨a, b, c, e⟩ := sv_dep h
  refine ⟨⟨by simpa [PyData.showable] using a, by simpa [PyData.leavesShort] using b, ?_, ?_⟩, ⟨by simpa [PyData.showable] using a, by simpa [PyData.leavesShort] using b, ?_, ?_⟩⟩
  · simp only [PyData.weight]; omega
  · simp only [PyData.depth]; omega
  · simp only [PyData.weight]; omega
  · simp only [PyData.depth]; omega
theorem int_len {n k : Nat} (hk : 1 ≤ k) (h : n < 10 ^ k) : (PyData.int (n : Int)).shown.length ≤ k := by
  have e : (PyData.int (n : Int)).shown = Str.ofString (Nat.repr n) := rfl
  rw [e, ofString_len]
  have e2 : (Nat.repr n).length = (Nat.toDigits 10 n).length := by simp [Nat.repr]
  rw [e2]
  exact digits10_le hk h
theorem Sv.int {i : Int} (h0 : 0 ≤ i) (h : i < 1000000000) : Sv (.int i) := by
  obtain ⟨n, rfl⟩ := Int.eq_ofNat_of_zero_le h0
  have hl : n.log2 < 64 := by
    by_cases e : n = 0
    · rw [e]; decide
    · exact (Nat.log2_lt e).2 (by omega)
  refine ⟨?_, ?_, ?_, ?_⟩
  · simp only [PyData.showable, Int.natAbs_natCast]
    exact decide_eq_true (by omega)
  · simp only [PyData.leavesShort]
    exact decide_eq_true (Nat.le_trans (int_len (k := 9) (by decide) (by omega)) (by decide))
  · simp only [PyData.weight, Int.natAbs_natCast]
    split <;> omega
  · simp [PyData.depth]
theorem dxa_len {K : PySem.W.Frag} {H : Hp} : ∀ {xs : List V} {ds : List PyData}, DxAll K H xs ds → xs.length = ds.length
  | _, _, .nil => rfl
  | _, _, .cons _ r => congrArg Nat.succ (dxa_len r)
theorem dxa_snoc {K : PySem.W.Frag} {H : Hp} : ∀ {vs : List V} {ds : List PyData} {v : V} {d : PyData}, DxAll K H vs ds → Dx K H v d → DxAll K H (vs ++ [v]) (ds ++ [d])
  | _, _, _, _, .nil, h => .cons h .nil
  | _, _, _, _, .cons a r, h => .cons a (dxa_snoc r h)
theorem dxa_set {K : PySem.W.Frag} {H : Hp} : ∀ {vs : List V} {ds : List PyData} {v : V} {d : PyData} {j : Nat}, DxAll K H vs ds → Dx K H v d → DxAll K H (vs.set j v) (ds.set j d)
  | _, _, _, _, _, .nil, _ => .nil
  | _, _, _, _, 0, .cons _ r, h => .cons h r
  | _, _, _, _, j + 1, .cons a r, h => .cons a (dxa_set r h)
theorem dxa_drop {K : PySem.W.Frag} {H : Hp} : ∀ {vs : List V} {ds : List PyData} {j : Nat}, DxAll K H vs ds → DxAll K H (vs.eraseIdx j) (ds.eraseIdx j)
  | _, _, _, .nil => .nil
  | _, _, 0, .cons _ r => r
  | _, _, j + 1, .cons a r => .cons a (dxa_drop r)
theorem dxa_app {K : PySem.W.Frag} {H : Hp} : ∀ {vs us : List V} {ds es : List PyData}, DxAll K H vs ds → DxAll K H us es → DxAll K H (vs ++ us) (ds ++ es)
  | _, _, _, _, .nil, h => h
  | _, _, _, _, .cons a r, h => .cons a (dxa_app r h)
theorem dxa_rev {K : PySem.W.Frag} {H : Hp} : ∀ {vs : List V} {ds : List PyData}, DxAll K H vs ds → DxAll K H vs.reverse ds.reverse
  | _, _, .nil => .nil
  | _, _, .cons a r => by
    rw [List.reverse_cons, List.reverse_cons]
    exact dxa_app (dxa_rev r) (.cons a .nil)
theorem Nxt.go {t : Addr} {H H1 H2 : Hp} (n : Nxt t H H1) (s : Same H1 H2) : Nxt t H H2 := by
  obtain ⟨k, o, h1, h2⟩ := n
  exact ⟨fun b u hb ne => s _ _ (k b u hb ne), o, s _ _ h1, h2⟩
theorem Nxt.put {t l : Addr} {o : HO} {H H1 : Hp} (n : Nxt t H H1) (f : H l = none) (ht : t ≠ l) : Nxt t H (L2.upd H1 l o) := by
  obtain ⟨k, o', h1, h2⟩ := n
  exact ⟨fun b u hb ne => by rw [upd_ne (fun e => by rw [e, f] at hb; cases hb)]; exact k b u hb ne, o', by rw [upd_ne ht]; exact h1, h2⟩
theorem Nxt.turn {t : Addr} {o : HO} {H H1 : Hp} (n : Nxt t H H1) (ho : IsTape o) : Nxt t H (L2.upd H1 t o) := by
  obtain ⟨k, o', h1, h2⟩ := n
  exact ⟨fun b u hb ne => by rw [upd_ne ne]; exact k b u hb ne, o, upd_same, ho⟩
theorem Nxt.trans {t : Addr} {H H1 H2 : Hp} (n : Nxt t H H1) (m : Nxt t H1 H2) : Nxt t H H2 := by
  obtain ⟨k, o', h1, h2⟩ := n
  obtain ⟨k2, o2, h3, h4⟩ := m
  exact ⟨fun b u hb ne => k2 b u (k b u hb ne) ne, o2, h3, h4⟩
end Rm

set_option maxRecDepth 100000
set_option maxHeartbeats 4000000
namespace Rm
open PySem PySem.Spec L2 LamX
open PyProof.Rows hiding St

/-! ### x(lambda: e), where e may use that no display is being written, and errors of e are wished for at the slots of x -/
/-- the def at g, called from X at s -/
abbrev inG (X : Cx) (CXg : CXT) (Ng : List Str) (qg : Str) (sg : Scope) (g : Addr) (cg : Value) (s : Shared) (H : Hp) (Eg : XK) : Cx :=
  cxOf CXg X.prog X.w X.K X.mg X.base Ng qg sg g cg X.A X.stack s H Eg
abbrev lamQ (X : Cx) : Str := X.env.qual ++ "<lambda>"
abbrev lamO (X : Cx) (ps : Arguments) (e : Expr) (sc : Scope) (pm : Value) (c' : Addr) (ctv : Value) : Obj :=
  PySem.W.kla_obj "<lambda>" (lamQ X) ps e sc (cloFrom X.env.cells sc.names []) pm c' ctv
section
variable {X : Cx} {pins : List (Addr × Obj)} {σ : L2.St} {H : Hp} {s : Shared}
theorem act_gd {CXg : CXT} {Eg : XK} {Ng : List Str} {qg a : Str} {sg sc : Scope} {g f c' : Addr} {cg pm ctv : Value} {ps : Arguments} {e : Expr}
    {k i : Nat} {pn : List (Addr × Obj)} {xe : Value → Shared → Prop} {W : WX} {tb : XK → TE} {p1 p2 : Pos}
    (I : Inv X pins σ H s) (L : LamS X.env.scope sc) (hf : s.heap.get? f = some (lamO X ps e sc pm c' ctv)) (nf : H f = none) (ff : f ∉ frs X.stack)
    (hb : bindArgs (PySem.W.kla_fn "<lambda>" (lamQ X) ps e sc (cloFrom X.env.cells sc.names []) pm (.ref c') ctv) ⟨[], []⟩ = pure [])
    (tk : Takes ((inG X CXg Ng qg sg g cg s H Eg).tr pn xe) W) (hr : Room (k + 1) (X.A.deeper (envOfC qg sg s.heap.objs.size g cg)))
    (hG : Gd (X.A.deeper (envOfC qg sg s.heap.objs.size g cg)))
    (he : ∀ (A : Around) (outer : List Env) (z : Shared) (J : Hp) (E : XK), Room k (A.deeper (lamEnv X sc z.heap.objs.size f c')) → Gd (A.deeper (lamEnv X sc z.heap.objs.size f c')) →
      PE (lamCx X A outer z J E sc f c') e (tb E))
    (hN : Ng[i]? = some a) (hv : Vis sg a) (hd : (a == ("__debug__" : Str)) = false := by decide) (hcd : (a == ("__classdict__" : Str)) = false := by decide) :
    PE ((inG X CXg Ng qg sg g cg s H Eg).tr pn xe) (.Call (.Name a p1) [] [] p2)
      (fun τ J Q => τ[i]? = some (some (.ref f)) ∧ J c' = some (CodeO c' (lamQ X)) ∧ tb (WE W τ) σ J Q) := by
  constructor
  rintro pinsZ z τ J Q IZ ⟨slot, code, rd⟩
  have asked := (pe_var (pos := p1) (i := i) hN hv hd hcd).run pinsZ z τ J (fun v J1 => v = .ref f ∧ J1 = J) IZ ⟨.ref f, slot, rfl, rfl⟩
  refine wpAny_Call_Name_kw (thn asked fun u z1 ⟨v, J1, I1, ru, ev, eJ⟩ => ?_)
  subst ev eJ
  have eu : u = Value.ref f := ru
  subst eu
  have keeps : Un (frs X.stack) [] H J1 s.heap z1.heap := I1.base
  have fz : z1.heap.get? f = some (lamO X ps e sc pm c' ctv) := keeps.keep f _ hf nf ff (fun q => by cases q)
  refine PySem.W.callWith_F0 ⟨_, _, _, _, fz⟩ ?_
  obtain ⟨⟨oc, vs, t, c1, c2, c3⟩, _, _⟩ := I1.hok c' _ code
  refine wpAny_call (codeAny_mono (R := CR (L2.CX X.prog X.w) ((envOfC qg sg s.heap.objs.size g cg) :: X.stack) X.prog X.w J1 z1 Q (WE W τ)) ?_ fun r z2 hq => ?_)
  · refine PySem.W.kla_callFunE hr.depth fz rfl L.co L.gen rfl ⟨c', oc, vs, t, rfl, c1, c2, c3⟩ ?_
    have hb' : bindArgs (PySem.W.kla_fn "<lambda>" (lamQ X) ps e sc (cloFrom X.env.cells sc.names []) pm (.ref c') ctv) ⟨[] ++ [], []⟩ = pure [] := hb
    rw [hb']
    refine wpAny_pure (wpAny_newFunctionEnv (fun y hy => (L.own y hy).2) (fun y hy => by cases hy) (fun hp names but => ⟨I1.nolimit.fresh _ but, ?_⟩) L.kind)
    have grown : ∀ b o, z1.heap.get? b = some o → hp.get? b = some o := fun b o q =>
      but.extBut b o (Nat.ne_of_lt (Heap.lt_size q)) (Heap.get?_push_of_some _ q)
    have start := lam_start2 (A := X.A.deeper (envOfC qg sg s.heap.objs.size g cg)) (outer := (envOfC qg sg s.heap.objs.size g cg) :: X.stack) (E := WE W τ) (f := f) (c' := c')
      (tk := z1.toks + ([] : List (Str × Value)).length) I L I1.env0 hr.hd keeps names grown
    refine PySem.W.kla_codeExpr (wpAny_mono ((he _ _ z1 J1 (WE W τ) (hr.deeper _) (hG.deeper _)).run [] _ _ J1 Q start rd) (fun v z3 hq => ?_) fun er z3 hq => hq)
    obtain ⟨y, J2, I2, ry, q⟩ := hq
    exact ⟨y, J2, I2.os, I2.bare, I2.base, I2.hok, ry, q⟩
  · match r, hq with
    | .error er, hq => exact passAt tk τ pinsZ J1 z1 er z2 I1 hq
    | .ok (.ret u), hq => exact I1.after hq
    | .ok .next, hq => exact False.elim hq
    | .ok .brk, hq => exact False.elim hq
    | .ok .cont, hq => exact False.elim hq
/-- what the def x at g, whose one name in front is a, makes of the thing that it may call -/
def Gives (X : Cx) (x a q : Str) (Ng : List Str) (sg : Scope) (g : Addr) (cg : Value) (bg : List Stmt) (TT : (XK → Hp → VK → Prop) → Hp → VK → Prop) : Prop :=
  ∀ (f c' : Addr) (s : Shared) (H : Hp) (Q : VK) (tl : XK → Hp → VK → Prop),
    (∀ (W : WX) (pn : List (Addr × Obj)) (xe : Value → Shared → Prop) (p1 p2 : Pos), Takes ((inG X CX0 Ng x sg g cg s H E0).tr pn xe) W →
      PE ((inG X CX0 Ng x sg g cg s H E0).tr pn xe) (.Call (.Name a p1) [] [] p2)
        (fun τ J Q => τ[0]? = some (some (.ref f)) ∧ J c' = some (CodeO c' q) ∧ tl (WE W τ) J Q)) →
    H c' = some (CodeO c' q) → TT tl H Q →
    ∃ t, PSs (inG X CX0 Ng x sg g cg s H E0).nox bg t ∧ t { nx := fun _ H' => Q .non H', rt := Q } (L2.start Ng [.ref f]) H
theorem pe_lamG {T : List (Addr × Str)} {TT : (XK → Hp → VK → Prop) → Hp → VK → Prop} {x a : Str} {g c P : Addr} {k : Nat} {pg ps : Arguments} {bg : List Stmt} {sg sc : Scope}
    {dV kV doc pm cg ct oc : Value} {an od : Option Addr} {osl : Array (Option Value)} {Ng : List Str} {e : Expr} {t : XK → TE} {p lp pos : Pos}
    (hm : X.mg x = some (.ref g)) (hk : PySem.W.keepIn X.K (.ref g) = true)
    (lk : X.K.lookup g = some ⟨oc, od, .func (PySem.W.fnOf x x pg bg sg dV kV doc pm an cg ct), osl⟩) (hcg : PySem.W.codeIn X.K cg x = true)
    (hbd : L2.Binds X.K (PySem.W.fnOf x x pg bg sg dV kV doc pm an cg ct) [a] []) (Sg : FnScope Ng [a] sg)
    (give : Gives X x a (lamQ X) Ng sg g cg bg TT) (TB : TabB X.base X.mg c P)
    (hT : (P, lamQ X) ∈ T) (hu : ∀ y ∈ T, y.1 = P → y.2 = lamQ X) (hr : Room (k + 2) X.A) (hG : Gd X.A)
    (he : ∀ (A : Around) (outer : List Env) (z : Shared) (J : Hp) (E : XK) (f c' : Addr), Room k (A.deeper (lamEnv X sc z.heap.objs.size f c')) → Gd (A.deeper (lamEnv X sc z.heap.objs.size f c')) →
      PE (lamCx X A outer z J E sc f c') e (t E))
    (L : LamS X.env.scope sc) (hg : Gl X x := by rfl) (h0 : Ng[0]? = some a := by rfl) (hva : Vis sg a := by first | exact Or.inl rfl | exact Or.inr (Or.inl rfl)) (hcode : X.env.code = .ref c := by rfl) (hdef : defaultsOf ps X.env = ([], []) := by rfl)
    (hba : ∀ (q : Str) (cl : List (Str × Addr)) (pm cv ctv : Value), bindArgs (PySem.W.kla_fn "<lambda>" q ps e sc cl pm cv ctv) ⟨[], []⟩ = pure [] := by intros; rfl)
    (hdb : (x == ("__debug__" : Str)) = false := by decide) (hd : (a == ("__debug__" : Str)) = false := by decide) (hcd : (a == ("__classdict__" : Str)) = false := by decide) :
    PE X (.Call (.Name x p) [.Lambda ps e sc lp] [] pos) (tLam T TT t) := by
  constructor
  rintro pins s σ H Q I ⟨tabs, rd⟩
  refine wpAny_Call_Name_kw (ld_glob I hg hm (PySem.W.callWith_K (h₀ := X.base) I.ok.mod.kin hk ?_ (by rfl) (by rfl)) hdb)
  show wpAny _ _ (spliced ((false, eval (.Lambda ps e sc lp) X.env) :: backTo pos (starEach [] X.env))) _ _ s
  refine Calls.spliced_cons (lam_make2 I TB hcode hT hu tabs hdef (L.has I.ok) fun f c' pm' ctv H1 z I1 eN T1 hf nf ff co => Calls.spliced_nil ⟨I1.kIn, ?_⟩)
  refine wpAny_call (codeAny_mono (R := CR CX0 X.stack X.prog X.w H1 z Q E0) ?_ fun r z2 hq => ?_)
  · refine run_ofS (us := [.ref f]) (vs := [.ref f]) lk hcg Sg hr I1.env0 (hbd z [.ref f] I1.kIn rfl) (.cons rfl .nil) rfl fun hr' => ?_
    obtain ⟨t', ht, q⟩ := give f c' z H1 Q (fun E J Q' => t E σ J Q') (fun W pn xe p1 p2 tk =>
      act_gd (i := 0) I1 L hf nf ff (hba _ _ _ _ _) tk hr' (hG.deeper _) (fun A outer y J E h1 h2 => he A outer y J E f c' h1 h2) h0 hva hd hcd) co (rd H1 eN T1)
    exact ⟨t', ht.nox, q⟩
  · match r, hq with
    | .error er, hq => exact False.elim hq
    | .ok (.ret u), hq => exact I1.after hq
    | .ok .next, hq => exact False.elim hq
    | .ok .brk, hq => exact False.elim hq
    | .ok .cont, hq => exact False.elim hq
end
end Rm

set_option maxRecDepth 100000
set_option maxHeartbeats 4000000
namespace Rm
open PySem PySem.Spec L2
open PyProof.Rows hiding St

/-! ### the end, where the law's defs make lambdas: cs, the code objects and their tables -/
abbrev tabO : Obj := { cls := .none, data := .fields #[] }
section
variable {P : Program} {w : World} {K : PySem.W.Frag} {mg mb : Str → Option Value} {k : Nat} {fa a : Addr} {fd : FuncData} {x : Str} {sp : Sp} {cs : List (Addr × Addr)}
variable {s : Shared} {vs : List Value} {ns : List Int}
/-- H tracks the tables, and the script at most -/
structure BareT (P : Program) (w : World) (K : PySem.W.Frag) (s : Shared) (a : Addr) (cs : List (Addr × Addr)) (H : Hp) : Prop where
  tb : ∀ p ∈ cs, H p.2 = some (.tbl #[])
  only : ∀ b, H b = none ∨ (∃ p ∈ cs, p.2 = b) ∨ ∃ o xs, H b = some (.frz o (.lst xs))
  hok : HOk P w H s.heap
  at_ : ∀ b u, H b = some u → b = a ∨ ∃ p ∈ cs, p.2 = b
  out : ∀ u, H a = some u → K.lookup a = none
  lst : ∃ vs : List Value, s.heap.get? a = some { cls := .type "list", data := .seq vs.toArray }
  isT : ∀ p ∈ cs, s.heap.get? p.2 = some tabO
  nT : ∀ p ∈ cs, K.lookup p.2 = none
theorem BareT.free {H : Hp} (B : BareT P w K s a cs H) {b : Addr} {o : Obj} (e : s.heap.get? b = some o) (h1 : ∀ vs n, o.data ≠ .seq vs n) (h2 : o.data ≠ .fields #[]) : H b = none := by
  cases q : H b with
  | none => rfl
  | some u =>
    rcases B.at_ b u q with z | ⟨p, hp, z⟩
    · obtain ⟨vs, l⟩ := B.lst
      rw [z, l] at e
      cases e
      exact (h1 _ _ rfl).elim
    · have t := B.isT p hp
      rw [z, e] at t
      cases t
      exact (h2 rfl).elim
theorem BareT.dict {H : Hp} (B : BareT P w K s a cs H) {b : Addr} {o : Obj} {es : Array DictEntry} {ep : Nat} (e : s.heap.get? b = some o) (d : o.data = .dict es ep) : H b = none :=
  B.free e (fun vs n z => by rw [d] at z; cases z) fun z => by rw [d] at z; cases z
theorem BareT.names {H : Hp} (B : BareT P w K s a cs H) {b : Addr} {m : Str → Option Value} (h : s.heap.Ns b m) : (hidT s.heap H).Ns b m := by
  obtain ⟨o, es, ep, e, d, r⟩ := h
  exact ⟨o, es, ep, hidT_get e (B.dict e d), d, r⟩
theorem BareT.kin {H : Hp} (B : BareT P w K s a cs H) (KX : K.In s.heap) : K.In (hidT s.heap H) := fun b o e => by
  refine hidT_get (KX b o e) ?_
  cases q : H b with
  | none => rfl
  | some u =>
    rcases B.at_ b u q with z | ⟨p, hp, z⟩
    · subst z
      rw [B.out u q] at e
      cases e
    · rw [← z, B.nT p hp] at e
      cases e
theorem told_ofT {H : Hp} (B : BareT P w K s a cs H) (KX : K.In s.heap) (hns : s.heap.Ns mainGlobals mg) (hb : s.heap.Ns builtinsNs mb)
    (hbb : ∀ y : Str, y ≠ "__name__" → mb y = bootBuiltins y) (hlim : s.heap.NoLimit) (hg : s.gens = #[]) (hr : Room k callerA)
    (C : ∀ p ∈ cs, PySem.W.CodeHd s.heap p.1 p.2)
    (hbm : ∃ (bm : Addr) (ob : Obj), mg "__builtins__" = some (.ref bm) ∧ bm ≠ builtinsNs ∧ s.heap.get? bm = some ob ∧ ob.cls = .type "module" ∧ ob.dict = some builtinsNs ∧ ob.data = .plain)
    (F : ∀ base : Heap, K.In base → base.Ns mainGlobals mg → (∀ p ∈ cs, LamX.TabB base mg p.1 p.2) → FnG P w K mg base CX0 k fa fd [x] sp)
    (hbind : ∀ (s : Shared) (u : Value), BindsTo s fd ⟨[u], []⟩ [(x, u)])
    (q : sp [.ref a] H (fun v _ => v = .bl true) E0) :
    codeAny (model P w) callerA (.call (.ref fa) ⟨[.ref a], []⟩) (Told s) s := by
  have kin := B.kin KX
  have lim : (hidT s.heap H).NoLimit := by
    obtain ⟨mc, h1, h2⟩ := hlim
    exact ⟨mc, B.names h1, h2⟩
  have md : Mod K mg (hidT s.heap H) := ⟨kin, B.names hns, ⟨mb, B.names hb, hbb⟩, lim⟩
  have none_in : ∀ b : Addr, b ∉ ([] : List Addr) := fun b z => by cases z
  have isDict : ∀ {b : Addr} {m : Str → Option Value}, s.heap.Ns b m → ∀ {o : Obj}, s.heap.get? b = some o → ∃ es ep, o.data = .dict es ep := fun h o e => by
    obtain ⟨o', es, ep, e', d, _⟩ := h
    rw [e] at e'
    cases e'
    exact ⟨es, ep, d⟩
  have tabB : ∀ p ∈ cs, LamX.TabB (hidT s.heap H) mg p.1 p.2 := fun p hp => by
    have tp := B.isT p hp
    refine ⟨?_, ?_, fun z => ?_⟩
    · obtain ⟨o, us, file, tf, flags, tg, inF, text, tt, e1, r1, r2, r3, rest⟩ := C p hp
      refine ⟨o, us, file, tf, flags, tg, inF, text, tt, hidT_get e1 (B.free e1 (fun vs n z => ?_) fun z => ?_), r1, r2, r3, rest⟩
      · rw [r2] at z
        cases z
      · rw [r2] at z
        cases z
        simp at r3
    · obtain ⟨bm, ob, b1, b2, b3, b4, b5, b6⟩ := hbm
      refine ⟨bm, ob, b1, b2, fun z => ?_, fun z => ?_, hidT_get b3 (B.free b3 (fun vs n z => ?_) fun z => ?_), b4, b5, b6⟩
      · obtain ⟨es, ep, d⟩ := isDict hns (z ▸ b3)
        rw [b6] at d
        cases d
      · rw [z, tp] at b3
        cases b3
        cases b6
      · rw [b6] at z
        cases z
      · rw [b6] at z
        cases z
    · obtain ⟨es, ep, d⟩ := isDict hns (z ▸ tp)
      cases d
  have env : Env0 P w K mg (hidT s.heap H) callerA [] s H :=
    ⟨rfl, md, fun b o e => of_hidT e, Nat.le_of_eq (hidT_size _ _), trivial, fun b z => absurd z (none_in b), B.hok, .of_eq hg⟩
  have run := (F _ kin (B.names hns) tabB).run callerA [] s H ⟨[.ref a], []⟩ [.ref a] [.ref a] _ _ hr rfl env (hbind s (.ref a)) (.cons rfl .nil) q
  refine codeAny_mono run fun r s' h => ?_
  match r, h with
  | .error e, h => exact False.elim h
  | .ok .next, h => exact False.elim h
  | .ok .brk, h => exact False.elim h
  | .ok .cont, h => exact False.elim h
  | .ok (.ret u), ⟨v, H', os, bare, un, hok', r', ev⟩ =>
    have ev : v = .bl true := ev
    subst ev
    have eu : u = Value.bool true := r'
    subst eu
    have kept : ∀ b o, (¬ ∃ p ∈ cs, p.2 = b) → s.heap.get? b = some o → s'.heap.get? b = some o := fun b o nb e => by
      rcases B.only b with z | z | ⟨ob, xs, z⟩
      · exact un.keep b o e z (none_in b) (none_in b)
      · exact absurd z nb
      · have e1 := (B.hok b _ z).1
        have e2 := (hok' b _ (un.frzs b ob _ z)).1
        exact e2.trans (e1.symm.trans e)
    have grown : ∀ p ∈ cs, ∃ more : Array Value, s'.heap.get? p.2 = some { cls := .none, data := .fields more } := fun p hp => by
      obtain ⟨more, z⟩ := un.tbls p.2 #[] (B.tb p hp)
      exact ⟨_, hok' p.2 _ z⟩
    refine ⟨rfl, ⟨fun b o e => ?_, fun b o e => ?_⟩, os, bare⟩
    · by_cases nb : ∃ p ∈ cs, p.2 = b
      · obtain ⟨p, hp, rfl⟩ := nb
        obtain ⟨more, hm⟩ := grown p hp
        have tp := B.isT p hp
        rw [tp] at e
        cases e
        exact .inr (.inl ⟨((C p hp).tab tp).isCodeTable, rfl, #[], more, rfl, by rw [Array.empty_append]; exact hm⟩)
      · exact .inl (kept b o nb e)
    · by_cases nb : ∃ p ∈ cs, p.2 = b
      · obtain ⟨p, hp, rfl⟩ := nb
        obtain ⟨more, hm⟩ := grown p hp
        exact ⟨_, hm⟩
      · exact ⟨o, kept b o nb e⟩
/-- the tables, and the script where it is none of the written part -/
def scT (K : PySem.W.Frag) (a : Addr) (vs : List Value) (ns : List Int) (cs : List (Addr × Addr)) : Hp := fun b =>
  if b ∈ cs.map (·.2) then some (.tbl #[]) else if b = a ∧ K.lookup a = none then some (.frz { cls := .type "list", data := .seq vs.toArray } (.lst (ns.map V.int))) else none
theorem bareT (ha : s.heap.get? a = some { cls := .type "list", data := .seq vs.toArray }) (hi : IntsAre vs ns) (hl : ns.length ≤ sizeLine)
    (isT : ∀ p ∈ cs, s.heap.get? p.2 = some tabO) (nT : ∀ p ∈ cs, K.lookup p.2 = none) : BareT P w K s a cs (scT K a vs ns cs) ∧ (K.lookup a = none → Rd (scT K a vs ns cs) a (.lst (ns.map V.int))) := by
  have mem : ∀ {b : Addr}, b ∈ cs.map (·.2) ↔ ∃ p ∈ cs, p.2 = b := List.mem_map
  have na : a ∉ cs.map (·.2) := fun z => by
    obtain ⟨p, hp, e⟩ := mem.mp z
    have t := isT p hp
    rw [e, ha] at t
    have z' : Data.seq vs.toArray _ = Data.fields #[] := congrArg Obj.data (Option.some.inj t)
    cases z'
  have cases_ : ∀ {b : Addr} {u : HO}, scT K a vs ns cs b = some u → (b ∈ cs.map (·.2) ∧ u = .tbl #[]) ∨ (b = a ∧ K.lookup a = none ∧ u = .frz { cls := .type "list", data := .seq vs.toArray } (.lst (ns.map V.int))) := fun {b u} z => by
    unfold scT at z
    split at z
    · rename_i h
      exact .inl ⟨h, (Option.some.inj z).symm⟩
    · split at z
      · rename_i h
        exact .inr ⟨h.1, h.2, (Option.some.inj z).symm⟩
      · cases z
  refine ⟨⟨fun p hp => if_pos (mem.mpr ⟨p, hp, rfl⟩), fun b => ?_, fun b u z => ?_, fun b u z => ?_, fun u z => ?_, ⟨vs, ha⟩, isT, nT⟩, fun h => .inr ⟨_, (if_neg na).trans (if_pos ⟨rfl, h⟩)⟩⟩
  · cases e : scT K a vs ns cs b with
    | none => exact .inl rfl
    | some u =>
      rcases cases_ e with ⟨h, rfl⟩ | ⟨_, _, rfl⟩
      · exact .inr (.inl (mem.mp h))
      · exact .inr (.inr ⟨_, _, rfl⟩)
  · rcases cases_ z with ⟨h, rfl⟩ | ⟨rfl, _, rfl⟩
    · obtain ⟨p, hp, rfl⟩ := mem.mp h
      exact isT p hp
    · exact ⟨ha, by rw [List.length_map]; exact hl, vs, _, vals_ints hi, ha⟩
  · rcases cases_ z with ⟨h, _⟩ | ⟨h, _⟩
    · exact .inr (mem.mp h)
    · exact .inl h
  · rcases cases_ z with ⟨h, _⟩ | ⟨_, h, _⟩
    · exact absurd h na
    · exact h
end
theorem walkT {l : PySem.W.OpenLaw} {k : Nat} {q : Program} {loose : List Str} {XP : (Str → Option Value) → Heap → Prop} {YP : World → Heap → Prop} {d : DefRec}
    {K : Params → PySem.W.Frag} (hn : l.most = some 63) (hdf : d.params.defaults = []) (hr : Room k callerA)
    (hY : ∀ (w : World) (h : Heap), YP w h → (K w.params).In h)
    (F : ∀ (w : World) (mg : Str → Option Value) (fa : Addr) (h : Heap), YP w h → (K w.params).In h → h.Ns mainGlobals mg → mg d.name = some (.ref fa) →
      ∃ (fd : FuncData) (cs : List (Addr × Addr)) (T : List (Addr × Str)), (∀ p ∈ cs, h.get? p.2 = some tabO) ∧ (∀ p ∈ cs, (K w.params).lookup p.2 = none) ∧ (∀ p ∈ cs, PySem.W.CodeHd h p.1 p.2) ∧
        (∀ y ∈ T, ∃ p ∈ cs, p.2 = y.1) ∧ (∀ (s : Shared) (u : Value), BindsTo s fd ⟨[u], []⟩ [("_law_script", u)]) ∧
        ∀ base : Heap, (K w.params).In base → base.Ns mainGlobals mg → (∀ p ∈ cs, LamX.TabB base mg p.1 p.2) → FnG l.prog w (K w.params) mg base CX0 k fa fd ["_law_script"]
          (fun vs H Q _ => ∃ (a : Addr) (ns : List Int), vs = [.ref a] ∧ SqL (K w.params) H a (ns.map V.int) ∧ ns.length ≤ 63 ∧ (∀ n ∈ ns, Builtin.Int.intBits n ≤ 1048576) ∧ LamX.Tabs T H ∧ ∀ H', Q (.bl true) H')) :
    PySem.W.WalkO q loose XP YP l.row.toRowW d [] (fun f vs => PySem.call f vs) := by
  refine Att.attach_callB hn hdf fun w s₀ s mg mb fa o pm cd doc a vs ns G Y ho hd hcd hmg ha hi hlen hbits hg => ?_
  have KX := hY w _ Y
  obtain ⟨fd, cs, T, isT, nT, C, hT, hb, hF⟩ := F w mg fa _ Y KX G.T.g hmg
  have hl : ns.length ≤ sizeLine := Nat.le_trans hlen (by decide)
  obtain ⟨B, here⟩ := bareT (P := l.prog) (w := w) (K := K w.params) (cs := cs) ha hi hl isT nT
  refine told_ofT B KX G.T.g G.T.b G.T.builtins G.T.nolimit hg hr C G.T.bmain hF hb ⟨a, ns, rfl, ?_, hlen, hbits, fun y hy => ?_, fun _ => rfl⟩
  · cases hk : (K w.params).lookup a with
    | none => exact .inl (here hk)
    | some ob =>
      have e := KX a ob hk
      rw [ha] at e
      cases e
      refine .inr ⟨_, vs.toArray, _, hk, rfl, rfl, rfl, ?_, ?_⟩
      · rw [List.size_toArray, hi.length]; exact hl
      · simpa using vals_ints hi
  · obtain ⟨p, hp, e⟩ := hT y hy
    exact LamX.TabS.nil (by rw [← e]; exact B.tb p hp)
end Rm

set_option maxRecDepth 100000
set_option maxHeartbeats 4000000
namespace Rm
open PySem PySem.Spec L2
open PyProof.Rows hiding St

/-! ### a list beside an empty one -/
def rEqE (K : PySem.W.Frag) : R2 := fun x y H Q => ∃ a xs b, x = .ref a ∧ SqL K H a xs ∧ y = .ref b ∧ SqL K H b [] ∧ Q (.bl xs.isEmpty) H
theorem op_eqE {X : Cx} (hu : X.A.units < cLine) : OpR X (compareOp .Eq) (rEqE X.K) := by
  intro pins s σ H x y v u Q I rx ry h
  obtain ⟨a, xs, b, rfl, ha, rfl, hb, q⟩ := h
  cases rx
  cases ry
  obtain ⟨its, rv, hl, _⟩ := I.list ha
  obtain ⟨its2, rv2, hl2, _⟩ := I.list hb
  have z2 : its2 = [] := by
    cases rv2
    rfl
  subst z2
  refine PySem.W.cmp_ofEq ?_
  cases rv with
  | nil =>
    refine PySem.SeqAt.RcAt.lists (e := fun _ => true) hl.isList hl2.isList rfl hu (fun j h1 _ => absurd h1 (by simp)) _ _ _ _ ?_
    exact ⟨.bl _, H, I, rfl, q⟩
  | cons r rs =>
    refine PySem.SeqAt.RcAt.lists_lengths hl.isList hl2.isList (by simp) hu _ _ _ _ ?_
    exact ⟨.bl _, H, I, rfl, q⟩
def rEqET (K : PySem.W.Frag) : R2 := fun x y H Q => ∃ a xs b, x = .ref a ∧ SqT K H a xs ∧ y = .ref b ∧ SqT K H b [] ∧ Q (.bl xs.isEmpty) H
theorem op_eqET {X : Cx} (hu : X.A.units < cLine) : OpR X (compareOp .Eq) (rEqET X.K) := by
  intro pins s σ H x y v u Q I rx ry h
  obtain ⟨a, xs, b, rfl, ha, rfl, hb, q⟩ := h
  cases rx
  cases ry
  obtain ⟨its, rv, hl, _⟩ := I.tuple ha
  obtain ⟨its2, rv2, hl2, _⟩ := I.tuple hb
  have z2 : its2 = [] := by
    cases rv2
    rfl
  subst z2
  refine PySem.W.cmp_ofEq ?_
  have r := PySem.SeqAt.RcAt.tuples (A := X.A) (s := s) (items := its.toArray) (items2 := ([] : List Value).toArray) (e := fun _ => true) hl hl2 hu (fun j _ h2 => absurd h2 (by simp))
  cases rv with
  | nil => exact r _ _ _ _ ⟨.bl _, H, I, rfl, q⟩
  | cons r1 rs =>
    simp at r
    exact r _ _ _ _ ⟨.bl _, H, I, rfl, q⟩
/-! ### what an operation is, as plain data -/
def lnZ (z : Str) : Bool := decide (1 ≤ z.length) && (decide (z.length ≤ 6) && z.cps.toList.all fun c => decide (97 ≤ c) && decide (c ≤ 122))
theorem cp128 : ∀ c : Fin 128, Unicode.isAlpha c.val = ((decide (65 ≤ c.val) && decide (c.val ≤ 90)) || (decide (97 ≤ c.val) && decide (c.val ≤ 122))) ∧ Unicode.isLower c.val = (decide (97 ≤ c.val) && decide (c.val ≤ 122)) ∧
    (Unicode.isUpper c.val || Unicode.isTitle c.val) = (decide (65 ≤ c.val) && decide (c.val ≤ 90)) := by decide +kernel
def nmZ (z : Str) : Bool := decide (z.length ≤ 6) && (Txt.isascii z && (Txt.isalpha z && Txt.islower z))
theorem all_iff {z : Str} {f : Nat → Bool} : z.cps.all f = true ↔ ∀ c ∈ z.cps.toList, f c = true := by
  rw [← Array.all_toList, List.all_eq_true]
theorem any_iff {z : Str} {f : Nat → Bool} : z.cps.any f = true ↔ ∃ c ∈ z.cps.toList, f c = true := by
  rw [← Array.any_toList, List.any_eq_true]
theorem nm_ln (z : Str) : nmZ z = lnZ z := by
  rw [Bool.eq_iff_iff]
  unfold nmZ lnZ Txt.isascii Txt.isalpha Txt.islower
  simp only [Bool.and_eq_true, decide_eq_true_eq, all_iff, any_iff, Bool.not_eq_true', List.all_eq_true]
  constructor
  · rintro ⟨h6, ha, ⟨hp, hal⟩, ⟨c0, hc0, hl0⟩, hno⟩
    refine ⟨hp, h6, fun c hc => ?_⟩
    have lt := ha c hc
    obtain ⟨e1, e2, e3⟩ := cp128 ⟨c, lt⟩
    have a1 := hal c hc
    have nu : (Unicode.isUpper c || Unicode.isTitle c) = false := by
      cases e : (Unicode.isUpper c || Unicode.isTitle c) with
      | false => rfl
      | true =>
        have : z.cps.any (fun c => Unicode.isUpper c || Unicode.isTitle c) = true := any_iff.mpr ⟨c, hc, e⟩
        rw [this] at hno
        cases hno
    dsimp only at e1 e3
    rw [nu] at e3
    rw [a1, ← e3] at e1
    simpa using e1
  · rintro ⟨hp, h6, h⟩
    have lt : ∀ c ∈ z.cps.toList, c < 128 := fun c hc => by
      have := (h c hc).2
      omega
    refine ⟨h6, lt, ⟨hp, fun c hc => ?_⟩, ?_, ?_⟩
    · obtain ⟨e1, _, _⟩ := cp128 ⟨c, lt c hc⟩
      dsimp only at e1
      rw [e1]
      obtain ⟨a, b⟩ := h c hc
      simp [a, b]
    · have : 0 < z.cps.toList.length := hp
      obtain ⟨c, hc⟩ := List.exists_mem_of_length_pos this
      refine ⟨c, hc, ?_⟩
      obtain ⟨_, e2, _⟩ := cp128 ⟨c, lt c hc⟩
      dsimp only at e2
      rw [e2]
      obtain ⟨a, b⟩ := h c hc
      simp [a, b]
    · cases e : z.cps.any (fun c => Unicode.isUpper c || Unicode.isTitle c) with
      | false => rfl
      | true =>
        obtain ⟨c, hc, hu⟩ := any_iff.mp e
        obtain ⟨_, _, e3⟩ := cp128 ⟨c, lt c hc⟩
        dsimp only at e3
        rw [hu] at e3
        obtain ⟨a, b⟩ := h c hc
        have e3 := e3.symm
        simp at e3
        omega
def nmD : PyData → Bool
  | .str z => lnZ z
  | _ => false
def ALN : List Str := ["begin", "crash", "clean"]
def WNR : List Str := ["save", "release", "back", "commit", "abort", "prepare"]
def vlo : Int := 1 - 10 ^ 30
def vhi : Int := 10 ^ 30 - 1
/-- what follows the word -/
def opK (l : List PyData) : Bool := match l with
  | [n, m] => nmD n && (rkD m).isSome
  | _ => false
def opC (l : List PyData) : Bool := match l with
  | [n, m, v] => nmD n && (isCh m && isW vlo vhi v)
  | _ => false
def opL (z : Str) (r : List PyData) : Bool :=
  if z ∈ WNR then r.isEmpty else if z = "lock" then opK r else if z = "change" then opC r else false
def opT (z : Str) (r : List PyData) : Bool := match r with
  | [] => false
  | x :: r' => isW 1 1000000 x && opL z r'
def opH (r : List PyData) : Bool := match r with
  | [x] => isW 0 60 x
  | _ => false
def opR (z : Str) (r : List PyData) : Bool :=
  if z ∈ ALN then r.isEmpty else if z = "horizon" then opH r else opT z r
def opD : PyData → Bool
  | .tuple (.str z :: r) => opR z r
  | _ => false
theorem sm_all {ds : List PyData} (h : Sm (.tuple ds)) : ∀ d ∈ ds, Sm d := by
  induction ds with
  | nil => intro d hd; cases hd
  | cons a ds ih =>
    obtain ⟨h1, h2, h3, h4⟩ := h
    simp only [PyData.showable, PyData.showableAll, Bool.and_eq_true] at h1
    simp only [PyData.leavesShort, PyData.leavesShortAll, Bool.and_eq_true] at h2
    simp only [PyData.weight, PyData.weightAll] at h3
    simp only [PyData.depth, PyData.depthAll] at h4
    intro d hd
    rcases List.mem_cons.mp hd with rfl | hd
    · exact ⟨h1.1, h2.1, by omega, by omega⟩
    · exact ih ⟨by simpa only [PyData.showable] using h1.2, by simpa only [PyData.leavesShort] using h2.2, by simp only [PyData.weight]; omega, by simp only [PyData.depth]; omega⟩ d hd
theorem sm_strlen {z : Str} (h : Sm (.str z)) : z.length ≤ 100000 := h.wt
theorem cut_tail {xs : List V} (h : 1 ≤ xs.length) : cutV xs (some (1 : Int)) none = xs.drop 1 := by
  unfold cutV
  rw [show ((1 : Int)) = ((1 : Nat) : Int) from rfl, HT.sIx_nat, HT.sIx_none, Nat.min_eq_left h, List.take_of_length_le (by rw [List.length_drop]; exact Nat.le_refl _)]
theorem sqt_up {K : PySem.W.Frag} {H H' : Hp} {a : Addr} {xs : List V} (s : Same H H') (h : SqT K H a xs) : SqT K H' a xs :=
  h.elim (fun h => .inl (h.elim (fun h => .inl (s _ _ h)) fun ⟨o, h⟩ => .inr ⟨o, s _ _ h⟩)) .inr
theorem any_isT {l : List Str} {z : Str} : l.any (fun y => isT y (.str z)) = decide (z ∈ l) := by
  rw [Bool.eq_iff_iff]
  simp [isT]
theorem any_notT {l : List Str} {d : PyData} (h : ∀ z, d ≠ .str z) : l.any (fun y => isT y d) = false := by
  rw [List.any_eq_false]
  intro y _
  cases d with
  | str z => exact absurd rfl (h z)
  | _ => simp [isT]
theorem isT_not {y : Str} {d : PyData} (h : ∀ z, d ≠ .str z) : isT y d = false := by
  cases d with
  | str z => exact absurd rfl (h z)
  | _ => rfl
end Rm

set_option maxRecDepth 100000
set_option maxHeartbeats 4000000
namespace Rm
open PySem PySem.Spec L2
open PyProof.Rows hiding St

def asA (z : Str) : Bool := z.cps.toList.all fun c => decide (c < 128)
theorem asA_app {x y : Str} (h : asA x = true) (h' : asA y = true) : asA (x ++ y) = true := by
  unfold asA at h h' ⊢
  have e : (x ++ y).cps.toList = x.cps.toList ++ y.cps.toList := by
    show (x.cps ++ y.cps).toList = _
    simp
  rw [e, List.all_append, h, h']
  rfl
theorem asA_cut {z : Str} {lo hi : Option Int} (h : asA z = true) : asA (cutS z lo hi) = true := by
  unfold asA at h ⊢
  rw [List.all_eq_true] at h ⊢
  intro c hc
  unfold cutS at hc
  simp only at hc
  exact h c (List.mem_of_mem_drop (List.mem_of_mem_take hc))
theorem asA_smC {z : Str} (h : asA z = true) : smC z = true := by
  unfold asA at h
  unfold smC
  rw [List.all_eq_true] at h ⊢
  intro c hc
  have := of_decide_eq_true (h c hc)
  exact decide_eq_true (Nat.lt_trans this (by decide))
theorem asA_one {z : Str} {c : Nat} (h : asA z = true) (hc : c ∈ z.cps.toList) : asA ⟨#[c]⟩ = true := by
  unfold asA at h ⊢
  rw [List.all_eq_true] at h
  simpa using h c hc
theorem join_as0 : ∀ {ys : List Str}, (∀ y ∈ ys, y.length = 1 ∧ asA y = true) → (Str.join "" ys).length = ys.length ∧ asA (Str.join "" ys) = true
  | [], _ => ⟨rfl, rfl⟩
  | [y], h => ⟨(h y (.head _)).1, (h y (.head _)).2⟩
  | y :: y2 :: ys, h => by
    obtain ⟨h1, h2⟩ := join_as0 (ys := y2 :: ys) fun x hx => h x (.tail _ hx)
    obtain ⟨a, b⟩ := h y (.head _)
    have e : Str.join "" (y :: y2 :: ys) = y ++ ("" : Str) ++ Str.join "" (y2 :: ys) := rfl
    rw [e]
    refine ⟨?_, asA_app (asA_app b (by decide +kernel)) h2⟩
    rw [len_app, len_app, h1, a]
    show 1 + 0 + (y2 :: ys).length = _
    simp only [List.length_cons]
    omega
theorem join_asA {ys : List Str} (h : ∀ y ∈ ys, y.length = 1 ∧ asA y = true) : (Txt.join "" ys).length = ys.length ∧ asA (Txt.join "" ys) = true := by
  have e : Txt.join "" ys = Str.join "" ys := StrLaws.glued_eq_join _ _
  rw [e]
  exact join_as0 h
theorem sum_ones : ∀ {ys : List Str}, (∀ y ∈ ys, y.length = 1 ∧ asA y = true) → (ys.map (·.length)).sum = ys.length
  | [], _ => rfl
  | y :: ys, h => by
    rw [List.map_cons, List.sum_cons, (h y (.head _)).1, sum_ones fun x hx => h x (.tail _ hx), List.length_cons]
    omega
theorem up128 : ∀ c : Fin 128, (Txt.upper ⟨#[c.val]⟩).length ≤ 3 ∧ smC (Txt.upper ⟨#[c.val]⟩) = true := by decide +kernel
def spOneS : Sp := fun vs H Q _ => ∃ t o z, vs = [.ref t, .str z] ∧ H t = some o ∧ IsTape o ∧ 1 ≤ z.length ∧ z.length ≤ 1000 ∧ asA z = true ∧ ∀ c o', asA ⟨#[c]⟩ = true → IsTape o' → Q (.str ⟨#[c]⟩) (upd H t o')
/-- a text times 0 or 1 -/
def rRepS : R2 := fun x y H Q => ∃ z n, x = .str z ∧ y = .int n ∧ ((n = 0 ∧ Q (.str Str.empty) H) ∨ (n = 1 ∧ Q (.str z) H))
theorem op_repS {X : Cx} : OpR X (binaryOp .Mult) rRepS := by
  intro pins s σ H x y v u Q I rx ry h
  obtain ⟨z, n, rfl, rfl, h⟩ := h
  obtain ⟨t, rfl⟩ := rx
  obtain ⟨t', rfl⟩ := ry
  rcases h with ⟨rfl, q⟩ | ⟨rfl, q⟩
  · exact PySem.P.mul_str_none (by decide) (by decide) ⟨.str Str.empty, H, I.tok _, ⟨_, rfl⟩, q⟩
  · refine PySem.P.mul_str (by decide) (fun _ h => by simp at h) (fun _ h => by simp at h) ?_
    rw [if_neg (by decide), if_pos (by simp)]
    exact ⟨.str z, H, I, ⟨_, rfl⟩, q⟩
end Rm

set_option maxRecDepth 100000
set_option maxHeartbeats 4000000
namespace Rm
open PySem PySem.Spec L2
open PyProof.Rows hiding St

/-! ### enumerate(list, c) -/
def IteC (K : PySem.W.Frag) (c : Int) (a : Addr) : It where
  go := fun i H => ∃ (xs : List V) (x : V), SqL K H a xs ∧ xs[i]? = some x
  yld := fun i H v H' => ∃ T x, v = .ref T ∧ H T = none ∧ H' = upd H T (.tup [.int (c + ((i : Nat) : Int)), x]) ∧ ∀ xs, SqL K H a xs → xs[i]? = some x
  stop := fun i H => ∃ xs : List V, SqL K H a xs ∧ xs.length ≤ i
theorem turn_enumC {P : Program} {w : World} {K : PySem.W.Frag} {elts : List Expr} {kk : Nat} {tpos : Pos} {c : Int} (a e it : Addr) :
    Turn P w K (.Tuple elts kk tpos) (IteC K c a) [e, it] e (fun i h => (∃ old, IsEnum h e it (c + ((i : Nat) : Int)) old) ∧ h.IsListIter it a i ∧ e ≠ it ∧ e ≠ a ∧ it ≠ a) where
  mem := .head _
  obj := fun i h st b hb => by
    obtain ⟨⟨old, he⟩, ⟨o, ho, hc, hd⟩, _⟩ := st
    rcases List.mem_cons.mp hb with z | hb
    · subst z
      exact ⟨_, he, fun v q => nomatch q⟩
    · rw [List.mem_singleton.mp hb]
      exact ⟨o, ho, fun v q => by rw [hd] at q; cases q⟩
  keep := fun i h h' st k => by
    obtain ⟨⟨old, he⟩, hi, r⟩ := st
    exact ⟨⟨old, k e (.head _) _ he⟩, hi.at fun o q => k it (.tail _ (.head _)) o q, r⟩
  item := by
    intro X hP hw hK hc i pins s σ H E I hf st hg
    subst hP hw hK
    obtain ⟨⟨old, he⟩, hit, hne, hea, hia⟩ := st
    obtain ⟨xs, x, hq, hx⟩ := hg
    obtain ⟨its, rv, p, hz⟩ := I.list hq
    obtain ⟨u, hu, ru⟩ := rv.get hx
    have hu' : its.toArray[i]? = some u := by simpa using hu
    have hel : e < s.heap.objs.size := Heap.lt_size he
    have hil : it < s.heap.objs.size := by
      obtain ⟨_, q, _⟩ := hit
      exact Heap.lt_size q
    have lt : i < its.toArray.size := by
      rcases Nat.lt_or_ge i its.toArray.size with h | h
      · exact h
      · rw [Array.getElem?_eq_none h] at hu'
        cases hu'
    refine wpAny_pyNext_enum_itemC (Draws.list (A := X.A.in1) (show X.A.handled = none from I.ok.hd hc) it a (Ne.symm hia) its.toArray) he ⟨hit, p.isList⟩ lt hne (fun m => ?_) fun y h' tk hy ho hst hT hsz hk => ?_
    · rcases List.mem_cons.mp m with z | m
      · exact hne z
      · exact hea (List.mem_singleton.mp m)
    rw [hu'] at hy
    obtain rfl := Option.some.inj hy
    refine ⟨_, rfl, wpAny_letOwnedTupleGo_enum (s := { s with heap := h', toks := tk + 1 }) ho fun h'' he' sb => ?_⟩
    have hT2 : h''.get? s.heap.objs.size = some { cls := .type "tuple", data := .seq #[.int (c + (i : Int)) tk, u] } := (sb.2 _ (Nat.ne_of_gt hel)).trans hT
    have new : ObjOk X.prog X.w (upd H s.heap.objs.size (.tup [.int (c + ((i : Nat) : Int)), x])) h'' s.heap.objs.size (.tup [.int (c + ((i : Nat) : Int)), x]) :=
      ⟨show 2 ≤ sizeLine by decide, [.int (c + (i : Int)) tk, u], .cons ⟨_, rfl⟩ (.cons ru .nil), ⟨_, hT2, rfl, _, rfl⟩⟩
    have I1 : Inv X pins σ (upd H s.heap.objs.size (.tup [.int (c + ((i : Nat) : Int)), x])) { s with heap := h'', toks := tk + 1 } :=
      I.turnedNew (ch := [e, it]) (fun b ob hb q => by
        have nb : b ≠ e ∧ b ≠ it := ⟨fun z => hb (z ▸ .head _), fun z => hb (z ▸ .tail _ (.head _))⟩
        exact (sb.2 b nb.1).trans (hk b ob nb.1 nb.2 q)) hf (Nat.le_refl _) new
    refine ⟨.ref s.heap.objs.size, _, I1, rfl, ⟨_, x, rfl, I.hok.fresh (Nat.le_refl _), rfl, fun ys hy => by rw [I.list_inj hy hq]; exact hx⟩, ⟨⟨u, ?_⟩, hst.1.at fun o q => (sb.2 it (Ne.symm hne)).trans q, hne, hea, hia⟩, fun b hb => ?_⟩
    · have e1 : c + ((i + 1 : Nat) : Int) = c + (i : Int) + 1 := by omega
      rw [e1]
      exact he'
    · have hb' : b < s.heap.objs.size := by
        rcases List.mem_cons.mp hb with z | m
        · rw [z]; exact hel
        · rw [List.mem_singleton.mp m]; exact hil
      rw [upd_ne (Nat.ne_of_lt hb')]
      exact (hf b hb).1
  done := by
    intro X hP hw hK hc i pins s σ H E I hf st hg
    subst hP hw hK
    obtain ⟨⟨old, he⟩, hit, hne, hea, hia⟩ := st
    obtain ⟨xs, hq, hx⟩ := hg
    obtain ⟨its, rv, p, hz⟩ := I.list hq
    obtain ⟨f0, f1, f2, f3, f4, f5⟩ := hf it (.tail _ (.head _))
    have hl := rv.length
    refine wpAny_pyNext_enum_endD (P := fun _ _ => True) (n := i) (fp := [it, a]) (St := fun j h => j = i ∧ h.IsListIter it a i ∧ h.IsList a its.toArray) ⟨?_, ?_, ?_, ?_⟩ he ⟨rfl, hit, p.isList⟩ fun h' eb => ⟨rfl, I.turned (t' := s.toks) (fun b o hb q => eb b o hb q) f0 f1 f3 f4 f5⟩
    · exact fun _ _ st => let ⟨o, ho, _⟩ := st.2.1; ⟨o, ho⟩
    · exact fun _ _ _ st hk => ⟨st.1, st.2.1.at fun o e => hk it (.head _) o e, st.2.2.at fun o e => hk a (.tail _ (.head _)) o e⟩
    · exact fun j s Q E hi st hQ => absurd st.1 (Nat.ne_of_lt hi)
    · exact fun s Q E st hE => wpAny_nextOf_list_end (I.ok.hd hc) st.2.1 st.2.2 (by simp; omega) hE
  self := fun A i s Q E st h => let ⟨⟨_, he⟩, _⟩ := st; wpAny_pyIter_enum he h
def iEnumC (K : PySem.W.Frag) (c : Int) (ta : TA) : TI := fun σ H R => ta σ H fun vs H1 => ∃ a xs, vs = [.ref a, .int c] ∧ SqL K H1 a xs ∧ R (IteC K c a) H1
theorem pi_enumC {X : Cx} {c : Int} {e d : Expr} {ta : TA} {p pos tpos : Pos} {elts : List Expr} {kk : Nat} (hg : Gl X "enumerate") (hm : X.mg "enumerate" = none) (ha : PA X [e, d] ta) (c0 : -(2 ^ 63) ≤ c) (c1 : c < 2 ^ 63)
    (hs : starEach [e, d] X.env = (false, eval e X.env) :: starEach [d] X.env := by rfl) (hn : (backTo pos (starEach [d] X.env)).any (·.1) = false := by rfl) :
    PI X (.Tuple elts kk tpos) (.Call (.Name "enumerate" p) [e, d] [] pos) (iEnumC X.K c ta) := by
  refine ⟨fun pins s σ H R I h => ?_⟩
  refine Call_ (ld_blt I hg hm boot_enumerate (PyProof.Rows.callWith_type1 (thn (ha.run pos pins s σ H _ I h) fun us s1 ⟨vs, H1, I1, r1, q1⟩ => ?_) hs hn))
  obtain ⟨a, xs, ex, hq, q⟩ := q1
  subst ex
  obtain ⟨u1, u2, rfl, ra, rc⟩ := vals2 r1
  cases ra
  obtain ⟨t, rfl⟩ := rc
  obtain ⟨its, rv, p', hz⟩ := I1.list hq
  refine enum_begins (begins_list a its.toArray) p'.isList c0 c1 fun h' he hit hsz hk => wpAny_pyIter_enum he ?_
  have I2 : Inv X pins σ H1 { s1 with heap := h' } := I1.kept (t' := s1.toks) hk
  have al : a < s1.heap.objs.size := by
    obtain ⟨o, ho, _⟩ := p'.isList
    exact Heap.lt_size ho
  refine ⟨s1.heap.objs.size + 1, [s1.heap.objs.size + 1, s1.heap.objs.size], _, _, H1, rfl, I2, turn_enumC a (s1.heap.objs.size + 1) s1.heap.objs.size, ⟨⟨.none, by simpa using he⟩, ⟨_, hit, rfl, rfl⟩, Nat.succ_ne_self _, (Nat.ne_of_lt (Nat.lt_succ_of_lt al)).symm, (Nat.ne_of_lt al).symm⟩, fun b hb => ?_, q⟩
  have hle : s1.heap.objs.size ≤ b := by
    rcases List.mem_cons.mp hb with z | m
    · rw [z]; exact Nat.le_add_right _ _
    · rw [List.mem_singleton.mp m]; exact Nat.le_refl _
  exact I1.fpOk hle (I1.hok.fresh hle)
theorem walk_enumC {K : PySem.W.Frag} {a : Addr} {xs : List V} {c : Int} : Walk (IteC K c a) xs.length (fun H => SqL K H a xs) (YPair (fun i => some (.int (c + ((i : Nat) : Int)))) (fun i => xs[i]?)) := by
  refine ⟨fun i _ hi q => ⟨xs, xs[i], q, List.getElem?_eq_getElem hi⟩, fun _ q => ⟨xs, q, Nat.le_refl _⟩, fun i H v H' _ q y => ?_⟩
  obtain ⟨T, x, h1, h2, h3, h4⟩ := y
  exact ⟨T, _, x, h1, h2, h3, rfl, h4 xs q⟩
/-! ### str(x) of a number or a text -/
def wV : V → Option Str
  | .int i => some (Str.ofString (toString i))
  | .str z => some z
  | _ => none
def rStr : List V → Hp → VK → Prop := fun xs H Q => ∃ x z, xs = [x] ∧ wV x = some z ∧ (∀ i, x = .int i → i.natAbs.log2 < 1920) ∧ Q (.str z) H
theorem call_strIS {X : Cx} : CallR X (.type "str") rStr := by
  intro pins s σ H xs us Q I r h
  obtain ⟨x, z, rfl, e, b, q⟩ := h
  cases x with
  | int i =>
    cases e
    exact call_str_int pins s σ H _ us Q I r ⟨i, rfl, b i rfl, q⟩
  | str y =>
    cases e
    exact SkE.call_str_str pins s σ H _ us Q I r ⟨_, rfl, q⟩
  | _ => cases e
end Rm

set_option maxRecDepth 100000
set_option maxHeartbeats 4000000
namespace Rm
open PySem PySem.Spec L2
open PyProof.Rows hiding St

/-! ### numbers as texts -/
def sI (i : Int) : Str := Str.ofString (toString i)
theorem tl_sI (n : Nat) : (sI (n : Int)).cps.toList = TL.numL n := TL.tl_num n
theorem tl_sIneg {i : Int} (h : i < 0) : (sI i).cps.toList = 45 :: TL.numL i.natAbs := by
  have e2 := tl_sI i.natAbs
  unfold sI at e2 ⊢
  rw [signs_ofString] at e2 ⊢
  rw [toString_neg h, show (0 - i) = (i.natAbs : Int) by omega, String.toList_append, List.map_append, e2]
  rfl
def isDg (z : Str) : Bool := Txt.isascii z && (Txt.isdigit z && decide (z.length ≤ 30))
theorem dg128 : ∀ c : Fin 128, Unicode.isDigit c.val = (decide (48 ≤ c.val) && decide (c.val ≤ 57)) := by decide +kernel
theorem dg_iff {z : Str} : isDg z = true ↔ NumText.AllDigits z.cps.toList ∧ z.cps.toList ≠ [] ∧ z.length ≤ 30 := by
  unfold isDg Txt.isascii Txt.isdigit
  simp only [Bool.and_eq_true, decide_eq_true_eq, all_iff]
  constructor
  · rintro ⟨ha, ⟨hp, hd⟩, hl⟩
    refine ⟨fun c hc => ?_, fun e => ?_, hl⟩
    · have lt := ha c hc
      have h := dg128 ⟨c, lt⟩
      dsimp only at h
      rw [hd c hc] at h
      have h := h.symm
      simpa using h
    · have e2 : z.length = z.cps.toList.length := rfl
      rw [e] at e2
      have e3 : z.length = 0 := e2
      omega
  · rintro ⟨hd, hn, hl⟩
    have lt : ∀ c ∈ z.cps.toList, c < 128 := fun c hc => by
      have := hd c hc
      omega
    refine ⟨lt, ⟨?_, fun c hc => ?_⟩, hl⟩
    · have e2 : z.length = z.cps.toList.length := rfl
      have := List.length_pos_iff.mpr hn
      omega
    · have h := dg128 ⟨c, lt c hc⟩
      dsimp only at h
      rw [h]
      have := hd c hc
      simp [this]
theorem cut_hd (z : Str) : cutS z none (some (1 : Int)) = ⟨(z.cps.toList.take 1).toArray⟩ := by
  unfold cutS
  rw [show ((1 : Int)) = ((1 : Nat) : Int) from rfl, HT.sIx_nat, HT.sIx_none]
  have e : z.length = z.cps.toList.length := rfl
  congr 2
  rw [List.drop_zero, Nat.sub_zero]
  rcases Nat.lt_or_ge z.length 1 with h | h
  · have : z.cps.toList = [] := List.eq_nil_of_length_eq_zero (by omega)
    rw [this]
    simp
  · rw [Nat.min_eq_left h]
theorem cut_tl (z : Str) : cutS z (some (1 : Int)) none = ⟨(z.cps.toList.drop 1).toArray⟩ := by
  unfold cutS
  rw [show ((1 : Int)) = ((1 : Nat) : Int) from rfl, HT.sIx_nat, HT.sIx_none]
  have e : z.length = z.cps.toList.length := rfl
  congr 2
  rcases Nat.lt_or_ge z.length 1 with h | h
  · have : z.cps.toList = [] := List.eq_nil_of_length_eq_zero (by omega)
    rw [this]
    simp
  · rw [Nat.min_eq_left h, List.take_of_length_le (by rw [List.length_drop]; omega)]
/-- the digits of a word -/
def dgZ (w : Str) : Str := if cutS w none (some (1 : Int)) = "-" then cutS w (some (1 : Int)) none else w
theorem dgZ_neg {w : Str} {cs : List Nat} (h : w.cps.toList = 45 :: cs) : dgZ w = ⟨cs.toArray⟩ := by
  unfold dgZ
  rw [cut_hd, cut_tl, h]
  exact if_pos rfl
theorem dgZ_pos {w : Str} (h : ∀ cs, w.cps.toList ≠ 45 :: cs) : dgZ w = w := by
  unfold dgZ
  rw [cut_hd]
  refine if_neg fun e => ?_
  have e2 : w.cps.toList.take 1 = [45] := by
    have := congrArg (fun z : Str => z.cps.toList) e
    exact (by simpa using this : w.cps.toList.take 1 = (("-" : Str)).cps.toList)
  match hw : w.cps.toList with
  | [] => rw [hw] at e2; cases e2
  | c :: cs =>
    rw [hw] at e2
    have : c = 45 := by simpa using e2
    rw [this] at hw
    exact h cs hw
theorem numL_30 {n : Nat} (h : n < 10 ^ 30) : (TL.numL n).length ≤ 30 := TL.numL_len (by decide) h
theorem fold_lt : ∀ (cs : List Nat) (a : Nat), NumText.AllDigits cs → cs.foldl (fun acc c => acc * 10 + (c - 48)) a < (a + 1) * 10 ^ cs.length
  | [], a, _ => by simp
  | c :: cs, a, h => by
    have h2 := h c (.head _)
    have ih := fold_lt cs (a * 10 + (c - 48)) fun d hd => h d (.tail _ hd)
    rw [List.foldl_cons, List.length_cons, Nat.pow_succ]
    refine Nat.lt_of_lt_of_le ih ?_
    have e : (a + 1) * (10 ^ cs.length * 10) = (a * 10 + 10) * 10 ^ cs.length := by
      rw [Nat.mul_comm (10 ^ cs.length) 10, ← Nat.mul_assoc, Nat.add_mul a 1 10]
    rw [e]
    exact Nat.mul_le_mul_right _ (by omega)
theorem dv_lt {cs : List Nat} (h : NumText.AllDigits cs) : NumText.digitsVal cs < 10 ^ cs.length := by
  have z := fold_lt cs 0 h
  rw [Nat.zero_add, Nat.one_mul] at z
  exact z
theorem log_lt {n : Nat} (h : n < 10 ^ 30) : n.log2 < 100 := by
  by_cases e : n = 0
  · rw [e]; decide
  · exact (Nat.log2_lt e).2 (Nat.lt_trans h (by decide))
/-- a word whose digits are digits is a number's -/
theorem dg_int {w : Str} (h : isDg (dgZ w) = true) : ∃ v : Int, intText? w = some v ∧ v.natAbs < 10 ^ 30 ∧ w.length ≤ 31 := by
  obtain ⟨h1, h2, h3⟩ := dg_iff.mp h
  have lw : w.length = w.cps.toList.length := rfl
  by_cases hn : ∃ cs, w.cps.toList = 45 :: cs
  · obtain ⟨cs, e⟩ := hn
    rw [dgZ_neg e] at h1 h2 h3
    have e1 : (⟨cs.toArray⟩ : Str).cps.toList = cs := by simp
    rw [e1] at h1 h2
    have l3 : cs.length ≤ 30 := by
      have : (⟨cs.toArray⟩ : Str).length = cs.length := by
        show cs.toArray.size = _
        simp
      omega
    have lw2 : w.length ≤ 31 := by
      rw [lw, e, List.length_cons]
      omega
    refine ⟨_, intText_neg e h1 h2 (by omega), ?_, lw2⟩
    rw [Int.natAbs_neg, Int.natAbs_natCast]
    exact Nat.lt_of_lt_of_le (dv_lt h1) (Nat.pow_le_pow_right (by decide) l3)
  · have e : dgZ w = w := dgZ_pos fun cs q => hn ⟨cs, q⟩
    rw [e] at h1 h2 h3
    refine ⟨_, intText_digits h1 h2 (by omega), ?_, by omega⟩
    rw [Int.natAbs_natCast]
    exact Nat.lt_of_lt_of_le (dv_lt h1) (Nat.pow_le_pow_right (by decide) (by rw [← lw]; exact h3))
/-- the number that a word is -/
def numZ (w : Str) : Option Int := if isDg (dgZ w) = true then (match intText? w with
  | some v => if sI v = w then some v else none
  | none => none) else none
theorem sI_read {i : Int} (h : i.natAbs < 10 ^ 30) : numZ (sI i) = some i := by
  have hl := numL_30 h
  rcases Int.lt_or_le i 0 with n | p
  · have e := tl_sIneg n
    have d : isDg (dgZ (sI i)) = true := by
      rw [dgZ_neg e]
      refine dg_iff.mpr ⟨?_, ?_, ?_⟩
      · simpa using TL.numL_digits _
      · simpa using TL.numL_ne _
      · show (TL.numL i.natAbs).toArray.size ≤ 30
        simpa using hl
    unfold numZ
    rw [if_pos d, intText_neg e (TL.numL_digits _) (TL.numL_ne _) ?_]
    · dsimp only
      rw [TL.numL_val, show -((i.natAbs : Nat) : Int) = i by omega, if_pos rfl]
    · show (sI i).cps.toList.length ≤ 4300
      rw [e, List.length_cons]
      omega
  · obtain ⟨m, rfl⟩ := Int.eq_ofNat_of_zero_le p
    rw [Int.natAbs_natCast] at h hl
    have e := tl_sI m
    have d0 : dgZ (sI (m : Int)) = sI (m : Int) := dgZ_pos fun cs q => by
      rw [e] at q
      have := TL.numL_digits m 45 (by rw [q]; exact .head _)
      omega
    have l2 : (sI (m : Int)).length ≤ 30 := by
      show (sI (m : Int)).cps.toList.length ≤ 30
      rw [e]
      exact hl
    have d : isDg (dgZ (sI (m : Int))) = true := by
      rw [d0]
      refine dg_iff.mpr ⟨?_, ?_, l2⟩
      · rw [e]; exact TL.numL_digits _
      · rw [e]; exact TL.numL_ne _
    unfold numZ
    rw [if_pos d]
    have e3 : intText? (sI (m : Int)) = some (m : Int) := TL.int_num (by omega)
    rw [e3]
    exact if_pos rfl
theorem sI_free {i : Int} {c : Nat} (h : c < 45 ∨ 57 < c) : c ∉ (sI i).cps.toList := by
  rcases Int.lt_or_le i 0 with n | p
  · rw [tl_sIneg n]
    intro m
    rcases List.mem_cons.mp m with e | m
    · omega
    · exact TL.numL_free (by omega) m
  · obtain ⟨m, rfl⟩ := Int.eq_ofNat_of_zero_le p
    rw [tl_sI]
    exact TL.numL_free (by omega)
theorem sI_len {i : Int} (h : i.natAbs < 10 ^ 30) : 1 ≤ (sI i).length ∧ (sI i).length ≤ 31 := by
  have hl := numL_30 h
  rcases Int.lt_or_le i 0 with n | p
  · have e : (sI i).length = (45 :: TL.numL i.natAbs).length := by
      show (sI i).cps.toList.length = _
      rw [tl_sIneg n]
    rw [e, List.length_cons]
    omega
  · obtain ⟨m, rfl⟩ := Int.eq_ofNat_of_zero_le p
    rw [Int.natAbs_natCast] at hl
    have e : (sI (m : Int)).length = (TL.numL m).length := by
      show (sI (m : Int)).cps.toList.length = _
      rw [tl_sI]
    have := List.length_pos_iff.mpr (TL.numL_ne m)
    omega
end Rm

set_option maxRecDepth 100000
set_option maxHeartbeats 4000000
namespace Rm
open PySem PySem.Spec L2
open PyProof.Rows hiding St

/-! ### an operation's words -/
def wD : PyData → Str
  | .str z => z
  | .int i => sI i
  | _ => ""
def nD (w : Str) : PyData := match numZ w with
  | some v => .int v
  | none => .none
/-- what is read of the word at a place -/
def rdW (i : Nat) (w : Str) : PyData := if i = 1 ∨ i = 4 then nD w else .str w
def fndF : Nat → List Str → List PyData
  | _, [] => []
  | i, w :: ws => rdW i w :: fndF (i + 1) ws
def fnd (ws : List Str) : List PyData := fndF 0 ws
theorem fndF_len : ∀ (i : Nat) (ws : List Str), (fndF i ws).length = ws.length
  | _, [] => rfl
  | i, w :: ws => congrArg Nat.succ (fndF_len (i + 1) ws)
def lnT (ds : List PyData) : Str := Txt.join " " (ds.map wD)
def hisT (ops : List (List PyData)) : Str := Txt.join "\n" (ops.map lnT)

/-- a word that is none of the signs between -/
structure Wk1 (z : Str) : Prop where
  l1 : 1 ≤ z.length
  l31 : z.length ≤ 31
  sp : 32 ∉ z.cps.toList
  nl : 10 ∉ z.cps.toList
  sm : asA z = true
def wkB (z : Str) : Bool := decide (1 ≤ z.length) && (decide (z.length ≤ 31) && (z.cps.toList.all fun c => decide (c ≠ 32) && (decide (c ≠ 10) && decide (c < 128))))
theorem Wk1.of {z : Str} (h : wkB z = true) : Wk1 z := by
  unfold wkB at h
  simp only [Bool.and_eq_true, decide_eq_true_eq, List.all_eq_true] at h
  obtain ⟨h1, h2, h3⟩ := h
  refine ⟨h1, h2, fun m => (h3 _ m).1 rfl, fun m => (h3 _ m).2.1 rfl, ?_⟩
  unfold asA
  exact List.all_eq_true.mpr fun c hc => decide_eq_true (h3 c hc).2.2
theorem wk_name {z : Str} (h : lnZ z = true) : Wk1 z := by
  unfold lnZ at h
  simp only [Bool.and_eq_true, decide_eq_true_eq, List.all_eq_true] at h
  obtain ⟨h1, h2, h3⟩ := h
  refine ⟨h1, by omega, fun m => ?_, fun m => ?_, ?_⟩
  · have := (h3 _ m).1
    omega
  · have := (h3 _ m).1
    omega
  · unfold asA
    refine List.all_eq_true.mpr fun c hc => decide_eq_true ?_
    have := (h3 c hc).2
    exact Nat.lt_of_le_of_lt this (by decide)
theorem wk_num {i : Int} (h : i.natAbs < 10 ^ 30) : Wk1 (sI i) := by
  obtain ⟨h1, h2⟩ := sI_len h
  refine ⟨h1, h2, sI_free (by decide), sI_free (by decide), ?_⟩
  unfold asA
  refine List.all_eq_true.mpr fun c hc => decide_eq_true ?_
  by_cases l : c < 45 ∨ 57 < c
  · exact absurd hc (sI_free l)
  · exact Nat.lt_of_le_of_lt (show c ≤ 57 by omega) (by decide)
theorem wk_aln {z : Str} (h : z ∈ ALN) : Wk1 z := by
  have a : ALN.all wkB = true := by decide +kernel
  exact Wk1.of (List.all_eq_true.mp a z h)
theorem wk_wnr {z : Str} (h : z ∈ WNR) : Wk1 z := by
  have a : WNR.all wkB = true := by decide +kernel
  exact Wk1.of (List.all_eq_true.mp a z h)
theorem wk_mode {z : Str} (h : (rkS z).isSome = true) : Wk1 z := by
  unfold rkS at h
  split at h
  · rename_i e; rw [e]; exact Wk1.of (by decide +kernel)
  split at h
  · rename_i e; rw [e]; exact Wk1.of (by decide +kernel)
  split at h
  · rename_i e; rw [e]; exact Wk1.of (by decide +kernel)
  split at h
  · rename_i e; rw [e]; exact Wk1.of (by decide +kernel)
  · cases h
/-! ### the forms -/
inductive Shp : List PyData → Prop
  | one {z : Str} (h : Wk1 z) : Shp [.str z]
  | two {z : Str} {i : Int} (h : Wk1 z) (hi : i.natAbs < 10 ^ 30) : Shp [.str z, .int i]
  | lock {z n m : Str} {i : Int} (h : Wk1 z) (hi : i.natAbs < 10 ^ 30) (hn : Wk1 n) (hm : Wk1 m) : Shp [.str z, .int i, .str n, .str m]
  | chg {z n m : Str} {i v : Int} (h : Wk1 z) (hi : i.natAbs < 10 ^ 30) (hn : Wk1 n) (hm : Wk1 m) (hv : v.natAbs < 10 ^ 30) : Shp [.str z, .int i, .str n, .str m, .int v]
theorem isW_int {lo hi : Int} {d : PyData} (h : isW lo hi d = true) : ∃ i, d = .int i ∧ lo ≤ i ∧ i ≤ hi := by
  cases d with
  | int i =>
    have h : (decide (lo ≤ i) && decide (i ≤ hi)) = true := h
    simp only [Bool.and_eq_true, decide_eq_true_eq] at h
    exact ⟨i, rfl, h⟩
  | _ => cases h
theorem nmD_str {d : PyData} (h : nmD d = true) : ∃ z, d = .str z ∧ Wk1 z := by
  cases d with
  | str z => exact ⟨z, rfl, wk_name h⟩
  | _ => cases h
theorem rkm_str {d : PyData} (h : (rkD d).isSome = true) : ∃ z, d = .str z ∧ Wk1 z := by
  cases d with
  | str z => exact ⟨z, rfl, wk_mode h⟩
  | _ => cases h
theorem ch_str {d : PyData} (h : isCh d = true) : ∃ z, d = .str z ∧ Wk1 z := by
  cases d with
  | str z =>
    have h : (decide (z = "change") || decide (z = "replace")) = true := h
    simp only [Bool.or_eq_true, decide_eq_true_eq] at h
    rcases h with e | e
    · rw [e]; exact ⟨_, rfl, Wk1.of (by decide +kernel)⟩
    · rw [e]; exact ⟨_, rfl, Wk1.of (by decide +kernel)⟩
  | _ => cases h
theorem shpL {z : Str} {i : Int} {r : List PyData} (hi : i.natAbs < 10 ^ 30) (h : opL z r = true) : Shp (.str z :: .int i :: r) := by
  unfold opL at h
  by_cases hz : z ∈ WNR
  · rw [if_pos hz] at h
    match r, h with
    | [], _ => exact .two (wk_wnr hz) hi
  rw [if_neg hz] at h
  by_cases hz : z = "lock"
  · rw [if_pos hz] at h
    subst hz
    match r, h with
    | [n, m], h =>
      have h : (nmD n && (rkD m).isSome) = true := h
      rw [Bool.and_eq_true] at h
      obtain ⟨n', rfl, hn⟩ := nmD_str h.1
      obtain ⟨m', rfl, hm⟩ := rkm_str h.2
      exact .lock (Wk1.of (by decide +kernel)) hi hn hm
  rw [if_neg hz] at h
  by_cases hz : z = "change"
  · rw [if_pos hz] at h
    subst hz
    match r, h with
    | [n, m, v], h =>
      have h : (nmD n && (isCh m && isW vlo vhi v)) = true := h
      rw [Bool.and_eq_true, Bool.and_eq_true] at h
      obtain ⟨n', rfl, hn⟩ := nmD_str h.1
      obtain ⟨m', rfl, hm⟩ := ch_str h.2.1
      obtain ⟨v, rfl, v1, v2⟩ := isW_int h.2.2
      have e3 : vlo = -999999999999999999999999999999 := by decide
      have e4 : vhi = 999999999999999999999999999999 := by decide
      exact .chg (Wk1.of (by decide +kernel)) hi hn hm (by omega)
  rw [if_neg hz] at h
  cases h
theorem shp_of {ds : List PyData} (h : opD (.tuple ds) = true) : Shp ds := by
  match ds, h with
  | [], h => cases h
  | .str z :: r, h =>
    have h1 : opR z r = true := h
    clear h
    unfold opR at h1
    by_cases hz : z ∈ ALN
    · rw [if_pos hz] at h1
      match r, h1 with
      | [], _ => exact .one (wk_aln hz)
    rw [if_neg hz] at h1
    by_cases hz : z = "horizon"
    · rw [if_pos hz] at h1
      subst hz
      match r, h1 with
      | [x], h2 =>
        obtain ⟨i, rfl, h3, h4⟩ := isW_int h2
        exact .two (Wk1.of (by decide +kernel)) (by omega)
    rw [if_neg hz] at h1
    match r, h1 with
    | x :: r, h2 =>
      have h3 : (isW 1 1000000 x && opL z r) = true := h2
      rw [Bool.and_eq_true] at h3
      obtain ⟨i, rfl, h4, h5⟩ := isW_int h3.1
      exact shpL (by omega) h3.2
/-- a leaf -/
structure Lf (d : PyData) : Prop where
  wk : Wk1 (wD d)
  v : (∃ z, d = .str z) ∨ ∃ i : Int, d = .int i ∧ i.natAbs < 10 ^ 30
theorem shp_lf {ds : List PyData} (h : Shp ds) : ∀ d ∈ ds, Lf d := by
  have S : ∀ {z : Str}, Wk1 z → Lf (.str z) := fun w => ⟨w, .inl ⟨_, rfl⟩⟩
  have I : ∀ {i : Int}, i.natAbs < 10 ^ 30 → Lf (.int i) := fun w => ⟨wk_num w, .inr ⟨_, rfl, w⟩⟩
  intro d hd
  cases h with
  | one h =>
    rw [List.mem_singleton.mp hd]; exact S h
  | two h hi =>
    simp only [List.mem_cons, List.not_mem_nil, or_false] at hd
    rcases hd with rfl | rfl
    · exact S h
    · exact I hi
  | lock h hi hn hm =>
    simp only [List.mem_cons, List.not_mem_nil, or_false] at hd
    rcases hd with rfl | rfl | rfl | rfl
    · exact S h
    · exact I hi
    · exact S hn
    · exact S hm
  | chg h hi hn hm hv =>
    simp only [List.mem_cons, List.not_mem_nil, or_false] at hd
    rcases hd with rfl | rfl | rfl | rfl | rfl
    · exact S h
    · exact I hi
    · exact S hn
    · exact S hm
    · exact I hv
theorem shp_len {ds : List PyData} (h : Shp ds) : 1 ≤ ds.length ∧ ds.length ≤ 5 := by
  cases h <;> simp
theorem nD_sI {i : Int} (h : i.natAbs < 10 ^ 30) : nD (sI i) = .int i := by
  unfold nD
  rw [sI_read h]
theorem shp_back {ds : List PyData} (h : Shp ds) : fnd (ds.map wD) = ds := by
  cases h with
  | one h => rfl
  | two h hi =>
    show [PyData.str _, nD (sI _)] = _
    rw [nD_sI hi]
    rfl
  | lock h hi hn hm =>
    show [PyData.str _, nD (sI _), .str _, .str _] = _
    rw [nD_sI hi]
    rfl
  | chg h hi hn hm hv =>
    show [PyData.str _, nD (sI _), .str _, .str _, nD (sI _)] = _
    rw [nD_sI hi, nD_sI hv]
    rfl
/-! ### joined texts -/
theorem join_mem {y : Str} {c : Nat} : ∀ {ps : List Str}, c ∈ (Txt.join y ps).cps.toList → c ∈ y.cps.toList ∨ ∃ p ∈ ps, c ∈ p.cps.toList := by
  intro ps h
  rw [TL.join_eq] at h
  have h : c ∈ TL.tl (Str.join y ps) := h
  rw [TL.tl_join] at h
  have g : ∀ (l : List Str), c ∈ TL.joinL (TL.tl y) (l.map TL.tl) → c ∈ y.cps.toList ∨ ∃ p ∈ l, c ∈ p.cps.toList := by
    intro l
    induction l with
    | nil => intro h; cases h
    | cons p l ih =>
      intro h
      cases l with
      | nil => exact .inr ⟨p, .head _, h⟩
      | cons q r =>
        have h : c ∈ TL.tl p ++ (TL.tl y ++ TL.joinL (TL.tl y) ((q :: r).map TL.tl)) := h
        rcases List.mem_append.mp h with h | h
        · exact .inr ⟨p, .head _, h⟩
        rcases List.mem_append.mp h with h | h
        · exact .inl h
        · rcases ih h with h | ⟨p', h1, h2⟩
          · exact .inl h
          · exact .inr ⟨p', .tail _ h1, h2⟩
  exact g ps h
theorem join_len {y : Str} {n : Nat} : ∀ {ps : List Str}, (∀ p ∈ ps, p.length ≤ n) → (Txt.join y ps).length ≤ ps.length * (n + y.length) := by
  intro ps h
  rw [TL.join_eq]
  induction ps with
  | nil => exact Nat.zero_le _
  | cons p l ih =>
    cases l with
    | nil =>
      show p.length ≤ _
      have := h p (.head _)
      simp
      omega
    | cons q r =>
      have e : Str.join y (p :: q :: r) = p ++ y ++ Str.join y (q :: r) := rfl
      rw [e, len_app, len_app]
      have := ih fun x hx => h x (.tail _ hx)
      have h1 := h p (.head _)
      rw [List.length_cons, Nat.add_mul, Nat.one_mul]
      omega
theorem join_len1 {y : Str} {p : Str} {l : List Str} : p.length ≤ (Txt.join y (p :: l)).length := by
  rw [TL.join_eq]
  cases l with
  | nil => exact Nat.le_refl _
  | cons q r =>
    have e : Str.join y (p :: q :: r) = p ++ y ++ Str.join y (q :: r) := rfl
    rw [e, len_app, len_app]
    omega
theorem sum_le {n : Nat} : ∀ {ps : List Str}, (∀ p ∈ ps, p.length ≤ n) → (ps.map (·.length)).sum ≤ ps.length * n
  | [], _ => Nat.zero_le _
  | p :: ps, h => by
    rw [List.map_cons, List.sum_cons, List.length_cons, Nat.add_mul, Nat.one_mul]
    have := h p (.head _)
    have := sum_le fun x hx => h x (.tail _ hx)
    omega
theorem sp_sep : ∃ S, TL.tl (" " : Str) = 32 :: S := ⟨[], by decide +kernel⟩
theorem nl_sep : ∃ S, TL.tl ("\n" : Str) = 10 :: S := ⟨[], by decide +kernel⟩
theorem sp_of {c : Nat} (h : c ∈ (" " : Str).cps.toList) : c = 32 := by
  have e : (" " : Str).cps.toList = [32] := by decide +kernel
  rw [e] at h
  exact List.mem_singleton.mp h
theorem wl_le {ds : List PyData} (h : Shp ds) : ∀ w ∈ ds.map wD, w.length ≤ 31 := fun w hw => by
  obtain ⟨d, hd, rfl⟩ := List.mem_map.mp hw
  exact (shp_lf h d hd).wk.l31
theorem lnT_len {ds : List PyData} (h : Shp ds) : 1 ≤ (lnT ds).length ∧ (lnT ds).length ≤ 160 := by
  have l := join_len (y := " ") (wl_le h)
  have h5 := shp_len h
  have e1 : (" " : Str).length = 1 := by decide +kernel
  rw [List.length_map, e1] at l
  refine ⟨?_, ?_⟩
  · cases ds with
    | nil => cases h
    | cons d ds =>
      have := (shp_lf h d (.head _)).wk.l1
      exact Nat.le_trans this join_len1
  · have : ds.length * (31 + 1) ≤ 5 * 32 := Nat.mul_le_mul_right _ h5.2
    exact Nat.le_trans l this
theorem lnT_nl {ds : List PyData} (h : Shp ds) : 10 ∉ (lnT ds).cps.toList := fun m => by
  rcases join_mem m with m | ⟨p, hp, m⟩
  · have := sp_of m
    omega
  · obtain ⟨d, hd, rfl⟩ := List.mem_map.mp hp
    exact (shp_lf h d hd).wk.nl m
theorem lnT_split {ds : List PyData} (h : Shp ds) : Txt.split (lnT ds) " " = ds.map wD := by
  obtain ⟨S, e⟩ := sp_sep
  refine TL.split_join e (by decide +kernel) ?_ fun p hp => ?_
  · intro e
    have := List.map_eq_nil_iff.mp e
    subst this
    cases h
  · obtain ⟨d, hd, rfl⟩ := List.mem_map.mp hp
    exact (shp_lf h d hd).wk.sp
theorem hisT_len {ops : List (List PyData)} (h : ∀ ds ∈ ops, Shp ds) : (hisT ops).length ≤ ops.length * 161 := by
  have e1 : ("\n" : Str).length = 1 := by decide +kernel
  have l := join_len (y := "\n") (n := 160) (ps := ops.map lnT) fun w hw => by
    obtain ⟨d, hd, rfl⟩ := List.mem_map.mp hw
    exact (lnT_len (h d hd)).2
  rw [List.length_map, e1] at l
  exact l
/-- the lines of a text -/
def linesZ (z : Str) : List Str := if 0 < z.length then Txt.split z "\n" else []
theorem hisT_lines {ops : List (List PyData)} (h : ∀ ds ∈ ops, Shp ds) : linesZ (hisT ops) = ops.map lnT := by
  unfold linesZ
  cases ops with
  | nil => exact if_neg (by decide +kernel)
  | cons ds ops =>
    have h1 : 0 < (hisT (ds :: ops)).length := Nat.lt_of_lt_of_le (lnT_len (h ds (.head _))).1 join_len1
    rw [if_pos h1]
    obtain ⟨S, e⟩ := nl_sep
    refine TL.split_join e (by decide +kernel) (by simp) fun p hp => ?_
    obtain ⟨d, hd, rfl⟩ := List.mem_map.mp hp
    exact lnT_nl (h d hd)
theorem hisT_inj {o p : List (List PyData)} (h : ∀ ds ∈ o, Shp ds) (h' : ∀ ds ∈ p, Shp ds) (e : hisT o = hisT p) : o = p := by
  have l := hisT_lines h
  rw [e, hisT_lines h'] at l
  have g : ∀ (o : List (List PyData)), (∀ ds ∈ o, Shp ds) → (o.map lnT).map (fun z => fnd (Txt.split z " ")) = o := by
    intro o
    induction o with
    | nil => intro _; rfl
    | cons d o ih =>
      intro h
      rw [List.map_cons, List.map_cons, ih fun x hx => h x (.tail _ hx), lnT_split (h d (.head _)), shp_back (h d (.head _))]
  have := congrArg (List.map fun z => fnd (Txt.split z " ")) l
  rw [g p h', g o h] at this
  exact this.symm
/-! ### small enough -/
theorem sv_lf {d : PyData} (h : Lf d) : Sv d ∧ d.weight ≤ 100 ∧ d.depth = 0 := by
  obtain ⟨wk, z⟩ := h
  rcases z with ⟨z, rfl⟩ | ⟨i, rfl, hi⟩
  · have h31 := wk.l31
    have e : z.cps.size = z.length := rfl
    refine ⟨⟨rfl, ?_, ?_, ?_⟩, ?_, ?_⟩
    · exact asA_smC wk.sm
    · simp only [PyData.weight]
      have : (wD (.str z)).length = z.length := rfl
      omega
    · simp [PyData.depth]
    · simp only [PyData.weight]
      have : (wD (.str z)).length = z.length := rfl
      omega
    · simp [PyData.depth]
  · have hl := log_lt hi
    refine ⟨⟨?_, ?_, ?_, ?_⟩, ?_, ?_⟩
    · simp only [PyData.showable]
      exact decide_eq_true (by omega)
    · simp only [PyData.leavesShort]
      refine decide_eq_true ?_
      have := (sI_len hi).2
      have e : (PyData.shown (.int i)) = sI i := by
        simp only [PyData.shown]
        rfl
      rw [e]
      omega
    · simp only [PyData.weight]
      split <;> omega
    · simp [PyData.depth]
    · simp only [PyData.weight]
      split <;> omega
    · simp [PyData.depth]
theorem lf_all : ∀ {ds : List PyData}, (∀ d ∈ ds, Lf d) → PyData.weightAll ds ≤ 101 * ds.length ∧ PyData.depthAll ds = 0
  | [], _ => ⟨by simp [PyData.weightAll], by simp [PyData.depthAll]⟩
  | d :: ds, h => by
    obtain ⟨_, a, b⟩ := sv_lf (h d (.head _))
    obtain ⟨c, e⟩ := lf_all (ds := ds) fun x m => h x (.tail _ m)
    simp only [PyData.weightAll, PyData.depthAll, List.length_cons]
    omega
theorem sv_op {ds : List PyData} (h : Shp ds) : Sv (.tuple ds) := by
  have l := shp_lf h
  obtain ⟨a, b, c, e⟩ := sv_dep (ds := ds) fun d hd => (sv_lf (l d hd)).1
  obtain ⟨w, dp⟩ := lf_all l
  have := (shp_len h).2
  refine ⟨by simpa [PyData.showable] using a, by simpa [PyData.leavesShort] using b, ?_, ?_⟩
  · simp only [PyData.weight]; omega
  · simp only [PyData.depth]; omega
theorem sm_his {ops : List (List PyData)} (h : ∀ ds ∈ ops, Shp ds) (hl : ops.length ≤ 60) : Sm (.tuple (ops.map .tuple)) := by
  obtain ⟨a, b, c, e⟩ := sv_dep (ds := ops.map .tuple) fun d hd => by
    obtain ⟨o, ho, rfl⟩ := List.mem_map.mp hd
    exact sv_op (h o ho)
  rw [List.length_map] at c
  refine ⟨by simpa [PyData.showable] using a, by simpa [PyData.leavesShort] using b, ?_, ?_⟩
  · simp only [PyData.weight]; omega
  · simp only [PyData.depth]; omega
theorem as_ok {z : Str} (h : asA z = true) : PyData.strOk z = true := by
  unfold asA at h
  unfold PyData.strOk
  rw [← Array.all_toList, List.all_eq_true]
  intro c hc
  have := of_decide_eq_true (List.all_eq_true.mp h c hc)
  exact decide_eq_true (Nat.lt_trans this (by decide))
theorem as_hisT {ops : List (List PyData)} (h : ∀ ds ∈ ops, Shp ds) : asA (hisT ops) = true := by
  unfold asA
  refine List.all_eq_true.mpr fun c hc => decide_eq_true ?_
  have e1 : ∀ c ∈ ("\n" : Str).cps.toList, c < 128 := by decide +kernel
  have e2 : ∀ c ∈ (" " : Str).cps.toList, c < 128 := by decide +kernel
  rcases join_mem hc with m | ⟨p, hp, m⟩
  · exact e1 c m
  · obtain ⟨ds, hd, rfl⟩ := List.mem_map.mp hp
    rcases join_mem m with m | ⟨p, hp, m⟩
    · exact e2 c m
    · obtain ⟨d, hd2, rfl⟩ := List.mem_map.mp hp
      have s := (shp_lf (h ds hd) d hd2).wk.sm
      unfold asA at s
      exact of_decide_eq_true (List.all_eq_true.mp s c m)
theorem sm_text {z : Str} (h : asA z = true) (hl : z.length ≤ 100000) : Sm (.str z) := by
  have e : z.cps.size = z.length := rfl
  refine ⟨rfl, asA_smC h, ?_, ?_⟩
  · simp only [PyData.weight]; omega
  · simp [PyData.depth]
theorem lay_all : ∀ {ds : List PyData}, (∀ d ∈ ds, Lf d) → PyData.canLayAll0 ds = true
  | [], _ => by simp [PyData.canLayAll0]
  | d :: ds, h => by
    have e := lay_all (ds := ds) fun x m => h x (.tail _ m)
    have l := h d (.head _)
    rcases l.v with ⟨z, rfl⟩ | ⟨i, rfl, _⟩
    · simp only [PyData.canLayAll0, PyData.canLay0, e, Bool.and_true]
      exact as_ok l.wk.sm
    · simp only [PyData.canLayAll0, PyData.canLay0, e, Bool.and_true]
theorem lay_ops : ∀ {ops : List (List PyData)}, (∀ ds ∈ ops, Shp ds) → PyData.canLayAll0 (ops.map .tuple) = true ∧ PyData.depthAll (ops.map .tuple) ≤ 5
  | [], _ => by simp [PyData.canLayAll0, PyData.depthAll]
  | d :: ds, h => by
    obtain ⟨e1, e2⟩ := lay_ops (ops := ds) fun x m => h x (.tail _ m)
    have l := shp_lf (h d (.head _))
    obtain ⟨_, dp⟩ := lf_all l
    simp only [List.map_cons, PyData.canLayAll0, PyData.canLay0, e1, lay_all l, PyData.depthAll, PyData.depth, dp, Bool.and_true, true_and]
    omega
theorem shaped_his {ops : List (List PyData)} (h : ∀ ds ∈ ops, Shp ds) : SeqAt.shaped (.tuple (ops.map .tuple)) = true := by
  obtain ⟨e1, e2⟩ := lay_ops h
  unfold SeqAt.shaped
  rw [Bool.and_eq_true]
  refine ⟨by simpa only [PyData.canLay0] using e1, decide_eq_true ?_⟩
  simp only [PyData.depth]
  omega
end Rm

set_option maxRecDepth 100000
set_option maxHeartbeats 4000000
namespace Rm
open PySem PySem.Spec L2
open PyProof.Rows hiding St

/-! ### join, with the frame named -/
def rJoin (K : PySem.W.Frag) : V → List V → Hp → VK → Prop := fun x vs H Q => ∃ (sep : Str) (l : Addr) (zs : List Str), x = .str sep ∧ vs = [.ref l] ∧ (SqL K H l (zs.map V.str) ∨ SqT K H l (zs.map V.str)) ∧
  (zs.map (·.length)).sum + zs.length * sep.length ≤ 16777216 ∧ Q (.str (Txt.join sep zs)) H
theorem mt_joinK {X : Cx} : MtR X "str.join" (rJoin X.K) := mt_join
/-! ### data without dicts, as the deep == reads it -/
mutual
theorem dp_of {K : PySem.W.Frag} {H : Hp} : ∀ {d : PyData} {v : V}, d.canLay0 = true → Dx K H v d → Dp K H v d
  | .none, _, _, .non => .non
  | .bool _, _, _, .bl b => .bl b
  | .int _, _, _, .int i => .int i
  | .str _, _, _, .str z => .str z
  | .list _, _, h, .lst hs ha => .lst hs (dpAll_of (by simpa only [PyData.canLay0] using h) ha)
  | .tuple _, _, h, .tup hs ha => .tup hs (dpAll_of (by simpa only [PyData.canLay0] using h) ha)
  | .dict _, _, h, _ => by simp [PyData.canLay0] at h
theorem dpAll_of {K : PySem.W.Frag} {H : Hp} : ∀ {ds : List PyData} {vs : List V}, PyData.canLayAll0 ds = true → DxAll K H vs ds → DpAll K H vs ds
  | [], _, _, .nil => .nil
  | _ :: _, _, h, .cons hx ha => by
    simp only [PyData.canLayAll0, Bool.and_eq_true] at h
    exact .cons (dp_of h.1 hx) (dpAll_of h.2 ha)
end
theorem dp_his {K : PySem.W.Frag} {H : Hp} {x : V} {ops : List (List PyData)} (h : ∀ ds ∈ ops, Shp ds) (hx : Dx K H x (.tuple (ops.map .tuple))) : Dp K H x (.tuple (ops.map .tuple)) :=
  dp_of (by simpa only [PyData.canLay0] using (lay_ops h).1) hx
theorem eqv_his {ops : List (List PyData)} (h : ∀ ds ∈ ops, Shp ds) : PyData.eqv (.tuple (ops.map .tuple)) (.tuple (ops.map .tuple)) = true :=
  SeqAt.eqv_refl _ (by simpa only [PyData.canLay0] using (lay_ops h).1)
/-! ### histories stay where tuples stay -/
def TupK (H H' : Hp) : Prop := ∀ b xs, Rd H b (.tup xs) → Rd H' b (.tup xs)
theorem TupK.of {H H' : Hp} (s : Same H H') : TupK H H' := fun b xs h => SameR.of s b _ h
theorem TupK.trans {H H' H2 : Hp} (a : TupK H H') (b : TupK H' H2) : TupK H H2 := fun x xs h => b x xs (a x xs h)
theorem TupK.put {H : Hp} {q : Addr} {o u : HO} (hq : H q = some u) (h1 : ∀ xs, u ≠ .tup xs) (h2 : ∀ o' w, u ≠ .frz o' w) : TupK H (upd H q o) := fun b xs h => by
  have ne : b ≠ q := fun e => by
    rw [e] at h
    rcases h with h | ⟨o', h⟩
    · rw [hq] at h; exact h1 xs (Option.some.inj h)
    · rw [hq] at h; exact h2 o' _ (Option.some.inj h)
  rcases h with h | ⟨o', h⟩
  · exact .inl ((upd_ne ne).trans h)
  · exact .inr ⟨o', (upd_ne ne).trans h⟩
theorem TupK.nxt {H H' : Hp} {t : Addr} {o : HO} (ht : H t = some o) (ho : IsTape o) (n : Nxt t H H') : TupK H H' := fun b xs h => by
  obtain ⟨dg, mx, rfl, _⟩ := ho
  have ne : b ≠ t := fun e => by
    rw [e] at h
    rcases h with h | ⟨o', h⟩
    · rw [ht] at h; cases h
    · rw [ht] at h; cases h
  rcases h with h | ⟨o', h⟩
  · exact .inl (n.keep b _ h ne)
  · exact .inr ⟨o', n.keep b _ h ne⟩
theorem lf_dxa {K : PySem.W.Frag} {H H' : Hp} : ∀ {xs : List V} {ds : List PyData}, (∀ d ∈ ds, Lf d) → DxAll K H xs ds → DxAll K H' xs ds
  | _, _, _, .nil => .nil
  | _, _, h, .cons hx ha => by
    refine .cons ?_ (lf_dxa (fun d hd => h d (.tail _ hd)) ha)
    rcases (h _ (.head _)).v with ⟨z, rfl⟩ | ⟨i, rfl, _⟩
    · cases hx
      exact .str _
    · cases hx
      exact .int _
theorem his_all {K : PySem.W.Frag} {H H' : Hp} (k : TupK H H') : ∀ {ops : List (List PyData)} {vs : List V}, (∀ ds ∈ ops, Shp ds) → DxAll K H vs (ops.map .tuple) → DxAll K H' vs (ops.map .tuple)
  | [], _, _, .nil => .nil
  | ds :: ops, _, h, .cons hx ha => by
    refine .cons ?_ (his_all k (fun d hd => h d (.tail _ hd)) ha)
    cases hx with
    | tup hs hl => exact .tup (hs.imp (k _ _) id) (lf_dxa (shp_lf (h ds (.head _))) hl)
theorem his_keep {K : PySem.W.Frag} {H H' : Hp} (k : TupK H H') {ops : List (List PyData)} {x : V} (h : ∀ ds ∈ ops, Shp ds) (hx : Dx K H x (.tuple (ops.map .tuple))) : Dx K H' x (.tuple (ops.map .tuple)) := by
  cases hx with
  | tup hs ha => exact .tup (hs.imp (k _ _) id) (his_all k h ha)
end Rm

set_option maxRecDepth 100000
set_option maxHeartbeats 4000000
namespace Rm
open PySem PySem.Spec L2
open PyProof.Rows hiding St

/-! ### texts cut at a sign -/
def tot (ys : List Str) : Nat := (ys.map fun y => y.length + 1).sum
theorem tot_cons (y : Str) (ys : List Str) : tot (y :: ys) = y.length + 1 + tot ys := by
  unfold tot
  rw [List.map_cons, List.sum_cons]
theorem tot_app (xs ys : List Str) : tot (xs ++ ys) = tot xs + tot ys := by
  unfold tot
  rw [List.map_append, List.sum_append]
theorem tot_mem {y : Str} : ∀ {ys : List Str}, y ∈ ys → y.length + 1 ≤ tot ys
  | x :: ys, h => by
    rw [tot_cons]
    rcases List.mem_cons.mp h with rfl | h
    · omega
    · have := tot_mem h
      omega
theorem tot_len : ∀ (ys : List Str), ys.length ≤ tot ys
  | [] => Nat.le_refl _
  | y :: ys => by
    rw [tot_cons, List.length_cons]
    have := tot_len ys
    omega
theorem tot_take (ys : List Str) (n : Nat) : tot (ys.take n) ≤ tot ys := by
  have h := tot_app (ys.take n) (ys.drop n)
  rw [List.take_append_drop] at h
  omega
theorem tot_drop (ys : List Str) (n : Nat) : tot (ys.drop n) ≤ tot ys := by
  have h := tot_app (ys.take n) (ys.drop n)
  rw [List.take_append_drop] at h
  omega
theorem tot_rev (ys : List Str) : tot ys.reverse = tot ys := by
  unfold tot
  rw [List.map_reverse, List.sum_reverse]
theorem join_tot {y : Str} (h : y.length ≤ 1) : ∀ (ys : List Str), (Txt.join y ys).length ≤ tot ys := by
  intro ys
  rw [TL.join_eq]
  induction ys with
  | nil => exact Nat.zero_le _
  | cons p l ih =>
    cases l with
    | nil =>
      rw [tot_cons]
      show p.length ≤ _
      omega
    | cons q r =>
      have e : Str.join y (p :: q :: r) = p ++ y ++ Str.join y (q :: r) := rfl
      rw [e, len_app, len_app, tot_cons]
      omega
theorem tot_join {y : Str} (h : y.length = 1) : ∀ (ys : List Str), tot ys ≤ (Txt.join y ys).length + 1 := by
  intro ys
  rw [TL.join_eq]
  induction ys with
  | nil => exact Nat.zero_le _
  | cons p l ih =>
    cases l with
    | nil =>
      rw [tot_cons]
      show p.length + 1 + 0 ≤ p.length + 1
      omega
    | cons q r =>
      have e : Str.join y (p :: q :: r) = p ++ y ++ Str.join y (q :: r) := rfl
      rw [e, len_app, len_app, tot_cons]
      omega
theorem join_sub {y p : Str} {c : Nat} : ∀ {ps : List Str}, p ∈ ps → c ∈ p.cps.toList → c ∈ (Txt.join y ps).cps.toList := by
  intro ps hp hc
  rw [TL.join_eq]
  have g : c ∈ TL.tl (Str.join y ps) := by
    rw [TL.tl_join]
    induction ps with
    | nil => cases hp
    | cons q l ih =>
      cases l with
      | nil =>
        rw [List.mem_singleton.mp hp] at hc
        exact hc
      | cons r l =>
        show c ∈ TL.tl q ++ (TL.tl y ++ TL.joinL (TL.tl y) ((r :: l).map TL.tl))
        rcases List.mem_cons.mp hp with rfl | hp
        · exact List.mem_append_left _ hc
        · exact List.mem_append_right _ (List.mem_append_right _ (ih hp))
  exact g
theorem split_back (z y : Str) : Txt.join y (Txt.split z y) = z := by
  rw [TL.join_eq]
  exact StrLaws.join_split z y
theorem spl_ne (S : List Nat) : ∀ (l : List Nat) (k : Nat) (acc : List Nat), TL.spl S k acc l ≠ []
  | [], k, acc => by
    rw [TL.spl_nil]
    simp
  | c :: r, 0, acc => by
    unfold TL.spl
    split
    · simp
    · exact spl_ne S r 0 _
  | c :: r, k + 1, acc => by
    unfold TL.spl
    exact spl_ne S r k acc
/-- a sign between -/
structure Sep (y : Str) : Prop where
  l : y.length = 1
  k : y.cps.all (· < 256) = true
theorem Sep.ne {y : Str} (h : Sep y) : TL.tl y ≠ [] := fun e => by
  have e2 : y.length = (TL.tl y).length := rfl
  rw [e, h.l] at e2
  cases e2
theorem sep_sp : Sep " " := ⟨by decide +kernel, by decide +kernel⟩
theorem sep_nl : Sep "\n" := ⟨by decide +kernel, by decide +kernel⟩
theorem split_ne {z y : Str} (h : Sep y) : Txt.split z y ≠ [] := fun e => by
  have s := TL.split_spl z y h.ne (TL.kind_ok h.k)
  rw [e] at s
  exact spl_ne _ _ _ _ s.symm
theorem tot_split {z y : Str} (h : Sep y) : tot (Txt.split z y) ≤ z.length + 1 := by
  have t := tot_join h.l (Txt.split z y)
  rw [split_back] at t
  exact t
theorem split_len {z y p : Str} (h : Sep y) (hp : p ∈ Txt.split z y) : p.length ≤ z.length := by
  have t := tot_split (z := z) h
  have := tot_mem hp
  omega
theorem split_sub {z y p : Str} {c : Nat} (hp : p ∈ Txt.split z y) (hc : c ∈ p.cps.toList) : c ∈ z.cps.toList := by
  have t := join_sub (y := y) hp hc
  rwa [split_back] at t
theorem smC_sub {z p : Str} (h : smC z = true) (s : ∀ c ∈ p.cps.toList, c ∈ z.cps.toList) : smC p = true := by
  unfold smC at h ⊢
  rw [List.all_eq_true] at h ⊢
  exact fun c hc => h c (s c hc)
theorem asA_sub {z p : Str} (h : asA z = true) (s : ∀ c ∈ p.cps.toList, c ∈ z.cps.toList) : asA p = true := by
  unfold asA at h ⊢
  rw [List.all_eq_true] at h ⊢
  exact fun c hc => h c (s c hc)
/-! ### what is read of words is small -/
theorem num_abs {w : Str} {v : Int} (h : numZ w = some v) : v.natAbs < 10 ^ 30 ∧ sI v = w := by
  unfold numZ at h
  by_cases d : isDg (dgZ w) = true
  · rw [if_pos d] at h
    obtain ⟨u, e, l, _⟩ := dg_int d
    rw [e] at h
    dsimp only at h
    by_cases q : sI u = w
    · rw [if_pos q] at h
      cases h
      exact ⟨l, q⟩
    · rw [if_neg q] at h
      cases h
  · rw [if_neg d] at h
    cases h
theorem rdW_sm (i : Nat) {w : Str} (h : smC w = true) : (rdW i w).showable = true ∧ (rdW i w).leavesShort 100 = true ∧ (rdW i w).depth = 0 ∧ (rdW i w).weight ≤ w.length + (if i = 1 ∨ i = 4 then 100 else 0) := by
  unfold rdW nD
  by_cases c : i = 1 ∨ i = 4
  · rw [if_pos c, if_pos c]
    cases e : numZ w with
    | none => exact ⟨rfl, rfl, rfl, Nat.zero_le _⟩
    | some v =>
      obtain ⟨l, q⟩ := num_abs e
      have hl := log_lt l
      refine ⟨?_, ?_, ?_, ?_⟩
      · simp only [PyData.showable]
        exact decide_eq_true (by omega)
      · simp only [PyData.leavesShort]
        refine decide_eq_true ?_
        have := (sI_len l).2
        have e : (PyData.shown (.int v)) = sI v := by
          simp only [PyData.shown]
          rfl
        rw [e]
        omega
      · simp [PyData.depth]
      · simp only [PyData.weight]
        split <;> omega
  · rw [if_neg c, if_neg c]
    refine ⟨rfl, h, by simp [PyData.depth], ?_⟩
    simp only [PyData.weight]
    exact Nat.le_refl _
theorem fndF_sm : ∀ (i : Nat) (ws : List Str), (∀ w ∈ ws, smC w = true) → PyData.showableAll (fndF i ws) = true ∧ PyData.leavesShortAll 100 (fndF i ws) = true ∧ PyData.depthAll (fndF i ws) = 0 ∧
    PyData.weightAll (fndF i ws) ≤ tot ws + (if i ≤ 1 then 200 else if i ≤ 4 then 100 else 0)
  | _, [], _ => ⟨rfl, rfl, by simp [fndF, PyData.depthAll], by simp [fndF, PyData.weightAll]⟩
  | i, w :: ws, h => by
    obtain ⟨a, b, c, d⟩ := rdW_sm i (h w (.head _))
    obtain ⟨a2, b2, c2, d2⟩ := fndF_sm (i + 1) ws fun x hx => h x (.tail _ hx)
    show PyData.showableAll (rdW i w :: fndF (i + 1) ws) = true ∧ PyData.leavesShortAll 100 (rdW i w :: fndF (i + 1) ws) = true ∧ PyData.depthAll (rdW i w :: fndF (i + 1) ws) = 0 ∧ PyData.weightAll (rdW i w :: fndF (i + 1) ws) ≤ _
    simp only [PyData.showableAll, PyData.leavesShortAll, PyData.depthAll, PyData.weightAll, a, b, c, a2, b2, c2, Bool.and_true, true_and, tot_cons]
    refine ⟨rfl, ?_⟩
    split at d <;> split at d2 <;> (try split at d2) <;> (try split) <;> (try split) <;> omega
theorem sm_fnd {z : Str} (h : smC z = true) (hl : z.length ≤ 40000) : Sm (.tuple (fnd (Txt.split z " "))) := by
  obtain ⟨a, b, c, d⟩ := fndF_sm 0 (Txt.split z " ") fun w hw => smC_sub h fun c hc => split_sub hw hc
  have t := tot_split (z := z) sep_sp
  rw [if_pos (by decide)] at d
  refine ⟨by simpa only [PyData.showable, fnd] using a, by simpa only [PyData.leavesShort, fnd] using b, ?_, ?_⟩
  · simp only [PyData.weight]
    show PyData.weightAll (fndF 0 _) ≤ _
    omega
  · simp only [PyData.depth]
    show PyData.depthAll (fndF 0 _) + 1 ≤ _
    omega
/-! ### what is read of a text -/
def opZ (z : Str) : Option (List PyData) := if opD (.tuple (fnd (Txt.split z " "))) = true then some (fnd (Txt.split z " ")) else none
theorem opZ_op {z : Str} {ds : List PyData} (h : opZ z = some ds) : opD (.tuple ds) = true ∧ ds = fnd (Txt.split z " ") := by
  unfold opZ at h
  by_cases c : opD (.tuple (fnd (Txt.split z " "))) = true
  · rw [if_pos c] at h
    cases h
    exact ⟨c, rfl⟩
  · rw [if_neg c] at h
    cases h
def addR (acc : List (List PyData)) : Nat ⊕ List (List PyData) → Nat ⊕ List (List PyData)
  | .inl k => .inl k
  | .inr l => .inr (acc ++ l)
def rdF : Nat → List Str → Nat ⊕ List (List PyData)
  | _, [] => .inr []
  | i, z :: zs => match opZ z with
    | none => .inl (i + 1)
    | some ds => if 60 ≤ i then .inl (i + 1) else addR [ds] (rdF (i + 1) zs)
theorem addR_nil (r : Nat ⊕ List (List PyData)) : addR [] r = r := by
  cases r <;> rfl
theorem addR_add (a b : List (List PyData)) (r : Nat ⊕ List (List PyData)) : addR a (addR b r) = addR (a ++ b) r := by
  cases r with
  | inl k => rfl
  | inr l =>
    show Sum.inr (a ++ (b ++ l)) = Sum.inr (a ++ b ++ l)
    rw [List.append_assoc]
/-- the first i lines are read, acc is what they gave -/
structure Pre (ls : List Str) (i : Nat) (acc : List (List PyData)) : Prop where
  eq : rdF 0 ls = addR acc (rdF i (ls.drop i))
  op : ∀ ds ∈ acc, opD (.tuple ds) = true
  ln : acc.length = i
  le : i ≤ 60
theorem Pre.zero (ls : List Str) : Pre ls 0 [] := ⟨by rw [addR_nil, List.drop_zero], (fun _ h => by cases h), rfl, by decide⟩
theorem drop_get {α : Type} {l : List α} {i : Nat} {z : α} (h : l[i]? = some z) : l.drop i = z :: l.drop (i + 1) := by
  obtain ⟨hl, e⟩ := List.getElem?_eq_some_iff.mp h
  rw [List.drop_eq_getElem_cons hl, e]
theorem Pre.bad {ls : List Str} {i : Nat} {acc : List (List PyData)} {z : Str} (p : Pre ls i acc) (h : ls[i]? = some z) (b : opZ z = none ∨ 60 ≤ i) : rdF 0 ls = .inl (i + 1) := by
  rw [p.eq, drop_get h]
  unfold rdF
  cases e : opZ z with
  | none => rfl
  | some ds =>
    dsimp only
    rcases b with b | b
    · rw [e] at b
      cases b
    · rw [if_pos b]
      rfl
theorem Pre.next {ls : List Str} {i : Nat} {acc : List (List PyData)} {z : Str} {ds : List PyData} (p : Pre ls i acc) (h : ls[i]? = some z) (b : opZ z = some ds) (l : i < 60) : Pre ls (i + 1) (acc ++ [ds]) := by
  refine ⟨?_, fun d hd => ?_, by rw [List.length_append, p.ln]; rfl, l⟩
  · rw [p.eq, drop_get h]
    have e : rdF i (z :: ls.drop (i + 1)) = addR [ds] (rdF (i + 1) (ls.drop (i + 1))) := by
      have u : rdF i (z :: ls.drop (i + 1)) = (match opZ z with
        | none => Sum.inl (i + 1)
        | some ds => if 60 ≤ i then .inl (i + 1) else addR [ds] (rdF (i + 1) (ls.drop (i + 1)))) := rfl
      rw [u, b]
      exact if_neg (by omega)
    rw [e, addR_add]
  · rcases List.mem_append.mp hd with hd | hd
    · exact p.op d hd
    · rw [List.mem_singleton.mp hd]
      exact (opZ_op b).1
theorem Pre.all {ls : List Str} {acc : List (List PyData)} (p : Pre ls ls.length acc) : rdF 0 ls = .inr acc := by
  rw [p.eq, List.drop_length]
  show Sum.inr (acc ++ []) = _
  rw [List.append_nil]
def valR : PyData → Nat ⊕ List (List PyData)
  | .str z => rdF 0 (linesZ z)
  | _ => .inl 1
/-- what is told of it -/
def rdD : Nat ⊕ List (List PyData) → PyData
  | .inl k => .list [.str "line", .int ((k : Nat) : Int)]
  | .inr ops => .list [.str "told", .tuple (ops.map .tuple)]
/-- a value that may be read -/
structure Okd (d : PyData) : Prop where
  sm : Sm d
  t : ∀ z, d = .str z → z.length ≤ 40000 ∧ smC z = true
theorem Okd.text {z : Str} (h : smC z = true) (l : z.length ≤ 40000) : Okd (.str z) := by
  have e : z.cps.size = z.length := rfl
  refine ⟨⟨rfl, h, ?_, ?_⟩, fun y e => ?_⟩
  · simp only [PyData.weight]; omega
  · simp [PyData.depth]
  · cases e
    exact ⟨l, h⟩
theorem Okd.val {d : PyData} (h : Sv d) : Okd d := ⟨h.sm, fun z e => by
  subst e
  have w := h.wt
  have l := h.lv
  simp only [PyData.weight] at w
  exact ⟨Nat.le_trans (show z.length ≤ 1000 from w) (by decide), l⟩⟩
theorem linesZ_sub {z p : Str} (h : p ∈ linesZ z) : p.length ≤ z.length ∧ ∀ c ∈ p.cps.toList, c ∈ z.cps.toList := by
  unfold linesZ at h
  split at h
  · exact ⟨split_len sep_nl h, fun c hc => split_sub h hc⟩
  · cases h
theorem linesZ_len (z : Str) : (linesZ z).length ≤ z.length + 1 := by
  unfold linesZ
  split
  · have := tot_split (z := z) sep_nl
    have := tot_len (Txt.split z "\n")
    omega
  · exact Nat.zero_le _
theorem rdF_le : ∀ (ls : List Str) (i k : Nat), rdF i ls = .inl k → k ≤ i + ls.length
  | [], i, k, h => by cases h
  | z :: zs, i, k, h => by
    unfold rdF at h
    rw [List.length_cons]
    cases e : opZ z with
    | none =>
      rw [e] at h
      cases h
      omega
    | some ds =>
      rw [e] at h
      dsimp only at h
      by_cases c : 60 ≤ i
      · rw [if_pos c] at h
        cases h
        omega
      · rw [if_neg c] at h
        cases r : rdF (i + 1) zs with
        | inl m =>
          rw [r] at h
          have h : (Sum.inl m : Nat ⊕ List (List PyData)) = .inl k := h
          have e := Sum.inl.inj h
          have := rdF_le zs (i + 1) m r
          omega
        | inr l =>
          rw [r] at h
          cases h
theorem rdF_shp : ∀ (ls : List Str) (i : Nat) (ops : List (List PyData)), rdF i ls = .inr ops → (∀ ds ∈ ops, opD (.tuple ds) = true) ∧ (i ≤ 60 → ops.length + i ≤ 60)
  | [], i, ops, h => by
    cases h
    exact ⟨(fun _ h => by cases h), fun h => by simpa using h⟩
  | z :: zs, i, ops, h => by
    unfold rdF at h
    cases e : opZ z with
    | none => rw [e] at h; cases h
    | some ds =>
      rw [e] at h
      dsimp only at h
      by_cases c : 60 ≤ i
      · rw [if_pos c] at h
        cases h
      · rw [if_neg c] at h
        cases r : rdF (i + 1) zs with
        | inl m => rw [r] at h; cases h
        | inr l =>
          rw [r] at h
          have h : Sum.inr ([ds] ++ l) = (Sum.inr ops : Nat ⊕ List (List PyData)) := h
          cases h
          obtain ⟨a, b⟩ := rdF_shp zs (i + 1) l r
          refine ⟨fun d hd => ?_, fun _ => ?_⟩
          · rcases List.mem_append.mp hd with hd | hd
            · rw [List.mem_singleton.mp hd]
              exact (opZ_op e).1
            · exact a d hd
          · have := b (by omega)
            rw [List.length_append, List.length_singleton]
            omega
theorem sm_two2 {a b : PyData} (ha : Sv a) (hb : Sm b) (hd : b.depth ≤ 40) (hw : b.weight ≤ 90000) : Sm (.list [a, b]) := by
  have h1 := ha.wt
  have h2 := ha.dp
  refine ⟨?_, ?_, ?_, ?_⟩
  · simp [PyData.showable, PyData.showableAll, ha.sh, hb.sh]
  · simp [PyData.leavesShort, PyData.leavesShortAll, ha.lv, hb.lv]
  · simp only [PyData.weight, PyData.weightAll]; omega
  · simp only [PyData.depth, PyData.depthAll]; omega
theorem sm_rdD {d : PyData} (h : Okd d) : Sm (rdD (valR d)) := by
  have one : ∀ k : Nat, k ≤ 40001 → Sm (rdD (.inl k)) := fun k hk => by
    have s : Sv (.int ((k : Nat) : Int)) := Sv.int (by omega) (by omega)
    refine sm_two2 (Sv.of (by decide +kernel)) s.sm ?_ ?_
    · have := s.dp; omega
    · have := s.wt; omega
  cases d with
  | str z =>
    obtain ⟨l, _⟩ := h.t z rfl
    show Sm (rdD (rdF 0 (linesZ z)))
    cases r : rdF 0 (linesZ z) with
    | inl k =>
      have := rdF_le _ _ _ r
      have := linesZ_len z
      exact one k (by omega)
    | inr ops =>
      obtain ⟨a, b⟩ := rdF_shp _ _ _ r
      have b := b (by decide)
      have sh : ∀ ds ∈ ops, Shp ds := fun ds hd => shp_of (a ds hd)
      obtain ⟨_, _, c, e⟩ := sv_dep (ds := ops.map .tuple) fun d hd => by
        obtain ⟨o, ho, rfl⟩ := List.mem_map.mp hd
        exact sv_op (sh o ho)
      rw [List.length_map] at c
      refine sm_two2 (Sv.of (by decide +kernel)) (sm_his sh (by omega)) ?_ ?_
      · simp only [PyData.depth]; omega
      · simp only [PyData.weight]; omega
  | _ => exact one 1 (by decide)
end Rm

set_option maxRecDepth 100000
set_option maxHeartbeats 4000000
namespace Rm
open PySem PySem.Spec L2
open PyProof.Rows hiding St

/-! ### numbers within bounds, as a word says them -/
def numB (lo hi : Int) (w : Str) : Option Int := match numZ w with
  | some v => if lo ≤ v ∧ v ≤ hi then some v else none
  | none => none
theorem numB_isW {lo hi : Int} {w : Str} : isW lo hi (nD w) = (numB lo hi w).isSome := by
  unfold nD numB
  cases numZ w with
  | none => rfl
  | some v =>
    show (decide (lo ≤ v) && decide (v ≤ hi)) = _
    dsimp only
    by_cases h : lo ≤ v ∧ v ≤ hi
    · rw [if_pos h, decide_eq_true h.1, decide_eq_true h.2]; rfl
    · rw [if_neg h]
      cases a : decide (lo ≤ v) with
      | false => rfl
      | true =>
        cases b : decide (v ≤ hi) with
        | false => rfl
        | true => exact absurd ⟨of_decide_eq_true a, of_decide_eq_true b⟩ h
theorem numB_nD {lo hi v : Int} {w : Str} (h : numB lo hi w = some v) : nD w = .int v ∧ lo ≤ v ∧ v ≤ hi := by
  unfold numB at h
  unfold nD
  cases e : numZ w with
  | none => rw [e] at h; cases h
  | some u =>
    rw [e] at h
    dsimp only at h
    by_cases c : lo ≤ u ∧ u ≤ hi
    · rw [if_pos c] at h
      cases h
      exact ⟨rfl, c⟩
    · rw [if_neg c] at h; cases h
structure Plain (w : Str) : Prop where
  d : NumText.AllDigits w.cps.toList
  n : w.cps.toList ≠ []
  l : w.length ≤ 30
theorem Plain.dg {w : Str} (h : Plain w) : dgZ w = w ∧ isDg (dgZ w) = true := by
  have e : dgZ w = w := dgZ_pos fun cs q => by
    have := h.d 45 (by rw [q]; exact .head _)
    omega
  exact ⟨e, by rw [e]; exact dg_iff.mpr ⟨h.d, h.n, h.l⟩⟩
theorem Plain.val {w : Str} (h : Plain w) : intText? w = some ((NumText.digitsVal w.cps.toList : Nat) : Int) := intText_digits h.d h.n (by have := h.l; omega)
theorem numL_back {cs : List Nat} (h : NumText.AllDigits cs) (n : cs ≠ []) (z : cs.head? ≠ some 48 ∨ cs = [48]) : TL.numL (NumText.digitsVal cs) = cs := by
  have lp := List.length_pos_iff.mpr n
  have e := NumText.toDigits_digitsVal (cs.length - 1) cs (by omega) h (by
    rcases z with z | z
    · right
      match cs, n with
      | c :: r, _ =>
        refine ⟨c, r, rfl, ?_⟩
        have := h c (.head _)
        have : c ≠ 48 := fun e => z (by rw [e]; rfl)
        omega
    · left
      rw [z]
      rfl)
  unfold TL.numL
  rw [e, List.map_map]
  have g : ∀ (l : List Nat), NumText.AllDigits l → l.map (Char.toNat ∘ Char.ofNat) = l := by
    intro l
    induction l with
    | nil => intro _; rfl
    | cons c l ih =>
      intro h
      rw [List.map_cons, ih fun x hx => h x (.tail _ hx)]
      have hc := h c (.head _)
      have : (Char.toNat ∘ Char.ofNat) c = c := by
        have t : ∀ k : Fin 10, (Char.ofNat (48 + k.val)).toNat = 48 + k.val := by decide
        have := t ⟨c - 48, by omega⟩
        dsimp only at this
        rw [show 48 + (c - 48) = c by omega] at this
        exact this
      rw [this]
  exact g cs h
theorem str_ext {a b : Str} (h : a.cps.toList = b.cps.toList) : a = b := TL.ext_tl h
theorem z48 : ("0" : Str).cps.toList = [48] := by decide +kernel
theorem Plain.num {w : Str} (h : Plain w) (z : ¬ (w.cps.toList.head? = some 48 ∧ w ≠ "0")) : numZ w = some ((NumText.digitsVal w.cps.toList : Nat) : Int) := by
  unfold numZ
  rw [if_pos h.dg.2, h.val]
  refine if_pos (str_ext ?_)
  rw [tl_sI]
  refine numL_back h.d h.n ?_
  by_cases c : w.cps.toList.head? = some 48
  · right
    have e : w = "0" := Classical.byContradiction fun q => z ⟨c, q⟩
    rw [e, z48]
  · exact .inl c
theorem Plain.lead {w : Str} (h : Plain w) (z : w.cps.toList.head? = some 48 ∧ w ≠ "0") : numZ w = none := by
  unfold numZ
  rw [if_pos h.dg.2, h.val]
  refine if_neg fun e => ?_
  have e2 : (sI ((NumText.digitsVal w.cps.toList : Nat) : Int)).cps.toList = w.cps.toList := by rw [e]
  rw [tl_sI] at e2
  generalize NumText.digitsVal w.cps.toList = n at e2
  obtain ⟨z1, z2⟩ := z
  rw [← e2] at z1
  by_cases l : n < 10
  · rw [TL.numL_lt l] at e2 z1
    have : 48 + n = 48 := by simpa using z1
    refine z2 (str_ext ?_)
    rw [← e2, z48, this]
  · -- a longer number does not begin with a nought
    have g : ∀ n : Nat, 0 < n → (TL.numL n).head? ≠ some 48 := by
      intro n
      induction n using Nat.strongRecOn with
      | ind n ih =>
        intro hp
        by_cases q : n < 10
        · rw [TL.numL_lt q]
          simp
          omega
        · rw [TL.numL_step (by omega)]
          have := ih (n / 10) (by omega) (by omega)
          cases e : TL.numL (n / 10) with
          | nil => exact absurd e (TL.numL_ne _)
          | cons c r =>
            rw [e] at this
            simpa using this
    exact g n (by omega) z1
/-- a word that is no row of digits is no number, or one below nought -/
theorem num_neg {w : Str} (h : ¬ Plain w) {v : Int} (e : numZ w = some v) : v < 0 := by
  obtain ⟨l, q⟩ := num_abs e
  rcases Int.lt_or_le v 0 with n | p
  · exact n
  · exfalso
    obtain ⟨m, rfl⟩ := Int.eq_ofNat_of_zero_le p
    rw [Int.natAbs_natCast] at l
    refine h ⟨?_, ?_, ?_⟩
    · rw [← q, tl_sI]; exact TL.numL_digits m
    · rw [← q, tl_sI]; exact TL.numL_ne m
    · show w.cps.toList.length ≤ 30
      rw [← q, tl_sI]; exact numL_30 l
theorem numB_np {w : Str} {lo hi : Int} (h0 : 0 ≤ lo) (h : ¬ Plain w) : numB lo hi w = none := by
  unfold numB
  cases e : numZ w with
  | none => rfl
  | some v =>
    have := num_neg h e
    exact if_neg (by omega)
theorem Plain.numB {w : Str} {lo hi : Int} (h : Plain w) (z : ¬ (w.cps.toList.head? = some 48 ∧ w ≠ "0")) : Rm.numB lo hi w = if lo ≤ ((NumText.digitsVal w.cps.toList : Nat) : Int) ∧ ((NumText.digitsVal w.cps.toList : Nat) : Int) ≤ hi then some ((NumText.digitsVal w.cps.toList : Nat) : Int) else none := by
  unfold Rm.numB
  rw [h.num z]
theorem Plain.numB0 {w : Str} {lo hi : Int} (h : Plain w) (z : w.cps.toList.head? = some 48 ∧ w ≠ "0") : Rm.numB lo hi w = none := by
  unfold Rm.numB
  rw [h.lead z]
theorem numB_v {w : Str} : numB vlo vhi w = numZ w := by
  unfold numB
  cases e : numZ w with
  | none => rfl
  | some v =>
    obtain ⟨l, _⟩ := num_abs e
    have e3 : vlo = -999999999999999999999999999999 := by decide
    have e4 : vhi = 999999999999999999999999999999 := by decide
    exact if_pos ⟨by omega, by omega⟩
theorem numB_hi {w : Str} (h : ∀ cs, w.cps.toList ≠ 45 :: cs) : numB 0 (10 ^ 30) w = numZ w := by
  unfold numB
  cases e : numZ w with
  | none => rfl
  | some v =>
    obtain ⟨l, q⟩ := num_abs e
    refine if_pos ⟨?_, by omega⟩
    rcases Int.lt_or_le v 0 with n | p
    · have t := tl_sIneg n
      rw [q] at t
      exact absurd t (h _)
    · exact p
theorem num_minus {w : Str} {cs : List Nat} (h : w.cps.toList = 45 :: cs) : numZ w = (numB 1 (10 ^ 30) ⟨cs.toArray⟩).map fun v => 0 - v := by
  have ec : (⟨cs.toArray⟩ : Str).cps.toList = cs := by simp
  cases e : numZ w with
  | some v =>
    obtain ⟨l, q⟩ := num_abs e
    have n : v < 0 := by
      rcases Int.lt_or_le v 0 with n | p
      · exact n
      · obtain ⟨m, rfl⟩ := Int.eq_ofNat_of_zero_le p
        have t := tl_sI m
        rw [q, h] at t
        have := TL.numL_digits m 45 (by rw [← t]; exact .head _)
        omega
    have t := tl_sIneg n
    rw [q, h] at t
    have t2 : cs = TL.numL v.natAbs := (List.cons.inj t).2
    have e2 : (⟨cs.toArray⟩ : Str) = sI (v.natAbs : Int) := str_ext (by rw [ec, tl_sI, t2])
    have e3 : numB 1 (10 ^ 30) ⟨cs.toArray⟩ = some (v.natAbs : Int) := by
      unfold numB
      rw [e2, sI_read (by rw [Int.natAbs_natCast]; exact l)]
      exact if_pos ⟨by omega, by omega⟩
    rw [e3]
    show some v = some (0 - (v.natAbs : Int))
    congr 1
    omega
  | none =>
    cases e2 : numB 1 (10 ^ 30) (⟨cs.toArray⟩ : Str) with
    | none => rfl
    | some n =>
      exfalso
      unfold numB at e2
      cases e3 : numZ (⟨cs.toArray⟩ : Str) with
      | none => rw [e3] at e2; cases e2
      | some u =>
        rw [e3] at e2
        dsimp only at e2
        by_cases c : 1 ≤ u ∧ u ≤ 10 ^ 30
        · obtain ⟨l, q⟩ := num_abs e3
          have t : (sI u).cps.toList = cs := by rw [q, ec]
          obtain ⟨m, rfl⟩ := Int.eq_ofNat_of_zero_le (show 0 ≤ u by omega)
          rw [tl_sI] at t
          have nm : (-(m : Int)) < 0 := by omega
          have t2 := tl_sIneg nm
          have ea : (-(m : Int)).natAbs = m := by omega
          rw [ea, t, ← h] at t2
          have e4 := sI_read (i := -(m : Int)) (by rw [ea]; simpa using l)
          rw [str_ext t2, e] at e4
          cases e4
        · rw [if_neg c] at e2; cases e2
/-! ### a text many times -/
def repS (z : Str) (n : Nat) : Str := ⟨(List.replicate n z.cps).foldl (· ++ ·) #[]⟩
theorem repS_list (z : Str) (n : Nat) : (repS z n).cps.toList = (List.replicate n z.cps.toList).flatten := by
  have g : ∀ (l : List (Array Nat)) (a : Array Nat), (l.foldl (· ++ ·) a).toList = a.toList ++ (l.map Array.toList).flatten := by
    intro l
    induction l with
    | nil => intro a; simp
    | cons x l ih =>
      intro a
      rw [List.foldl_cons, ih, Array.toList_append, List.map_cons, List.flatten_cons, List.append_assoc]
  have := g (List.replicate n z.cps) #[]
  show ((List.replicate n z.cps).foldl (· ++ ·) #[]).toList = _
  rw [this, List.map_replicate]
  rfl
theorem repS_len (z : Str) (n : Nat) : (repS z n).length = n * z.length := by
  have e : (repS z n).length = (repS z n).cps.toList.length := rfl
  have g : ∀ (n k : Nat), (List.replicate n k).sum = n * k := by
    intro n k
    induction n with
    | zero => simp
    | succ n ih => rw [List.replicate_succ, List.sum_cons, ih, Nat.add_mul, Nat.one_mul, Nat.add_comm]
  rw [e, repS_list, List.length_flatten, List.map_replicate, g]
  rfl
theorem repS_mem {z : Str} {n c : Nat} (h : c ∈ (repS z n).cps.toList) : c ∈ z.cps.toList := by
  rw [repS_list] at h
  obtain ⟨l, hl, hc⟩ := List.mem_flatten.mp h
  rw [(List.mem_replicate.mp hl).2] at hc
  exact hc
def rRepN : R2 := fun x y H Q => ∃ (z : Str) (n : Int), x = .str z ∧ y = .int n ∧ 2 ≤ n ∧ n ≤ 100000 ∧ 1 ≤ z.length ∧ z.length ≤ 100 ∧ Q (.str (repS z n.toNat)) H
theorem op_repN {X : Cx} : OpR X (binaryOp .Mult) rRepN := by
  intro pins s σ H x y v u Q I rx ry h
  obtain ⟨z, n, rfl, rfl, n2, nn, z1, z2, q⟩ := h
  obtain ⟨t, rfl⟩ := rx
  obtain ⟨t', rfl⟩ := ry
  have c1 : ¬ n < 1 := by omega
  have c2 : ¬ (n == 1 || z.length == 0) = true := by
    simp
    exact ⟨by omega, fun e => by omega⟩
  refine PySem.P.mul_str ?_ (fun _ _ => ?_) (fun _ _ => ?_) ?_
  · rw [decide_eq_false (by omega), decide_eq_false (by omega)]
    rfl
  · have h1 : (100 : Int) ≤ (2 ^ 63 - 1) / n := by
      refine (Int.le_ediv_iff_mul_le (by omega)).mpr ?_
      omega
    omega
  · unfold Builtin.Str.tooLong
    have : z.length * n.toNat ≤ 100 * 100000 := Nat.mul_le_mul z2 (by omega)
    refine decide_eq_false ?_
    rw [sizeLine_eq]
    omega
  · rw [if_neg c1, if_neg c2]
    refine ⟨?_, .str _, H, I.tok _, ⟨_, rfl⟩, q⟩
    show (repS z n.toNat).length ≤ sizeLine
    rw [repS_len, sizeLine_eq]
    have : n.toNat * z.length ≤ 100000 * 100 := Nat.mul_le_mul (by omega) z2
    omega
/-! ### a list of texts among lists of texts -/
theorem eqvAll_strs : ∀ (xs ys : List Str), PyData.eqvAll (xs.map .str) (ys.map .str) = decide (xs = ys)
  | [], [] => by simp [PyData.eqvAll]
  | [], _ :: _ => by simp [PyData.eqvAll]
  | _ :: _, [] => by simp [PyData.eqvAll]
  | x :: xs, y :: ys => by
    have ih := eqvAll_strs xs ys
    simp only [List.map_cons, PyData.eqvAll, PyData.eqv, ih, List.cons.injEq]
    rw [Bool.eq_iff_iff]
    simp
theorem alike_strs : ∀ (xs ys : List Str), PySem.W.alikeAll (xs.map .str) (ys.map .str) = true
  | [], _ => by simp [PySem.W.alikeAll]
  | _ :: _, [] => by simp [PySem.W.alikeAll]
  | x :: xs, y :: ys => by
    simp only [List.map_cons, PySem.W.alikeAll, PySem.W.alike, alike_strs xs ys, Bool.and_true]
theorem dp_strs {K : PySem.W.Frag} {H : Hp} : ∀ (xs : List Str), DpAll K H (xs.map V.str) (xs.map .str)
  | [] => .nil
  | x :: xs => .cons (.str x) (dp_strs xs)
theorem dp_depth : ∀ (xs : List Str), PyData.depthAll (xs.map .str) = 0
  | [] => by simp [PyData.depthAll]
  | x :: xs => by simp [PyData.depthAll, PyData.depth, dp_depth xs]
theorem vals_prs {α : Type} : ∀ {ps : List (Addr × α)} {us : List Value}, Vals (ps.map fun p => V.ref p.1) us → us = ps.map fun p => Value.ref p.1
  | [], _, .nil => rfl
  | p :: ps, _, .cons r t => by
    cases r
    rw [vals_prs t]
    rfl
def rInLs (K : PySem.W.Frag) : R2 := fun x y H Q => ∃ (a p : Addr) (ws : List Str) (ps : List (Addr × List Str)), x = .ref a ∧ SqL K H a (ws.map V.str) ∧ y = .ref p ∧ SqT K H p (ps.map fun q => V.ref q.1) ∧ (ps.map (·.1)).Nodup ∧
  (∀ q ∈ ps, SqL K H q.1 (q.2.map V.str)) ∧ Q (.bl (ps.any fun q => decide (q.2 = ws))) H
theorem op_inLs {X : Cx} (hu : X.A.units + 64 < cLine) : OpR X (compareOp .In) (rInLs X.K) := by
  intro pins s σ H x y v u Q I rx ry h
  obtain ⟨a, p, ws, ps, rfl, ha, rfl, hp, nd, hq, q⟩ := h
  obtain ⟨as, r1⟩ := Dp.reads I (.list (ws.map .str)) (.ref a) v (.lst ha (dp_strs ws)) rx
  cases rx
  cases ry
  obtain ⟨its, rv, pl, _⟩ := I.tuple hp
  have ei := vals_prs rv
  subst ei
  let e : Value → Bool := fun u => ps.any fun q => decide (u = .ref q.1) && decide (q.2 = ws)
  have ee : ∀ q ∈ ps, e (.ref q.1) = decide (q.2 = ws) := fun q hm => by
    show (ps.any fun r => decide (Value.ref q.1 = .ref r.1) && decide (r.2 = ws)) = _
    rw [Bool.eq_iff_iff, List.any_eq_true]
    constructor
    · rintro ⟨r, hr, h⟩
      simp only [Bool.and_eq_true, decide_eq_true_eq] at h
      have e1 : q.1 = r.1 := Value.ref.inj h.1
      have e2 : q = r := by
        have inj := List.pairwise_map.mp nd
        exact Classical.byContradiction fun ne => by
          obtain ⟨i, hi, ei⟩ := List.mem_iff_getElem.mp hm
          obtain ⟨j, hj, ej⟩ := List.mem_iff_getElem.mp hr
          have pw := List.pairwise_iff_getElem.mp inj
          rcases Nat.lt_trichotomy i j with l | l | l
          · exact pw i j hi hj l (by rw [ei, ej]; exact e1)
          · subst l; exact ne (ei.symm.trans ej)
          · exact pw j i hj hi l (by rw [ei, ej]; exact e1.symm)
      rw [e2]
      exact decide_eq_true h.2
    · intro h
      exact ⟨q, hm, by simp only [Bool.and_eq_true, decide_eq_true_eq]; exact ⟨trivial, of_decide_eq_true h⟩⟩
  refine SeqAt.in_tupleAt e pl (fun y hy => ?_) ⟨.bl _, H, I, rfl, ?_⟩
  · have hy : y ∈ (ps.map fun p => Value.ref p.1) := by simpa using hy
    obtain ⟨r, hr, rfl⟩ := List.mem_map.mp hy
    obtain ⟨bs, r2⟩ := Dp.reads I (.list (r.2.map .str)) (.ref r.1) (.ref r.1) (.lst (hq r hr) (dp_strs r.2)) rfl
    have k := PySem.W.eqAt_alike (.list (r.2.map .str)) (.list (ws.map .str)) X.A.in1 s _ _ _ _ r2 r1 (by simp only [PySem.W.alike]; exact alike_strs _ _) (by
      have d1 : (PyData.list (r.2.map .str)).depth = 1 := by simp [PyData.depth, dp_depth]
      have hu2 : X.A.in1.units ≤ X.A.units + 1 := by simp
      omega)
    rw [ee r hr]
    have ev : PyData.eqv (.list (r.2.map .str)) (.list (ws.map .str)) = decide (r.2 = ws) := by
      simp only [PyData.eqv]
      exact eqvAll_strs _ _
    rw [ev] at k
    exact k
  · have en : (ps.map fun p => Value.ref p.1).toArray.any e = ps.any fun q => decide (q.2 = ws) := by
      rw [List.any_toArray, List.any_map]
      have g : ∀ (l : List (Addr × List Str)), (∀ q ∈ l, q ∈ ps) → l.any (e ∘ fun p => Value.ref p.1) = l.any fun q => decide (q.2 = ws) := by
        intro l
        induction l with
        | nil => intro _; rfl
        | cons q l ih =>
          intro h
          rw [List.any_cons, List.any_cons, ih fun x hx => h x (.tail _ hx)]
          rw [show (e ∘ fun p : Addr × List Str => Value.ref p.1) q = e (.ref q.1) from rfl, ee q (h q (.head _))]
      exact g ps fun _ h => h
    rw [en]
    exact q
end Rm

set_option maxRecDepth 100000
set_option maxHeartbeats 4000000
namespace Rm
open PySem PySem.Spec L2
open PyProof.Rows hiding St

/-! ### a list beside an empty one, != -/
def rNeE (K : PySem.W.Frag) : R2 := fun x y H Q => ∃ a xs b, x = .ref a ∧ SqL K H a xs ∧ y = .ref b ∧ SqL K H b [] ∧ Q (.bl (!xs.isEmpty)) H
theorem op_neE {X : Cx} (hu : X.A.units < cLine) : OpR X (compareOp .NotEq) (rNeE X.K) := by
  intro pins s σ H x y v u Q I rx ry h
  obtain ⟨a, xs, b, rfl, ha, rfl, hb, q⟩ := h
  cases rx
  cases ry
  obtain ⟨its, rv, hl, _⟩ := I.list ha
  obtain ⟨its2, rv2, hl2, _⟩ := I.list hb
  have z2 : its2 = [] := by
    cases rv2
    rfl
  subst z2
  refine PySem.W.cmp_ofNotEq ?_
  cases rv with
  | nil =>
    refine PySem.SeqAt.RcNeAt.lists (e := fun _ => true) hl.isList hl2.isList rfl hu (fun j h1 _ => absurd h1 (by simp)) _ _ _ _ ?_
    exact ⟨.bl _, H, I, rfl, q⟩
  | cons r rs =>
    refine PySem.SeqAt.RcNeAt.lists_lengths hl.isList hl2.isList (by simp) hu _ _ _ _ ?_
    exact ⟨.bl _, H, I, rfl, q⟩
def oN : Option Int → V
  | some v => .int v
  | none => .non
theorem oN_some (v : Int) : oN (some v) = .int v := rfl
theorem signs_lt (a b : Nat) : ([a] < [b]) ↔ a < b := by rw [List.cons_lt_cons_iff]; simp
end Rm

set_option maxRecDepth 100000
set_option maxHeartbeats 4000000
namespace Rm
open PySem PySem.Spec L2
open PyProof.Rows hiding St

/-! ### line, *more = a list -/
theorem draw_walk {P : Program} {w : World} {A : Around} {I : Addr} {fp wr : List Addr} {n : Nat} {Pi : Nat → Value → Prop} {St : Nat → Heap → Prop} (W : Walks P w A I fp wr n Pi St) {E : Value → Shared → Prop} :
    ∀ (k i : Nat) (s : Shared) (Q : List Value → Shared → Prop), i + k ≤ n → St i s.heap →
      (∀ (vs : List Value) (h' : Heap) (tk : Nat), vs.length = k → (∀ j v, vs[j]? = some v → Pi (i + j) v) → St (i + k) h' →
        (∀ (b : Addr) (o : Obj), ¬b ∈ wr → s.heap.get? b = some o → h'.get? b = some o) → Q vs ⟨h', s.gens, s.drawn, tk, s.os⟩) →
      wpAny (model P w) A (draw (.ref I) k) Q E s
  | 0, i, s, Q, hk, st, q => wpAny_pure (q [] s.heap s.toks rfl (fun j v h => by simp at h) st fun _ _ _ h => h)
  | k + 1, i, s, Q, hk, st, q => by
    unfold draw
    refine wpAny_bind (W.item i s _ _ (by omega) st fun v h' tk pv st' fr => ?_)
    refine wpAny_bind (wpAny_holding (draw_walk W k (i + 1) _ _ (by omega) st' fun vs h'' tk' hl hp st'' fr' => wpAny_pure ?_))
    refine q (v :: vs) h'' tk' (by simp [hl]) (fun j u h => ?_) (by rw [show i + (k + 1) = i + 1 + k by omega]; exact st'') fun b o hb h => fr' b o hb (fr b o hb h)
    cases j with
    | zero =>
      obtain rfl := Option.some.inj h
      exact pv
    | succ j =>
      have := hp j u h
      rwa [show i + 1 + j = i + (j + 1) by omega] at this

def gStar (K : PySem.W.Frag) (t : TGs) : TG := fun v σ H Q => ∃ a x xs, v = V.ref a ∧ SqL K H a (x :: xs) ∧ ∀ D, H D = none → D ≠ a → t [x, .ref D] σ (upd H D (.lst xs)) Q
theorem pg_star {X : Cx} {pos sp : Pos} {e t : PySem.Expr} {k : Nat} {g : TGs} (hc : X.calm = true) (h : PGs X [e, t] g)
    (eq1 : (assignEach [e, t.Starred sp] X.env).map (·.2) = (assignEach [e, t] X.env).map (·.2) := by rfl)
    (eq2 : (assignEach [e, t.Starred sp] X.env).findIdx? (·.1) = some 1 := by rfl) (eq3 : (assignEach [e, t.Starred sp] X.env).length = 2 := by rfl) :
    PG X (.Tuple [e, t.Starred sp] k pos) (gStar X.K g) := by
  refine ⟨fun pins s σ H v u Q I rv q => ?_⟩
  obtain ⟨a, x, xs, rfl, hq, q⟩ := q
  cases rv
  obtain ⟨its, rs, p, hz⟩ := I.list hq
  obtain ⟨u0, us, rfl, r0, r1⟩ : ∃ u0 us, its = u0 :: us ∧ RelV x u0 ∧ Vals xs us := by
    cases rs with
    | cons a b => exact ⟨_, _, rfl, a, b⟩
  rw [arm_assign_Tuple]
  refine wpAny_bind (wpAny_standAt ?_)
  unfold unpack
  rw [eq2, eq3]
  refine wpAny_bind (wpAny_holding ?_)
  have hd : X.A.handled = none := I.ok.hd hc
  have ne : a ≠ s.heap.objs.size := fun e => by
    obtain ⟨o, ho, _⟩ := p.isList
    exact absurd (Heap.lt_size (e ▸ ho)) (Nat.lt_irrefl _)
  unfold unpackItems notIterableAtAll
  refine wpAny_bind (wpAny_bind (wpAny_specialOf (T := "list") ?_ (by rfl) ?_))
  · obtain ⟨o, n, ho, c, _⟩ := p
    exact ⟨o, ho, c⟩
  refine wpAny_ite_true rfl (wpAny_pure ?_)
  refine wpAny_ite_false (by decide) ?_
  refine wpAny_bind (wpAny_holding (wpAny_pyIter_list p.isList ?_))
  have hl : s.heap.IsList a (u0 :: us).toArray := p.isList
  have W : Walks X.prog X.w X.A s.heap.objs.size [s.heap.objs.size, a] [s.heap.objs.size] (u0 :: us).toArray.size (fun i v => (u0 :: us).toArray[i]? = some v) (fun i h => h.IsListIter s.heap.objs.size a i ∧ h.IsList a (u0 :: us).toArray) := Walks.list hd _ _ ne _
  have W' : Walks X.prog X.w X.A.in1 s.heap.objs.size [s.heap.objs.size, a] [s.heap.objs.size] (u0 :: us).toArray.size (fun i v => (u0 :: us).toArray[i]? = some v) (fun i h => h.IsListIter s.heap.objs.size a i ∧ h.IsList a (u0 :: us).toArray) := Walks.list (A := X.A.in1) (show X.A.handled = none from hd) _ _ ne _
  refine wpAny_bind (wpAny_holding (draw_walk W 1 0 _ _ (by simp) ⟨⟨_, Heap.get?_push_size s.heap (by rfl), rfl, rfl⟩, hl.push _⟩ fun vs h' tk hv hp st fr => ?_))
  obtain ⟨v, rfl⟩ : ∃ v, vs = [v] := by
    match vs, hv with
    | [v], _ => exact ⟨v, rfl⟩
  have ev : v = u0 := by
    have := hp 0 v rfl
    simpa using this.symm
  subst ev
  refine wpAny_ite_false (by simp) ?_
  have W2 : WalksS X.prog X.w X.A.in1 s.heap.objs.size [s.heap.objs.size, a] [s.heap.objs.size] (fun a b => b = a) us.length (fun i u => us[i]? = some u) (fun i s' => s'.heap.IsListIter s.heap.objs.size a (i + 1) ∧ s'.heap.IsList a (v :: us).toArray) :=
    ⟨W'.toS.sub, W'.toS.grefl, W'.toS.gtrans, fun i s' h' tk st _ k => W'.frame (i + 1) _ _ st k,
      fun i s' Q E hi st q => W'.toS.item (i + 1) s' Q E (by simp; omega) st fun u s2 pu => q u s2 (by simpa using pu),
      fun s' Q E st q => W'.toS.done s' Q E (by simpa using st) q, fun i s' Q E st q => W'.toS.self (i + 1) s' Q E st q⟩
  have fr0 : ∀ b o, s.heap.get? b = some o → h'.get? b = some o := fun b o hb => by
    have lb := Heap.lt_size hb
    exact fr b o (fun m => Nat.ne_of_lt lb (List.mem_singleton.mp m)) (Heap.get?_push_of_some _ hb)
  have szI : s.heap.objs.size < h'.objs.size := by
    obtain ⟨⟨o, ho, _⟩, _⟩ := st
    exact Heap.lt_size ho
  have sza : a < h'.objs.size := by
    obtain ⟨_, o, ho, _⟩ := st
    exact Heap.lt_size ho
  have hz' : us.length ≤ sizeLine := by
    have := rs.length
    have := r1.length
    simp at hz
    omega
  refine wpAny_bind (wpAny_holding (wpAny_collect_iter (T := "list_iterator") (.inr (.inr (.inl rfl))) W2 (fun i s' st => ?_) st (fun b hb => ?_) (.head _) (fun s2 acc mv it => ?_) hz'))
  · obtain ⟨⟨o, ho, c, _⟩, _⟩ := st
    exact ⟨o, ho, c⟩
  · rcases List.mem_cons.mp hb with e | e
    · rw [e]; exact szI
    · rw [List.mem_singleton.mp e]; exact sza
  have ea : acc.toList = us := by
    obtain ⟨e1, e2⟩ := it
    refine List.ext_getElem (by simpa using e1) fun j h1 h2 => ?_
    have : us[j]? = some acc[j] := e2 j acc[j] (Array.getElem?_eq_getElem (by simpa using h1))
    rw [List.getElem?_eq_getElem h2] at this
    simpa using (Option.some.inj this).symm
  rw [ea]
  refine wpAny_ite_false (by simp) ?_
  have f1 : ∀ b o, s.heap.get? b = some o → s2.heap.get? b = some o := fun b o hb => by
    have lb := Heap.lt_size hb
    exact mv.heap b o (fun m => Nat.ne_of_lt lb (List.mem_singleton.mp m)) (fr0 b o hb)
  have et : List.take (us.length - (2 - 1 - 1)) us = us := by simp
  have edp : List.drop (us.length - (2 - 1 - 1)) us = [] := by simp
  show wpAny _ _ ((newList (List.take (us.length - (2 - 1 - 1)) us)) >>= fun l => pure ([v] ++ [l] ++ List.drop (us.length - (2 - 1 - 1)) us)) _ _ _
  rw [et, edp]
  refine wpAny_bind (wpAny_newList (wpAny_pure ?_) hz')
  have I2 : L2.Inv X pins σ H s2 := by
    have e : s2 = { heap := s2.heap, gens := s.gens, drawn := s.drawn, toks := s2.toks, os := s.os } := by
      have g1 : s2.gens = s.gens := mv.gens
      have g2 : s2.drawn = s.drawn := mv.drawn
      have g3 : s2.os = s.os := mv.os
      rw [← g1, ← g2, ← g3]
    rw [e]
    exact I.kept f1
  have nD : H s2.heap.objs.size = none := I2.hok.fresh (Nat.le_refl _)
  have new : ObjOk X.prog X.w (upd H s2.heap.objs.size (.lst xs)) (s2.heap.push { cls := Value.type "list", data := Data.seq us.toArray }) s2.heap.objs.size (.lst xs) :=
    ⟨by simp at hz; omega, us, 0, r1, Heap.get?_push_size s2.heap (by rfl)⟩
  have I3 : L2.Inv X pins σ (upd H s2.heap.objs.size (.lst xs)) { s2 with heap := s2.heap.push { cls := Value.type "list", data := Data.seq us.toArray } } :=
    I2.turnedNew (ch := []) (t' := s2.toks) (fun b o _ hb => Heap.get?_push_of_some _ hb) (fun b hb => by cases hb) (Nat.le_refl _) new
  have neD : s2.heap.objs.size ≠ a := fun e => by
    obtain ⟨o, n, ho, _⟩ := p
    exact absurd (Heap.lt_size (f1 _ _ ho)) (by rw [e]; exact Nat.lt_irrefl _)
  have := h.run pins _ σ _ [x, .ref s2.heap.objs.size] [v, .ref s2.heap.objs.size] Q I3 (.cons r0 (.cons rfl .nil)) (q _ nD neD)
  rw [eq1]
  exact this
end Rm

set_option maxRecDepth 100000
set_option maxHeartbeats 4000000
namespace Rm
open PySem PySem.Spec L2
open PyProof.Rows hiding St

/-! ### zip of a list or tuple with a list or tuple -/
def SqX (K : PySem.W.Frag) (t : Bool) (H : Hp) (a : Addr) (xs : List V) : Prop := match t with
  | true => SqT K H a xs
  | false => SqL K H a xs
def IsX (t : Bool) (h : Heap) (a : Addr) (its : Array Value) : Prop := match t with
  | true => h.IsTuple a its
  | false => h.IsList a its
def IxX (t : Bool) (h : Heap) (it a : Addr) (i : Nat) : Prop := match t with
  | true => h.IsTupleIter it a i
  | false => h.IsListIter it a i
def oX (t : Bool) (a : Addr) : Obj := match t with
  | true => { cls := Value.type "tuple_iterator", data := Data.fields #[Value.ref a, Value.int 0 0] }
  | false => { cls := Value.type "list_iterator", data := Data.fields #[Value.ref a, Value.int 0 0] }
theorem draws_x {P : Program} {w : World} {A : Around} (hd : A.handled = none) (t : Bool) (it a : Addr) (ne : a ≠ it) (its : Array Value) :
    Draws P w A it [it, a] its.size (fun i v => its[i]? = some v) fun i h => IxX t h it a i ∧ IsX t h a its := by
  cases t with
  | true => exact Draws.tuple hd it a ne its
  | false => exact Draws.list hd it a ne its
theorem begins_x (t : Bool) (a : Addr) (its : Array Value) : Begins (.ref a) (oX t a) fun h => IsX t h a its := by
  cases t with
  | true => exact begins_tuple a its
  | false => exact begins_list a its
theorem ix_o {t : Bool} {h : Heap} {it a : Addr} (e : h.get? it = some (oX t a)) : IxX t h it a 0 := by
  cases t with
  | true => exact ⟨_, e, rfl, rfl⟩
  | false => exact ⟨_, e, rfl, rfl⟩
theorem IxX.obj {t : Bool} {h : Heap} {it a : Addr} {i : Nat} (e : IxX t h it a i) : ∃ o, h.get? it = some o ∧ ∀ v : Option Value, o.data ≠ Data.cell v := by
  cases t with
  | true =>
    obtain ⟨o, ho, _, hd⟩ := e
    exact ⟨o, ho, fun v q => by rw [hd] at q; cases q⟩
  | false =>
    obtain ⟨o, ho, _, hd⟩ := e
    exact ⟨o, ho, fun v q => by rw [hd] at q; cases q⟩
theorem IxX.at {t : Bool} {h h' : Heap} {it a : Addr} {i : Nat} (e : IxX t h it a i) (k : ∀ o, h.get? it = some o → h'.get? it = some o) : IxX t h' it a i := by
  cases t with
  | true =>
    obtain ⟨o, ho, r⟩ := e
    exact ⟨o, k o ho, r⟩
  | false =>
    obtain ⟨o, ho, r⟩ := e
    exact ⟨o, k o ho, r⟩
theorem inv_x {X : Cx} {pins : List (Addr × Obj)} {σ : L2.St} {H : Hp} {s : Shared} {t : Bool} {a : Addr} {xs : List V} (I : L2.Inv X pins σ H s) (h : SqX X.K t H a xs) :
    ∃ its, Vals xs its ∧ IsX t s.heap a its.toArray ∧ xs.length ≤ sizeLine := by
  cases t with
  | true => exact I.tuple h
  | false =>
    obtain ⟨its, r, p, l⟩ := I.list h
    exact ⟨its, r, p.isList, l⟩
theorem inj_x {X : Cx} {pins : List (Addr × Obj)} {σ : L2.St} {H : Hp} {s : Shared} {t : Bool} {a : Addr} {xs ys : List V} (I : L2.Inv X pins σ H s) (h : SqX X.K t H a xs) (h' : SqX X.K t H a ys) : xs = ys := by
  cases t with
  | true => exact I.tuple_inj h h'
  | false => exact I.list_inj h h'
theorem IsX.lt {t : Bool} {h : Heap} {a : Addr} {its : Array Value} (e : IsX t h a its) : a < h.objs.size := by
  cases t with
  | true =>
    obtain ⟨o, ho, _⟩ := e
    exact Heap.lt_size ho
  | false =>
    obtain ⟨o, ho, _⟩ := e
    exact Heap.lt_size ho
def ItzX (K : PySem.W.Frag) (t u : Bool) (a b : Addr) : It where
  go := fun i H => ∃ (xs ys : List V) (x y : V), SqX K t H a xs ∧ SqX K u H b ys ∧ xs[i]? = some x ∧ ys[i]? = some y
  yld := fun i H v H' => ∃ T x y, v = .ref T ∧ H T = none ∧ H' = upd H T (.tup [x, y]) ∧ (∀ xs, SqX K t H a xs → xs[i]? = some x) ∧ ∀ ys, SqX K u H b ys → ys[i]? = some y
  stop := fun i H => ∃ xs ys : List V, SqX K t H a xs ∧ SqX K u H b ys ∧ i ≤ xs.length ∧ i ≤ ys.length ∧ (xs.length = i ∨ ys.length = i)
theorem walk_zipX {K : PySem.W.Frag} {t u : Bool} {a b : Addr} {xs ys : List V} {n : Nat} (hn : n = min xs.length ys.length) :
    Walk (ItzX K t u a b) n (fun H => SqX K t H a xs ∧ SqX K u H b ys) (YPair (fun i => xs[i]?) fun i => ys[i]?) := by
  refine ⟨fun i _ hi q => ⟨xs, ys, _, _, q.1, q.2, List.getElem?_eq_getElem (by omega), List.getElem?_eq_getElem (by omega)⟩, fun _ q => ⟨xs, ys, q.1, q.2, by omega, by omega, by omega⟩, fun i H v H' _ q y => ?_⟩
  obtain ⟨T, x, y, h1, h2, h3, h4, h5⟩ := y
  exact ⟨T, x, y, h1, h2, h3, h4 xs q.1, h5 ys q.2⟩
theorem turn_zipX {P : Program} {w : World} {K : PySem.W.Frag} {elts : List PySem.Expr} {kk : Nat} {tpos : Pos} {t u : Bool} {a b z TI TO i1 i2 : Addr} (Z : ZipSep2 z TI TO i1 i2 [i1, a] [i2, b]) (na : a ≠ i1) (nb : b ≠ i2) :
    Turn P w K (.Tuple elts kk tpos) (ItzX K t u a b) [z, TI, TO, i1, i2] z (fun i h => IsZip h z TI TO .none ∧ IsTupOf2 h TI (.ref i1) (.ref i2) ∧ (∃ x y, IsTupOf2 h TO x y) ∧ IxX t h i1 a i ∧ IxX u h i2 b i) where
  mem := .head _
  obj := fun i h st c hc => by
    obtain ⟨s1, s2, ⟨x, y, s3⟩, s4, s5⟩ := st
    simp only [List.mem_cons, List.not_mem_nil, or_false] at hc
    rcases hc with e | e | e | e | e
    · rw [e]; exact ⟨_, s1, fun v q => nomatch q⟩
    · rw [e]; exact ⟨_, s2, fun v q => nomatch q⟩
    · rw [e]; exact ⟨_, s3, fun v q => nomatch q⟩
    · rw [e]; exact s4.obj
    · rw [e]; exact s5.obj
  keep := fun i h h' st k => by
    obtain ⟨s1, s2, ⟨x, y, s3⟩, s4, s5⟩ := st
    exact ⟨k z (by simp) _ s1, k TI (by simp) _ s2, ⟨x, y, k TO (by simp) _ s3⟩, s4.at fun o e => k i1 (by simp) o e, s5.at fun o e => k i2 (by simp) o e⟩
  item := by
    intro X hP hw hK hc i pins s σ H E I hf st hg
    subst hP hw hK
    obtain ⟨s1, s2, ⟨x0, y0, s3⟩, s4, s5⟩ := st
    obtain ⟨xs, ys, x, y, qx, qy, hx, hy⟩ := hg
    obtain ⟨ix, rx, px, lx⟩ := inv_x I qx
    obtain ⟨iy, ry, py, ly⟩ := inv_x I qy
    obtain ⟨ux, hux, rux⟩ := rx.get hx
    obtain ⟨uy, huy, ruy⟩ := ry.get hy
    have nx : i < ix.toArray.size := by
      have := List.getElem?_eq_some_iff.mp hux
      simpa using this.1
    have ny : i < iy.toArray.size := by
      have := List.getElem?_eq_some_iff.mp huy
      simpa using this.1
    have hd : X.A.in1.handled = none := show X.A.handled = none from I.ok.hd hc
    refine wpAny_pyNext_zipD2_item Z (draws_x hd t i1 a na _) (draws_x hd u i2 b nb _) s1 s2 s3 ⟨s4, px⟩ ⟨s5, py⟩ nx ny fun x1 x2 h' tk p1 p2 hz hTO t1 t2 hT hsz hk => ?_
    have e1 : x1 = ux := by
      have : ix.toArray[i]? = some x1 := p1
      rw [List.getElem?_toArray, hux] at this
      exact (Option.some.inj this).symm
    have e2 : x2 = uy := by
      have : iy.toArray[i]? = some x2 := p2
      rw [List.getElem?_toArray, huy] at this
      exact (Option.some.inj this).symm
    subst e1 e2
    have lz : z < s.heap.objs.size := Heap.lt_size s1
    have lTI : TI < s.heap.objs.size := Heap.lt_size s2
    have lTO : TO < s.heap.objs.size := Heap.lt_size s3
    have l1 : i1 < s.heap.objs.size := let ⟨_, q, _⟩ := s4.obj; Heap.lt_size q
    have l2 : i2 < s.heap.objs.size := let ⟨_, q, _⟩ := s5.obj; Heap.lt_size q
    refine ⟨_, rfl, wpAny_letOwnedTupleGo_zip (s := { s with heap := h', toks := tk }) hz fun h'' hz' sb => ?_⟩
    have hT2 : IsTupOf2 h'' s.heap.objs.size x1 x2 := (sb.2 _ (Nat.ne_of_gt lz)).trans hT
    have new : ObjOk X.prog X.w (upd H s.heap.objs.size (.tup [x, y])) h'' s.heap.objs.size (.tup [x, y]) :=
      ⟨show 2 ≤ sizeLine by decide, [x1, x2], .cons rux (.cons ruy .nil), ⟨_, hT2, rfl, _, rfl⟩⟩
    have I1 : L2.Inv X pins σ (upd H s.heap.objs.size (.tup [x, y])) { s with heap := h'', toks := tk } :=
      I.turnedNew (ch := [z, TI, TO, i1, i2]) (fun c ob hb q => by
        simp only [List.mem_cons, List.not_mem_nil, or_false, not_or] at hb
        exact (sb.2 c hb.1).trans (hk c ob hb.1 hb.2.2.1 hb.2.2.2.1 hb.2.2.2.2 q)) hf (Nat.le_refl _) new
    refine ⟨.ref s.heap.objs.size, _, I1, rfl, ⟨_, x, y, rfl, I.hok.fresh (Nat.le_refl _), rfl, fun zs hz => by rw [inj_x I hz qx]; exact hx, fun zs hz => by rw [inj_x I hz qy]; exact hy⟩, ⟨hz', ?_, ⟨x1, x2, (sb.2 TO Z.TOz).trans hTO⟩, t1.1.at fun o e => ?_, t2.1.at fun o e => ?_⟩, fun c hc => ?_⟩
    · refine (sb.2 TI Z.TIz).trans (hk TI _ Z.TIz Z.TITO Z.TIi1 Z.TIi2 s2)
    · exact (sb.2 i1 (fun e => Z.zf1 (e ▸ .head _))).trans e
    · exact (sb.2 i2 (fun e => Z.zf2 (e ▸ .head _))).trans e
    · have hb' : c < s.heap.objs.size := by
        simp only [List.mem_cons, List.not_mem_nil, or_false] at hc
        rcases hc with e | e | e | e | e
        · rw [e]; exact lz
        · rw [e]; exact lTI
        · rw [e]; exact lTO
        · rw [e]; exact l1
        · rw [e]; exact l2
      rw [upd_ne (Nat.ne_of_lt hb')]
      exact (hf c hc).1
  done := by
    intro X hP hw hK hc i pins s σ H E I hf st hg
    subst hP hw hK
    obtain ⟨s1, s2, ⟨x0, y0, s3⟩, s4, s5⟩ := st
    obtain ⟨xs, ys, qx, qy, h1, h2, h3⟩ := hg
    obtain ⟨ix, rx, px, lx⟩ := inv_x I qx
    obtain ⟨iy, ry, py, ly⟩ := inv_x I qy
    have hd : X.A.in1.handled = none := show X.A.handled = none from I.ok.hd hc
    have ex := rx.length
    have ey := ry.length
    refine wpAny_pyNext_zipD2_end Z (draws_x hd t i1 a na _) (draws_x hd u i2 b nb _) s1 s2 s3 ⟨s4, px⟩ ⟨s5, py⟩ (by simp; omega) (by simp; omega) (by simp; omega) fun h' tk hk => ⟨rfl, ?_⟩
    exact I.turnedL (ch := [z, TI, TO, i1, i2]) (fun c ob hb q => by
        simp only [List.mem_cons, List.not_mem_nil, or_false, not_or] at hb
        exact hk c ob hb.1 hb.2.2.1 hb.2.2.2.1 hb.2.2.2.2 q) hf
  self := fun A i s Q E st h => wpAny_pyIter_zip st.1 h
def iZipX (K : PySem.W.Frag) (ta : TA) : TI := fun σ H R => ta σ H fun vs H1 => ∃ t u a b xs ys, vs = [.ref a, .ref b] ∧ SqX K t H1 a xs ∧ SqX K u H1 b ys ∧ R (ItzX K t u a b) H1
theorem nm2 {n a b : Addr} (h1 : n ≠ a) (h2 : n ≠ b) : ¬ n ∈ [a, b] := fun m => by
  rcases List.mem_cons.mp m with e | e
  · exact h1 e
  · exact h2 (List.mem_singleton.mp e)
theorem zsep {n a b : Nat} (ha : a < n) (hb : b < n) : @ZipSep2 (n + 4) (n + 2) (n + 3) n (n + 1) [n, a] [n + 1, b] :=
  ⟨Nat.ne_of_lt (by omega), Nat.ne_of_lt (by omega), Nat.ne_of_lt (by omega), Nat.ne_of_gt (by omega), .head _, nm2 (Nat.ne_of_gt (by omega)) (Nat.ne_of_gt (by omega)), nm2 (Nat.ne_of_gt (by omega)) (Nat.ne_of_gt (by omega)),
   Nat.ne_of_gt (by omega), .head _, nm2 (Nat.ne_of_gt (by omega)) (Nat.ne_of_gt (by omega)), nm2 (Nat.ne_of_gt (by omega)) (Nat.ne_of_gt (by omega)), nm2 (Nat.ne_of_lt (by omega)) (Nat.ne_of_gt (by omega)), nm2 (Nat.ne_of_gt (by omega)) (Nat.ne_of_gt (by omega))⟩
theorem fiveLe {n c : Nat} (h : c ∈ [n + 4, n + 2, n + 3, n, n + 1]) : n ≤ c := by
  simp only [List.mem_cons, List.not_mem_nil, or_false] at h
  omega
theorem pi_zipX {X : Cx} {e e2 : PySem.Expr} {ta : TA} {p pos tpos : Pos} {elts : List PySem.Expr} {kk : Nat} (hg : Gl X "zip") (hm : X.mg "zip" = none) (ha : PA X [e, e2] ta)
    (hs : starEach [e, e2] X.env = (false, eval e X.env) :: starEach [e2] X.env := by rfl) (hn : (backTo pos (starEach [e2] X.env)).any (·.1) = false := by rfl) :
    PI X (.Tuple elts kk tpos) (.Call (.Name "zip" p) [e, e2] [] pos) (iZipX X.K ta) := by
  refine ⟨fun pins s σ H R I h => ?_⟩
  refine Call_ (ld_blt I hg hm boot_zip (PyProof.Rows.callWith_type1 (thn (ha.run pos pins s σ H _ I h) fun us s1 ⟨vs, H1, I1, r1, q1⟩ => ?_) hs hn))
  obtain ⟨t, u, a, b, xs, ys, ex, qx, qy, q⟩ := q1
  subst ex
  obtain ⟨u1, u2, rfl, ra, rb⟩ := vals2 r1
  cases ra
  cases rb
  obtain ⟨ix, rx, px, lx⟩ := inv_x I1 qx
  obtain ⟨iy, ry, py, ly⟩ := inv_x I1 qy
  refine zip_begins2 (begins_x t a ix.toArray) (begins_x u b iy.toArray) px py fun h' hz h2 h3 g1 g2 hsz hk => wpAny_pyIter_zip hz ?_
  have I2 : L2.Inv X pins σ H1 { s1 with heap := h' } := I1.kept (t' := s1.toks) hk
  have la := px.lt
  have lb := py.lt
  refine ⟨s1.heap.objs.size + 4, [s1.heap.objs.size + 4, s1.heap.objs.size + 2, s1.heap.objs.size + 3, s1.heap.objs.size, s1.heap.objs.size + 1], _, _, H1, rfl, I2, turn_zipX (zsep la lb) (Nat.ne_of_lt la) (Nat.ne_of_lt (Nat.lt_succ_of_lt lb)), ⟨hz, h2, ⟨_, _, h3⟩, ix_o g1, ix_o g2⟩, fun c hc => ?_, q⟩
  have hle : s1.heap.objs.size ≤ c := fiveLe hc
  exact I1.fpOk hle (I1.hok.fresh hle)

/-! ### all(a list of bools) -/
def rAll (K : PySem.W.Frag) : List V → Hp → VK → Prop := fun xs H Q => ∃ (a : Addr) (bs : List Bool), xs = [.ref a] ∧ SqL K H a (bs.map V.bl) ∧ Q (.bl (bs.all id)) H
theorem call_allL {X : Cx} (hc : X.calm = true) : CallR X (.builtin "all") (rAll X.K) := by
  intro pins s σ H xs us Q I r h
  obtain ⟨a, bs, rfl, hq, q⟩ := h
  obtain ⟨u, rfl, ra⟩ : ∃ u, us = [u] ∧ RelV (.ref a) u := by
    cases r with
    | cons h t =>
      cases t
      exact ⟨_, rfl, h⟩
  cases ra
  obtain ⟨its, rv, p, hz⟩ := I.list hq
  have hd : X.A.handled = none := I.ok.hd hc
  have ne : a ≠ s.heap.objs.size := fun e => by
    obtain ⟨o, ho, _⟩ := p.isList
    exact absurd (Heap.lt_size (e ▸ ho)) (Nat.lt_irrefl _)
  have hl := rv.length
  refine call_all_walk (wpAny_pyIter_list p.isList ?_)
  refine ⟨s.heap.objs.size, _, _, _, _, _, fun i => bs.getD i true, rfl, Walks.list (A := X.A.in1) (show X.A.handled = none from hd) _ _ ne its.toArray, ⟨⟨_, Heap.get?_push_size s.heap (by rfl), rfl, rfl⟩, p.isList.push _⟩, ?_, fun h' tk fr => ?_⟩
  · intro i v s' Q' E' pv hq'
    have pv' : its[i]? = some v := by simpa using pv
    have li : i < bs.length := by
      have := (List.getElem?_eq_some_iff.mp pv').1
      simp at hl
      omega
    have eb : (bs.map V.bl)[i]? = some (.bl bs[i]) := by simp [li]
    obtain ⟨u, hu, ru⟩ := rv.get eb
    rw [pv'] at hu
    cases Option.some.inj hu
    cases ru
    have : bs.getD i true = bs[i] := by simp [li]
    have hq2 : Q' (bs.getD i true) s' := hq'
    rw [this] at hq2
    exact wpAny_pure hq2
  · have e : (List.range its.toArray.size).all (fun i => bs.getD i true) = bs.all id := by
      have hs : its.toArray.size = bs.length := by simp at hl ⊢; omega
      rw [hs]
      rw [Bool.eq_iff_iff]
      simp only [List.all_eq_true, List.mem_range]
      constructor
      · intro h x hx
        obtain ⟨j, hj, e⟩ := List.getElem_of_mem hx
        have := h j hj
        simp [hj, e] at this
        exact this
      · intro h j hj
        simp [hj]
        exact h _ (List.getElem_mem hj)
    rw [e]
    refine ⟨V.bl (bs.all id), H, I.kept (t' := tk) fun b o hb => ?_, rfl, q⟩
    have lb := Heap.lt_size hb
    exact fr b o (fun m => Nat.ne_of_lt lb (List.mem_singleton.mp m)) (Heap.get?_push_of_some _ hb)
end Rm

set_option maxRecDepth 100000
set_option maxHeartbeats 4000000
namespace Rm
open PySem PySem.Spec L2
open PyProof.Rows hiding St

/-! ### a class of keywords alone -/
structure KwS (fd : FuncData) (ps ks : List Str) : Prop where
  to : ∀ (s : Shared) (u : Value) (ws : List Value), ws.length = ks.length → BindsTo s fd ⟨[u], ks.zip ws⟩ (ps.zip (u :: ws))
def CnKs (P : Program) (w : World) (K : PySem.W.Frag) (mg : Str → Option Value) (base : Heap) (CX : CXT)
    (k : Nat) (x : Str) (C : Addr) (ps ks : List Str) (sp : Sp) : Prop :=
  ∃ f fd, mg x = some (.ref C) ∧ Mk K C f ∧ KwS fd ps ks ∧ FnG P w K mg base CX k f fd ps sp
def tMakeKs (C : Addr) (m : Nat) (sp : Sp) (E : XK) (t : TA) : TE := fun σ H Q => t σ H fun zs H2 => zs.length = m ∧
  ∀ z dx, H2 z = none → H2 dx = none → dx ≠ z → sp (.ref z :: zs) (upd (upd H2 dx (.own z)) z (.ins C dx [])) (fun v H3 => v = .non ∧ Q (.ref z) H3) E
theorem pe_cnKs {X : Cx} {CX : CXT} {k : Nat} {C : Addr} {ps ks : List Str} {sp : Sp} {E : XK} {x : Str} {p pos : Pos} {kws : List Keyword} {tk : TA}
    (D : CnKs X.prog X.w X.K X.mg X.base CX k x C ps ks sp) (hr : Room (k + 1) X.A) (hG : Gd X.A) (ha : PK X kws tk) (hx : Passes CX X E)
    (hk : List.filterMap (fun x => x.fst) (backToKw pos (keywordEach kws X.env)) = ks := by rfl) (ho : ((backToKw pos (keywordEach kws X.env)).all fun x => x.fst.isSome) = true := by rfl)
    (hn : (((backTo pos (starEach [] X.env)).any fun x => x.fst) || (backToKw pos (keywordEach kws X.env)).any fun x => x.fst.isNone) = false := by rfl)
    (hg : Gl X x := by rfl) (hdb : (x == ("__debug__" : Str)) = false := by decide) :
    PE X (.Call (.Name x p) [] kws pos) (tMakeKs C ks.length sp E tk) := by
  obtain ⟨f, fd, hm, M, hb, F⟩ := D
  constructor
  intro pins s σ H Q I h
  refine wpAny_Call_Name_kw (ld_glob I hg hm ?_ hdb)
  refine PySem.W.callWith_KW0 (first := []) (h₀ := X.base) I.ok.mod.kin M.kp ho (thn (ha.run pos pins s σ H _ I h) fun us s2 hh => ?_) hn
  obtain ⟨vs, H2, I2, r1, hl, q2⟩ := hh
  refine ⟨I2.kIn, ?_⟩
  rw [hk]
  have hq := q2 (s2.heap.objs.size + 1) s2.heap.objs.size (I2.hok.fresh (Nat.le_succ _)) (I2.hok.fresh (Nat.le_refl _)) (Nat.ne_of_lt (Nat.lt_succ_self _))
  have I3 := Inv.made (C := C) I2
  refine wpAny_call (make_map (f := f) I2.kIn M.makes M.init (beq_iff_eq.mp M.fn)
    (codeAny_mono (F.run _ X.stack _ _ ⟨[Value.ref (s2.heap.objs.size + 1)], ks.zip us⟩ (Value.ref (s2.heap.objs.size + 1) :: us) _ _ E
      (hr.make C [] (ks.zip us)) (hG.make C [] (ks.zip us)) (I3.env0.make C [] (ks.zip us))
      (hb.to _ (Value.ref (s2.heap.objs.size + 1)) us (r1.length.symm.trans hl)) (show Vals (V.ref (s2.heap.objs.size + 1) :: vs) _ from .cons rfl r1) hq) fun r s' hq' => ?_))
  match r, hq' with
  | .error er, hq' => exact hx pins σ _ _ er s' I3 hq'
  | .ok (.ret z), hq' =>
    obtain ⟨v, H', I4, rz, ev, q3⟩ := I3.after hq'
    subst ev
    exact ⟨rz, V.ref (s2.heap.objs.size + 1), H', I4, rfl, q3⟩
  | .ok .next, hq' => exact False.elim hq'
  | .ok .brk, hq' => exact False.elim hq'
  | .ok .cont, hq' => exact False.elim hq'
end Rm

set_option maxRecDepth 100000
set_option maxHeartbeats 4000000
namespace Rm
open PySem PySem.Spec L2
open PyProof.Rows hiding St

/-! ### x in own, own[x], len(own) by own methods -/
def OwnM (P : Program) (w : World) (K : PySem.W.Frag) (mg : Str → Option Value) (base : Heap) (CX : CXT) (k : Nat) (C : Addr) (m : Str) (ps : List Str) (sp : Sp) : Prop :=
  ∃ f fd, PySem.W.findIn K (.ref C) m = some (some (.ref f)) ∧ PySem.W.isFn K (.ref f) = true ∧ PySem.W.fnIn K f = true ∧ Binds K fd ps [] ∧ FnG P w K mg base CX k f fd ps sp
def rOwnIn (neg : Bool) (C : Addr) (sp : Sp) : R2 := fun x y H Q => ∃ a dx fs, y = .ref a ∧ H a = some (.ins C dx fs) ∧ sp [y, x] H (fun z H' => ∃ c, z = .bl c ∧ Q (.bl (neg ^^ c)) H') E0
section
variable {X : Cx} {k : Nat} {C : Addr} {ps : List Str} {sp : Sp}
theorem called {CX : CXT} {f : Addr} {fd : FuncData} {E : St → XK} {pins : List (Addr × Obj)} {σ : L2.St} {H : Hp} {s : Shared} {Q : VK} {us : List Value} {vs : List V}
    (F : FnG X.prog X.w X.K X.mg X.base CX k f fd ps sp) (hb : Binds X.K fd ps []) (hr : Room (k + 1) X.A) (hG : Gd X.A) (hx : ∀ σ, PassesAt CX X σ (E σ)) (I : Inv X pins σ H s) (r : Vals vs us)
    (q : sp vs H Q (E σ)) : wpAny (model X.prog X.w) X.A.in1 (call (.ref f) us) (EP X pins σ Q) X.xe s := by
  have hl : us.length = ps.length := by rw [← r.length]; exact F.len _ _ _ _ q
  refine wpAny_call (codeAny_mono (F.run X.A.in1 X.stack s H ⟨us, []⟩ us vs Q (E σ) hr.in1 hG.in1 I.env0.in1 (by have := hb s us I.kIn (by simpa using hl); simpa using this) r q) fun rr s' hq => ?_)
  match rr, hq with
  | .error er, hq => exact hx σ pins H s er s' I hq
  | .ok (.ret z), hq => exact I.after hq
  | .ok .next, hq => exact False.elim hq
  | .ok .brk, hq => exact False.elim hq
  | .ok .cont, hq => exact False.elim hq
theorem called0 {CX : CXT} {f : Addr} {fd : FuncData} {E : St → XK} {pins : List (Addr × Obj)} {σ : L2.St} {H : Hp} {s : Shared} {Q : VK} {us : List Value} {vs : List V}
    (F : FnG X.prog X.w X.K X.mg X.base CX k f fd ps sp) (hb : Binds X.K fd ps []) (hr : Room k X.A) (hG : Gd X.A) (hx : ∀ σ, PassesAt CX X σ (E σ)) (I : Inv X pins σ H s) (r : Vals vs us)
    (q : sp vs H Q (E σ)) : wpAny (model X.prog X.w) X.A (call (.ref f) us) (EP X pins σ Q) X.xe s :=
  goesS (dvs := []) (ds := []) F hr hG hb .nil hx I r (by rw [List.append_nil]; exact q)
theorem op_ownIn (D : OwnM X.prog X.w X.K X.mg X.base CX0 k C "__contains__" ps sp) (hr : Room k X.A) (hG : Gd X.A) : OpR X (compareOp .In) (rOwnIn false C sp) := by
  intro pins s σ H x y v u Q I rx ry h
  obtain ⟨a, dx, fs, rfl, ha, q⟩ := h
  cases ry
  obtain ⟨f, fd, hs, hf, _, hb, F⟩ := D
  obtain ⟨mA, O, _⟩ := ins_get I.hok ha
  obtain ⟨od, J, _⟩ := O.look
  obtain ⟨m, hF⟩ := I.fr
  refine PySem.W.in_K hF I.ok.mod.kin J hs hf (thn (called0 (vs := [.ref a, x]) (E := fun _ => E0) F hb hr hG (fun _ _ _ _ _ _ _ h => h.elim) I (.cons rfl (.cons rx .nil)) q) fun r s' hq => ?_)
  obtain ⟨z, H', I', rz, c, rfl, qq⟩ := hq
  cases rz
  exact wpAny_pure ⟨.bl c, H', I', rfl, by simpa using qq⟩
theorem op_ownNotIn (D : OwnM X.prog X.w X.K X.mg X.base CX0 k C "__contains__" ps sp) (hr : Room k X.A) (hG : Gd X.A) : OpR X (compareOp .NotIn) (rOwnIn true C sp) := by
  intro pins s σ H x y v u Q I rx ry h
  obtain ⟨a, dx, fs, rfl, ha, q⟩ := h
  cases ry
  obtain ⟨f, fd, hs, hf, _, hb, F⟩ := D
  obtain ⟨mA, O, _⟩ := ins_get I.hok ha
  obtain ⟨od, J, _⟩ := O.look
  obtain ⟨m, hF⟩ := I.fr
  refine PySem.W.notIn_K hF I.ok.mod.kin J hs hf (thn (called0 (vs := [.ref a, x]) (E := fun _ => E0) F hb hr hG (fun _ _ _ _ _ _ _ h => h.elim) I (.cons rfl (.cons rx .nil)) q) fun r s' hq => ?_)
  obtain ⟨z, H', I', rz, c, rfl, qq⟩ := hq
  cases rz
  exact wpAny_pure ⟨.bl (!c), H', I', rfl, by simpa using qq⟩
def tIxOwn (C : Addr) (sp : Sp) (E : St → XK) (ta tb : TE) : TE := fun σ H Q => ta σ H fun x H1 => tb σ H1 fun y H2 => ∃ a dx fs, x = .ref a ∧ H2 a = some (.ins C dx fs) ∧ sp [x, y] H2 Q (E σ)
theorem pe_ixOwn {CX : CXT} {E : St → XK} {a b : PySem.Expr} {ta tb : TE} {pos : Pos} (D : OwnM X.prog X.w X.K X.mg X.base CX k C "__getitem__" ps sp) (hr : Room (k + 1) X.A) (hG : Gd X.A)
    (hx : ∀ σ, PassesAt CX X σ (E σ)) (ha : PE X a ta) (hb : PE X b tb)
    (hs : ∀ (x : Addr) (i : Value), subscripted b true (Value.ref x) i = runValue (Code.builtin "lifetime.subscript" { pos := [Value.ref x, i] }) := by intro _ _; rfl) :
    PE X (.Subscript a b pos) (tIxOwn C sp E ta tb) := by
  obtain ⟨f, fd, h1, hf, h2, hbi, F⟩ := D
  refine ⟨fun pins s σ H Q I h => ?_⟩
  refine PyProof.Rows.Subscript_ (thn (ha.run pins s σ H _ I h) fun u s1 ⟨x, H1, I1, rx, h1'⟩ => thn (hb.run pins s1 σ H1 _ I1 h1') fun v s2 ⟨y, H2, I2, ry, z, dx, fs, ex, hz, q⟩ => ?_)
  subst ex
  cases rx
  obtain ⟨mA, O, _⟩ := ins_get I2.hok hz
  obtain ⟨od, J, _⟩ := O.look
  obtain ⟨m, hF⟩ := I2.fr
  exact PySem.W.sub_K hF I2.ok.mod.kin J h1 h2 hf (called (vs := [.ref z, y]) F hbi hr hG hx I2 (.cons rfl (.cons ry .nil)) q) (hs _ _)
def rLenOwn (C : Addr) (sp : Sp) : List V → Hp → VK → Prop := fun xs H Q => ∃ a dx fs, xs = [.ref a] ∧ H a = some (.ins C dx fs) ∧ sp [.ref a] H (fun z H' => ∃ n : Nat, z = .int (n : Int) ∧ n < 2 ^ 63 ∧ Q (.int (n : Int)) H') E0
theorem call_lenOwn (D : OwnM X.prog X.w X.K X.mg X.base CX0 k C "__len__" ps sp) (hr : Room (k + 1) X.A) (hG : Gd X.A) : CallR X (.builtin "len") (rLenOwn C sp) := by
  intro pins s σ H xs us Q I r h
  obtain ⟨a, dx, fs, rfl, ha, q⟩ := h
  obtain ⟨u, rfl, ra⟩ : ∃ u, us = [u] ∧ RelV (.ref a) u := by
    cases r with
    | cons h t =>
      cases t
      exact ⟨_, rfl, h⟩
  cases ra
  obtain ⟨f, fd, h1, hf, h2, hbi, F⟩ := D
  obtain ⟨mA, O, _⟩ := ins_get I.hok ha
  obtain ⟨od, J, _⟩ := O.look
  obtain ⟨m, hF⟩ := I.fr
  refine PySem.W.len_K hF I.ok.mod.kin J h1 hf (thn (called (vs := [.ref a]) (E := fun _ => E0) F hbi hr hG (fun _ _ _ _ _ _ _ h => h.elim) I (.cons rfl .nil) q) fun r s' hq => ?_)
  obtain ⟨z, H', I', rz, n, rfl, ln, qq⟩ := hq
  obtain ⟨t, rfl⟩ := rz
  exact ⟨⟨by omega, by omega⟩, .int (n : Int), H', I'.tok _, ⟨_, rfl⟩, qq⟩
end
end Rm

set_option maxRecDepth 100000
set_option maxHeartbeats 4000000
namespace Rm
open PySem PySem.Spec L2
open PyProof.Rows hiding St

/-! ### data of tuples and plain values stay where tuples stay -/
mutual
def tO : PyData → Bool
  | .none => true
  | .bool _ => true
  | .int _ => true
  | .str _ => true
  | .tuple ds => tOA ds
  | _ => false
def tOA : List PyData → Bool
  | [] => true
  | d :: ds => tO d && tOA ds
end
mutual
theorem dx_keepT {K : PySem.W.Frag} {H H' : Hp} (k : TupK H H') : ∀ {d : PyData} {v : V}, tO d = true → Dx K H v d → Dx K H' v d
  | .none, _, _, .non => .non
  | .bool _, _, _, .bl b => .bl b
  | .int _, _, _, .int i => .int i
  | .str _, _, _, .str z => .str z
  | .tuple _, _, h, .tup hs ha => .tup (hs.imp (k _ _) id) (dxa_keepT k (by simpa only [tO] using h) ha)
theorem dxa_keepT {K : PySem.W.Frag} {H H' : Hp} (k : TupK H H') : ∀ {ds : List PyData} {vs : List V}, tOA ds = true → DxAll K H vs ds → DxAll K H' vs ds
  | [], _, _, .nil => .nil
  | d :: ds, _, h, .cons hx ha => by
    simp only [tOA, Bool.and_eq_true] at h
    exact .cons (dx_keepT k h.1 hx) (dxa_keepT k h.2 ha)
end
theorem tOA_of {ds : List PyData} (h : ∀ d ∈ ds, tO d = true) : tOA ds = true := by
  induction ds with
  | nil => rfl
  | cons d ds ih =>
    simp only [tOA, Bool.and_eq_true]
    exact ⟨h d (.head _), ih fun x hx => h x (.tail _ hx)⟩

/-! ### a def that may raise as one that does not -/
theorem FnG.quiet {P : Program} {w : World} {K : PySem.W.Frag} {mg : Str → Option Value} {base : Heap} {k : Nat} {f : Addr} {fd : FuncData} {ps : List Str} {sp : Sp} (F : FnG P w K mg base (L2.CX P w) k f fd ps sp) :
    FnG P w K mg base CX0 k f fd ps (fun vs H Q _ => sp vs H Q E0) :=
  ⟨fun vs H Q E h => F.len vs H Q E0 h, fun A outer s H ar us vs Q E hr hG e0 hb hv h => codeAny_mono (F.run A outer s H ar us vs Q E0 hr hG e0 hb hv h) fun r s' q => by
    match r, q with
    | .error e, q =>
      obtain ⟨_, _, _, _, _, _, _, _, _, _, _, _, z⟩ := q
      exact z.elim
    | .ok (.ret u), q => exact q
    | .ok .next, q => exact q
    | .ok .brk, q => exact q
    | .ok .cont, q => exact q⟩

/-! ### a method of keywords alone -/
def CmKs (P : Program) (w : World) (K : PySem.W.Frag) (mg : Str → Option Value) (base : Heap) (CX : CXT) (k : Nat) (C : Addr) (m : Str) (ps ks : List Str) (sp : Sp) : Prop :=
  ∃ f fd, Cls K C ∧ Meth K C m f ∧ KwS fd ps ks ∧ FnG P w K mg base CX k f fd ps sp
def tMethKs (C : Addr) (m : Str) (n : Nat) (sp : Sp) (E : XK) (ta : TE) (t : TA) : TE := fun σ H Q => ta σ H fun x H1 => ∃ a dx fs, x = .ref a ∧ H1 a = some (.ins C dx fs) ∧ List.lookup m fs = none ∧ t σ H1 fun zs H2 => zs.length = n ∧ sp (x :: zs) H2 Q E
theorem pe_cmKs {X : Cx} {CX : CXT} {k : Nat} {C : Addr} {m : Str} {ps ks : List Str} {sp : Sp} {E : XK} {pos apos : Pos} {o : PySem.Expr} {kws : List Keyword} {ta : TE} {tk : TA} {pl : Sem Bool}
    (D : CmKs X.prog X.w X.K X.mg X.base CX k C m ps ks sp) (hr : Room k X.A) (hG : Gd X.A) (he : PE X o ta) (ha : PK X kws tk) (hx : Passes CX X E)
    (hk : List.filterMap (fun x => x.fst) (backToKw pos (keywordEach kws X.env)) = ks := by rfl) (ho : ((backToKw pos (keywordEach kws X.env)).all fun x => x.fst.isSome) = true := by rfl)
    (hn : (((backTo pos (starEach [] X.env)).any fun x => x.fst) || (backToKw pos (keywordEach kws X.env)).any fun x => x.fst.isNone) = false := by rfl)
    (ht : eval (.Call (.Attribute o m apos) [] kws pos) X.env = (do
      let ov ← eval o X.env
      standAt apos.atName
      let (g, first) ← holding [ov] (getMethod ov m pl)
      callWith pos g first (backTo pos (starEach [] X.env)) (backToKw pos (keywordEach kws X.env))) := by rfl) :
    PE X (.Call (.Attribute o m apos) [] kws pos) (tMethKs C m ks.length sp E ta tk) := by
  obtain ⟨f, fd, c, hm, hb, F⟩ := D
  constructor
  intro pins s σ H Q I h
  refine PySem.W.methodCall_KW (pl := pl)
    (thn (he.run pins s σ H _ I h) fun u s1 ⟨z, H1, I1, rz, a, dx, fs, ez, ea, l, q⟩ => ?_) ht
  subst ez
  cases rz
  refine getmeth_ok I1 ea c hm l (PySem.W.callWith_KW0 (first := [.ref a]) (h₀ := X.base) I1.ok.mod.kin hm.kp ho
    (thn (ha.run pos pins s1 σ H1 _ I1 q) fun us s2 hh => ?_) hn)
  obtain ⟨vs, H2, I2, r1, hl, q2⟩ := hh
  refine ⟨I2.kIn, ?_⟩
  rw [hk]
  refine wpAny_call (codeAny_mono (F.run X.A X.stack s2 H2 ⟨[.ref a], ks.zip us⟩ (.ref a :: us) (.ref a :: vs) Q E hr hG I2.env0
    (hb.to s2 (.ref a) us (r1.length.symm.trans hl)) (.cons rfl r1) q2) fun r s' hq => came hx I2 hq)

/-! ### a dict == {} -/
def rEqDE : R2 := fun x y H Q => ∃ a kvs b, x = .ref a ∧ H a = some (.dK kvs) ∧ y = .ref b ∧ H b = some (.dK []) ∧ Q (.bl kvs.isEmpty) H
theorem op_eqDE {X : Cx} (hu : X.A.units < cLine) : OpR X (compareOp .Eq) rEqDE := by
  intro pins s σ H x y v u Q I rx ry h
  obtain ⟨a, kvs, b, rfl, ha, rfl, hb, q⟩ := h
  cases rx
  cases ry
  obtain ⟨la, na, vs, kv, da⟩ := I.hok _ _ ha
  obtain ⟨lb, nb, us, ku, db⟩ := I.hok _ _ hb
  have l1 := kv.length
  have l2 := ku.length
  have hl2 : us.length = 0 := by simpa using l2.symm
  refine PySem.W.rcP_dicts (r := true) na nb da db hu (fun e => ?_) _ _ ?_
  · have : vs = [] := List.eq_nil_of_length_eq_zero (by omega)
    subst this
    exact .nil
  · refine ⟨.bl kvs.isEmpty, H, I, ?_, q⟩
    have e : (vs.length == us.length && true) = kvs.isEmpty := by
      rw [hl2, ← l1, Bool.and_true]
      cases kvs <;> simp
    rw [e]
    rfl
end Rm

set_option maxRecDepth 100000
set_option maxHeartbeats 4000000
namespace Rm
open PySem PySem.Spec L2
open PyProof.Rows hiding St

/-! ### dicts of int keys as lists -/
def valD (D : List (Int × V)) (n : Int) : Option V := (D.find? fun e => decide (e.1 = n)).map (·.2)
def enV (D : List (Int × V)) : List (Key × V) := D.map fun e => (Sum.inl e.1, e.2)
theorem en_val (D : List (Int × V)) (n : Int) : valV (enV D) (Sum.inl n) = valD D n := by
  unfold valV valD enV
  rw [List.find?_map, Option.map_map]
  have e : ((fun kv : Key × V => decide (kv.1 = Sum.inl n)) ∘ fun e : Int × V => ((Sum.inl e.1 : Key), e.2)) = fun e => decide (e.1 = n) := by
    funext e
    simp
  rw [e]
  rfl
theorem en_put {D : List (Int × V)} {n : Int} {v : V} (h : valD D n = none) : putK (enV D) (Sum.inl n) v = enV (D ++ [(n, v)]) := by
  rw [putK_new v (by rw [en_val]; exact h)]
  unfold enV
  rw [List.map_append]
  rfl
def dropD (D : List (Int × V)) (n : Int) : List (Int × V) := D.filter fun e => decide (e.1 ≠ n)
theorem en_drop (D : List (Int × V)) (n : Int) : dropK (enV D) (Sum.inl n) = enV (dropD D n) := by
  unfold dropK enV dropD
  rw [List.filter_map]
  congr 1
  refine List.filter_congr fun e _ => ?_
  simp
theorem en_len (D : List (Int × V)) : (enV D).length = D.length := List.length_map ..
def hasD (D : List (Int × V)) : PyData → Bool
  | .int i => (valD D i).isSome
  | _ => false
theorem has_is {D : List (Int × V)} {d : PyData} (h : hasD D d = true) : ∃ i v, d = .int i ∧ valD D i = some v := by
  cases d with
  | int i =>
    cases e : valD D i with
    | none =>
      have h : (valD D i).isSome = true := h
      rw [e] at h
      cases h
    | some v => exact ⟨i, v, rfl, e⟩
  | _ => cases h
theorem sqt_put {K : PySem.W.Frag} {H : Hp} {t s : Addr} {xs : List V} {o : HO} {kvs : List (Key × V)} (h : SqT K H t xs) (hs : H s = some (.dK kvs)) : SqT K (upd H s o) t xs :=
  h.imp (TupK.put hs (fun _ e => by cases e) (fun _ _ e => by cases e) _ _) id
theorem val_drop {D : List (Int × V)} {n m : Int} (h : m ≠ n) : valD (dropD D n) m = valD D m := by
  induction D with
  | nil => rfl
  | cons e D ih =>
    obtain ⟨k, v⟩ := e
    by_cases c : k = n
    · have : k ≠ m := fun e => h (e.symm.trans c)
      simpa [valD, dropD, c, this, Ne.symm h] using ih
    · by_cases c2 : k = m
      · simp [valD, dropD, c, c2, h]
      · simpa [valD, dropD, c, c2] using ih
theorem drop_lt {D : List (Int × V)} {n : Int} (h : (valD D n).isSome = true) : (dropD D n).length < D.length := by
  induction D with
  | nil => cases h
  | cons e D ih =>
    obtain ⟨k, v⟩ := e
    by_cases c : k = n
    · rw [show dropD ((k, v) :: D) n = dropD D n by simp [dropD, c], List.length_cons]
      have : (dropD D n).length ≤ D.length := List.length_filter_le ..
      omega
    · have := ih (by simpa [valD, c] using h)
      rw [show dropD ((k, v) :: D) n = (k, v) :: dropD D n by simp [dropD, c], List.length_cons, List.length_cons]
      omega
/-- the value of a key that is there, set anew -/
def setD (D : List (Int × V)) (n : Int) (v : V) : List (Int × V) := D.map fun e => if e.1 = n then (e.1, v) else e
theorem en_set {D : List (Int × V)} {n : Int} {v : V} (h : (valD D n).isSome = true) : putK (enV D) (Sum.inl n) v = enV (setD D n v) := by
  have a : ((enV D).any fun kv => decide (kv.1 = Sum.inl n)) = true := by
    unfold valD at h
    rw [Option.isSome_map, List.find?_isSome] at h
    obtain ⟨e, he, c⟩ := h
    exact List.any_eq_true.mpr ⟨_, List.mem_map.mpr ⟨e, he, rfl⟩, by simpa using c⟩
  unfold putK
  rw [if_pos a]
  unfold enV setD
  rw [List.map_map, List.map_map]
  refine List.map_congr_left fun e _ => ?_
  by_cases c : e.1 = n
  · simp [c]
  · simp [c]
end Rm

set_option maxRecDepth 100000
set_option maxHeartbeats 4000000
namespace Rm
open PySem PySem.Spec L2
open PyProof.Rows hiding St

/-! ### del a[k], b[l] -/
def tDel (td ty : TE) (σ : L2.St) (H : Hp) (N : Hp → Prop) : Prop := td σ H fun x H1 => ty σ H1 fun y H2 => ∃ a kvs k, x = .ref a ∧ H2 a = some (.dK kvs) ∧ y = kV k ∧ (valV kvs k).isSome = true ∧ N (upd H2 a (.dK (dropK kvs k)))
theorem del_one {X : Cx} {o i : PySem.Expr} {tpos : Pos} {td ty : TE} {pins : List (Addr × Obj)} {s : Shared} {σ : L2.St} {H : Hp} {N : Hp → Prop} (ha : PE X o td) (hb : PE X i ty) (I : Inv X pins σ H s) (h : tDel td ty σ H N) :
    wpAny (model X.prog X.w) X.A (delete (o.Subscript i tpos) X.env) (fun _ s' => ∃ H', Inv X pins σ H' s' ∧ N H') X.xe s := by
  rw [arm_delete_Subscript]
  refine wpAny_bind (thn (ha.run pins s σ H _ I h) fun u s1 ⟨x, H1, I1, rx, q1⟩ => ?_)
  refine wpAny_bind (wpAny_holding (thn (hb.run pins s1 σ H1 _ I1 q1) fun v s2 ⟨y, H2, I2, ry, a, kvs, k, ex, hk, ey, hs, q⟩ => ?_))
  subst ex ey
  cases rx
  refine wpAny_bind (wpAny_standAt ?_)
  refine wpAny_bind (wpAny_holding (d_delItem I2 hk ry hs fun s' I3 => ?_))
  first
    | exact wpAny_release ⟨_, I3, q⟩
    | exact wpAny_pure ⟨_, I3, q⟩
def sDDel2 (t1 t2 t3 t4 : TE) : TS := fun D σ H => tDel t1 t2 σ H fun H1 => tDel t3 t4 σ H1 fun H2 => D.nx σ H2
theorem ps_ddel2 {X : Cx} {o i o2 i2 : PySem.Expr} {pos tpos tpos2 : Pos} {t1 t2 t3 t4 : TE} (h1 : PE X o t1) (h2 : PE X i t2) (h3 : PE X o2 t3) (h4 : PE X i2 t4) :
    PS X (.Delete [o.Subscript i tpos, o2.Subscript i2 tpos2] pos) (sDDel2 t1 t2 t3 t4) := by
  refine ⟨fun pins s σ H D I h => ?_⟩
  rw [arm_exec_Delete, arm_deleteEach_cons, arm_deleteEach_cons, arm_deleteEach_nil]
  refine wpAny_bind (wpAny_standAt ?_)
  refine wpAny_bind (wpAny_bind (thn (del_one h1 h2 I h) fun _ s1 ⟨H1, I1, q1⟩ => ?_))
  refine wpAny_bind (thn (del_one h3 h4 I1 q1) fun _ s2 ⟨H2, I2, q2⟩ => wpAny_pure (wpAny_pure ?_))
  exact ⟨σ, H2, I2, q2⟩
end Rm

set_option maxRecDepth 100000
set_option maxHeartbeats 4000000
namespace Rm
open PySem PySem.Spec L2
open PyProof.Rows hiding St

/-! ### transactions and their parts, as plain data -/
structure PI where
  holder : Int
  outer : Option Int
  released : Option Int
  ended : Option Int
  outcome : Str
structure FS where
  done : Int
  moment : Int
  work : List Int
  states : List Str
  stacks : List (List Int)
  parts : List PI
def oI : Option Int → V
  | none => .non
  | some i => .int i

/-! ### where they stand -/
inductive Ro where
  | obj | work | states | stacks | parts
  | stack (i : Nat)
  | part (i : Nat)
  deriving DecidableEq
def Ro.ok (S : FS) : Ro → Prop
  | .stack i => i < S.stacks.length
  | .part i => i < S.parts.length
  | _ => True
def partO (C dx : Addr) (p : PI) : HO :=
  .ins C dx [("holder", .int p.holder), ("outer", oI p.outer), ("released", oI p.released), ("ended", oI p.ended), ("outcome", .str p.outcome)]
def fatesO (C dx : Addr) (S : FS) (w s k p : Addr) : List (Str × V) :=
  [("_done", .int S.done), ("_commits", .int S.moment), ("_at_work", .ref w), ("_states", .ref s), ("_stacks", .ref k), ("_all_parts", .ref p)]
/-- what stands at a place; more: what a derived class has besides -/
def cont (C CP dx : Addr) (dp : Nat → Addr) (more : List (Str × V)) (S : FS) (ad : Ro → Addr) : Ro → HO
  | .obj => .ins C dx (fatesO C dx S (ad .work) (ad .states) (ad .stacks) (ad .parts) ++ more)
  | .work => .lst (S.work.map V.int)
  | .states => .lst (S.states.map V.str)
  | .stacks => .lst ((List.range S.stacks.length).map fun i => V.ref (ad (.stack i)))
  | .parts => .lst ((List.range S.parts.length).map fun i => V.ref (ad (.part i)))
  | .stack i => .lst ((S.stacks.getD i []).map V.int)
  | .part i => match S.parts[i]? with
    | some p => partO CP (dp i) p
    | none => .lst []
structure FsAt (C CP : Addr) (more : List (Str × V)) (H : Hp) (a : Addr) (S : FS) (ad : Ro → Addr) : Prop where
  at_ : ad .obj = a
  inj : ∀ r r', r.ok S → r'.ok S → ad r = ad r' → r = r'
  ex : ∃ dx dp, ∀ r, r.ok S → H (ad r) = some (cont C CP dx dp more S ad r)
/-- the places -/
def Foot (S : FS) (ad : Ro → Addr) (b : Addr) : Prop := ∃ r, r.ok S ∧ ad r = b
/-- all else stays -/
def Fr (F : Addr → Prop) (H H' : Hp) : Prop := ∀ b u, H b = some u → ¬ F b → H' b = some u
/-- no old thing joins -/
def Grow (F F' : Addr → Prop) (H : Hp) : Prop := ∀ b, F' b → F b ∨ H b = none
def FsA (C CP : Addr) (more : List (Str × V)) (H : Hp) (a : Addr) (S : FS) (F : Addr → Prop) : Prop := ∃ ad, FsAt C CP more H a S ad ∧ ∀ b, F b ↔ Foot S ad b
theorem Fr.refl {F : Addr → Prop} {H : Hp} : Fr F H H := fun _ _ h _ => h
theorem Fr.same {F : Addr → Prop} {H H' : Hp} (s : Same H H') : Fr F H H' := fun b u h _ => s b u h
theorem Fr.trans {F F' : Addr → Prop} {H H1 H2 : Hp} (a : Fr F H H1) (g : Grow F F' H) (b : Fr F' H1 H2) : Fr F H H2 := fun c u h n =>
  b c u (a c u h n) fun z => (g c z).elim n fun e => by rw [e] at h; cases h
theorem Grow.refl {F : Addr → Prop} {H : Hp} : Grow F F H := fun _ h => .inl h
theorem Grow.trans {F F' F2 : Addr → Prop} {H H1 : Hp} (a : Grow F F' H) (fr : Fr F H H1) (b : Grow F' F2 H1) : Grow F F2 H := fun c h =>
  (b c h).elim (a c) fun e => by
    by_cases z : F c
    · exact .inl z
    · cases q : H c with
      | none => exact .inr rfl
      | some u => rw [fr c u q z] at e; cases e
section
variable {C CP : Addr} {more : List (Str × V)} {H H' : Hp} {a : Addr} {S : FS} {ad : Ro → Addr} {F G : Addr → Prop}
theorem FsAt.up (h : FsAt C CP more H a S ad) (s : ∀ r, r.ok S → H' (ad r) = H (ad r)) : FsAt C CP more H' a S ad := by
  obtain ⟨h1, h2, dx, dp, h3⟩ := h
  exact ⟨h1, h2, dx, dp, fun r hr => (s r hr).trans (h3 r hr)⟩
theorem FsAt.has (h : FsAt C CP more H a S ad) {r : Ro} (hr : r.ok S) : ∃ u, H (ad r) = some u := by
  obtain ⟨_, _, dx, dp, h3⟩ := h
  exact ⟨_, h3 r hr⟩
theorem FsA.frame (h : FsA C CP more H a S F) (fr : Fr G H H') (d : ∀ b, F b → ¬ G b) : FsA C CP more H' a S F := by
  obtain ⟨ad, h, hF⟩ := h
  refine ⟨ad, h.up fun r hr => ?_, hF⟩
  obtain ⟨u, hu⟩ := h.has hr
  rw [hu]
  exact fr _ _ hu (d _ ((hF _).mpr ⟨r, hr, rfl⟩))
theorem FsA.same (h : FsA C CP more H a S F) (s : Same H H') : FsA C CP more H' a S F := h.frame (G := fun _ => False) (Fr.same s) fun _ _ z => z
theorem FsA.on (h : FsA C CP more H a S F) : ∀ b, F b → ∃ u, H b = some u := fun b hb => by
  obtain ⟨ad, h, hF⟩ := h
  obtain ⟨r, hr, rfl⟩ := (hF b).mp hb
  exact h.has hr
/-- a write at a place leaves the others -/
theorem FsAt.off (h : FsAt C CP more H a S ad) {r r' : Ro} {o : HO} (hr : r.ok S) (hr' : r'.ok S) (ne : r' ≠ r) : upd H (ad r) o (ad r') = H (ad r') :=
  upd_ne fun e => ne (h.inj _ _ hr' hr e)
/-- a write at one place -/
theorem FsAt.put {S' : FS} (h : FsAt C CP more H a S ad) {r : Ro} {o : HO} (hr : r.ok S) (hok : ∀ r' : Ro, r'.ok S' ↔ r'.ok S)
    (ho : ∀ dx dp, (∀ r, r.ok S → H (ad r) = some (cont C CP dx dp more S ad r)) → o = cont C CP dx dp more S' ad r)
    (hs : ∀ dx dp (r' : Ro), r'.ok S → r' ≠ r → cont C CP dx dp more S' ad r' = cont C CP dx dp more S ad r') : FsAt C CP more (upd H (ad r) o) a S' ad := by
  obtain ⟨h1, h2, dx, dp, h3⟩ := id h
  refine ⟨h1, fun x y hx hy => h2 x y ((hok x).mp hx) ((hok y).mp hy), dx, dp, fun x hx => ?_⟩
  have hx := (hok x).mp hx
  by_cases e : x = r
  · subst e
    rw [upd_same, ho dx dp h3]
  · rw [h.off hr hx e, h3 x hx, hs dx dp x hx e]
/-- a new thing takes a place, another one that knows it is written -/
theorem Foot.put {S' : FS} (hok : ∀ r' : Ro, r'.ok S' ↔ r'.ok S) : ∀ b, Foot S' ad b ↔ Foot S ad b := fun b =>
  ⟨fun ⟨r, h, e⟩ => ⟨r, (hok r).mp h, e⟩, fun ⟨r, h, e⟩ => ⟨r, (hok r).mpr h, e⟩⟩
end
/-- r takes the place y -/
def moveTo (ad : Ro → Addr) (r : Ro) (y : Addr) : Ro → Addr := fun x => if x = r then y else ad x
theorem move_at {ad : Ro → Addr} {r : Ro} {y : Addr} : moveTo ad r y r = y := if_pos rfl
theorem move_off {ad : Ro → Addr} {r x : Ro} {y : Addr} (h : x ≠ r) : moveTo ad r y x = ad x := if_neg h
end Rm

set_option maxRecDepth 100000
set_option maxHeartbeats 4000000
namespace Rm
open PySem PySem.Spec L2
open PyProof.Rows hiding St

/-! ### what a class of fates has -/
structure FC (K : PySem.W.Frag) (C : Addr) : Prop where
  cls : Cls K C
  n0 : NoAttr K C "_done"
  n1 : NoAttr K C "_commits"
  n2 : NoAttr K C "_at_work"
  n3 : NoAttr K C "_states"
  n4 : NoAttr K C "_stacks"
  n5 : NoAttr K C "_all_parts"
structure PC (K : PySem.W.Frag) (C : Addr) : Prop where
  cls : Cls K C
  n0 : NoAttr K C "holder"
  n1 : NoAttr K C "outer"
  n2 : NoAttr K C "released"
  n3 : NoAttr K C "ended"
  n4 : NoAttr K C "outcome"
/-! ### errors -/
inductive Ek where
  | ut | en | pr | fp | so | tm | up
  deriving DecidableEq
structure EA where
  ut : Addr
  en : Addr
  pr : Addr
  fp : Addr
  so : Addr
  tm : Addr
  up : Addr
def EA.c (A : EA) : Ek → Addr
  | .ut => A.ut | .en => A.en | .pr => A.pr | .fp => A.fp | .so => A.so | .tm => A.tm | .up => A.up
def Ek.f : Ek → Str
  | .ut => "value" | .en => "number" | .pr => "number" | .fp => "number" | .so => "number" | .tm => "limit" | .up => "value"
/-- the error k with what it keeps goes out -/
def Out (A : EA) (E : XK) (H : Hp) (k : Ek) (x : V) : Prop := ∀ e, H e = none → E (.ref (A.c k)) (some e) (upd H e (.xd [(k.f, x)]))
/-! ### what is asked of a number -/
def FS.st (S : FS) : PyData → Str
  | .int i => S.states.getD (i - 1).toNat ""
  | _ => ""
def FS.kn (S : FS) (d : PyData) : Option Ek := if isW 1 S.states.length d then none else some .ut
def FS.ru (S : FS) (d : PyData) : Option Ek := match S.kn d with
  | some k => some k
  | none => if S.st d = "committed" ∨ S.st d = "aborted" then some .en else none
def FS.fr (S : FS) (d : PyData) : Option Ek := match S.ru d with
  | some k => some k
  | none => if S.st d = "prepared" then some .pr else none
theorem FS.kn_none {S : FS} {d : PyData} (h : S.kn d = none) : ∃ i : Nat, d = .int ((i : Int) + 1) ∧ i < S.states.length := by
  unfold FS.kn at h
  split at h
  · rename_i e
    obtain ⟨i, rfl, h1, h2⟩ := isW_int e
    obtain ⟨n, hn⟩ := Int.eq_ofNat_of_zero_le (show 0 ≤ i - 1 by omega)
    refine ⟨n, ?_, by omega⟩
    congr 1
    omega
  · cases h
theorem FS.ru_none {S : FS} {d : PyData} (h : S.ru d = none) : S.kn d = none ∧ ¬ (S.st d = "committed" ∨ S.st d = "aborted") := by
  unfold FS.ru at h
  split at h
  · cases h
  · rename_i e
    refine ⟨e, ?_⟩
    split at h
    · cases h
    · assumption
theorem FS.fr_none {S : FS} {d : PyData} (h : S.fr d = none) : S.ru d = none ∧ ¬ S.st d = "prepared" := by
  unfold FS.fr at h
  split at h
  · cases h
  · rename_i e
    refine ⟨e, ?_⟩
    split at h
    · cases h
    · assumption
theorem FS.st_at {S : FS} {i : Nat} (h : i < S.states.length) : S.states[i]? = some (S.st (.int ((i : Int) + 1))) := by
  unfold FS.st
  simp only [Int.add_sub_cancel, Int.toNat_natCast]
  rw [List.getD_eq_getElem?_getD, List.getElem?_eq_getElem h]
  rfl
theorem st_atI {S : FS} {i : Nat} (h : i < S.states.length) : atI (S.states.map V.str) ((i : Int) + 1 - 1) = some (.str (S.st (.int ((i : Int) + 1)))) := by
  rw [Int.add_sub_cancel]
  exact atI_nat (by rw [List.getElem?_map, FS.st_at h]; rfl)
section
variable {C CP : Addr} {more : List (Str × V)} {H H' : Hp} {a : Addr} {S : FS} {ad : Ro → Addr} {F G : Addr → Prop}
/-- the object and its lists -/
structure Look (C : Addr) (more : List (Str × V)) (H : Hp) (a : Addr) (S : FS) (ad : Ro → Addr) (dx : Addr) : Prop where
  o : H a = some (.ins C dx (fatesO C dx S (ad .work) (ad .states) (ad .stacks) (ad .parts) ++ more))
  w : H (ad .work) = some (.lst (S.work.map V.int))
  s : H (ad .states) = some (.lst (S.states.map V.str))
  k : H (ad .stacks) = some (.lst ((List.range S.stacks.length).map fun i => V.ref (ad (.stack i))))
  p : H (ad .parts) = some (.lst ((List.range S.parts.length).map fun i => V.ref (ad (.part i))))
theorem FsAt.look (h : FsAt C CP more H a S ad) : ∃ dx, Look C more H a S ad dx := by
  obtain ⟨h1, h2, dx, dp, h3⟩ := h
  refine ⟨dx, ?_, h3 .work trivial, h3 .states trivial, h3 .stacks trivial, h3 .parts trivial⟩
  rw [← h1]
  exact h3 .obj trivial
theorem FsAt.stk (h : FsAt C CP more H a S ad) {i : Nat} {l : List Int} (hi : S.stacks[i]? = some l) : H (ad (.stack i)) = some (.lst (l.map V.int)) := by
  obtain ⟨h1, h2, dx, dp, h3⟩ := h
  have hl := (List.getElem?_eq_some_iff.mp hi).1
  rw [h3 (.stack i) hl]
  show some (HO.lst ((S.stacks.getD i []).map V.int)) = _
  rw [List.getD_eq_getElem?_getD, hi]
  rfl
theorem FsAt.prt (h : FsAt C CP more H a S ad) {i : Nat} {p : PI} (hi : S.parts[i]? = some p) : ∃ dx, H (ad (.part i)) = some (partO CP dx p) := by
  obtain ⟨h1, h2, dx, dp, h3⟩ := h
  have hl := (List.getElem?_eq_some_iff.mp hi).1
  refine ⟨dp i, ?_⟩
  rw [h3 (.part i) hl]
  show some (match S.parts[i]? with | some p => partO CP (dp i) p | none => .lst []) = _
  rw [hi]
theorem refs_at {n i : Nat} {f : Nat → Addr} (h : i < n) : ((List.range n).map fun i => V.ref (f i))[i]? = some (.ref (f i)) := by
  rw [List.getElem?_map, List.getElem?_range h]
  rfl
end
end Rm
namespace Rm
open PySem PySem.Spec L2
open PyProof.Rows hiding St
def spWi (K : PySem.W.Frag) : Sp := fun vs H Q _ => ∃ x d lo hi, vs = [x, .int lo, .int hi] ∧ Dx K H x d ∧ Q (.bl (isW lo hi d)) H
def FS.cnt (S : FS) : FS := { S with done := S.done + 1 }
def spCnt (C CP : Addr) (more : List (Str × V)) : Sp := fun vs H Q _ => ∃ a S F, vs = [.ref a] ∧ FsA C CP more H a S F ∧ ∀ H', FsA C CP more H' a S.cnt F → (∀ ad, FsAt C CP more H a S ad → FsAt C CP more H' a S.cnt ad) → Fr F H H' → Q .non H'
/-- a number is asked: in order, or an error goes out -/
def spAsk (K : PySem.W.Frag) (C CP : Addr) (more : List (Str × V)) (EE : EA) (g : FS → PyData → Option Ek) : Sp := fun vs H Q E => ∃ a x d S F, vs = [.ref a, x] ∧ FsA C CP more H a S F ∧ Dx K H x d ∧
  S.states.length ≤ 1000 ∧ (g S d = none → ∀ H', Same H H' → Q .non H') ∧ ∀ k, g S d = some k → ∀ H', Same H H' → Out EE E H' k x
theorem s_ne {a b : Str} (h : ¬ a = b) : (a = b) = False := eq_false h
end Rm

set_option maxRecDepth 100000
set_option maxHeartbeats 4000000
namespace Rm
open PySem PySem.Spec L2
open PyProof.Rows hiding St

section
variable {C CP : Addr} {more : List (Str × V)} {H H' : Hp} {a : Addr} {S S' : FS} {ad : Ro → Addr} {F G : Addr → Prop}
theorem Fr.put {p : Addr} {o : HO} (h : F p) : Fr F H (upd H p o) := fun b u hb n => by
  rw [upd_ne (fun e => n (by rw [e]; exact h))]
  exact hb
theorem Fr.new {p : Addr} {o : HO} (h : H p = none) : Fr F H (upd H p o) := Fr.same (same_new h)
theorem FsAt.foot (h : FsAt C CP more H a S ad) (hF : ∀ b, F b ↔ Foot S ad b) {r : Ro} (hr : r.ok S) : F (ad r) := (hF _).mpr ⟨r, hr, rfl⟩
/-- the object is written anew -/
theorem FsAt.setO {dx : Addr} {fs : List (Str × V)} (h : FsAt C CP more H a S ad) (lk : Look C more H a S ad dx) (ef : fs = fatesO C dx S' (ad .work) (ad .states) (ad .stacks) (ad .parts) ++ more)
    (e1 : S'.work = S.work) (e2 : S'.states = S.states) (e3 : S'.stacks = S.stacks) (e4 : S'.parts = S.parts) : FsAt C CP more (upd H a (.ins C dx fs)) a S' ad := by
  have at_ := h.at_
  obtain ⟨h1, h2, dx0, dp, h3⟩ := id h
  have hok : ∀ r' : Ro, r'.ok S' ↔ r'.ok S := fun r' => by cases r' <;> simp [Ro.ok, e3, e4]
  refine ⟨h1, fun x y hx hy => h2 x y ((hok x).mp hx) ((hok y).mp hy), dx, dp, fun x hx => ?_⟩
  have hx := (hok x).mp hx
  subst at_
  by_cases e : x = .obj
  · subst e
    rw [upd_same, ef]
    rfl
  · rw [h.off (r := .obj) trivial hx e, h3 x hx]
    cases x <;> first | exact absurd rfl e | simp [cont, e1, e2, e3, e4]
theorem FsA.ofO {dx : Addr} {fs : List (Str × V)} (h : FsAt C CP more H a S ad) (hF : ∀ b, F b ↔ Foot S ad b) (lk : Look C more H a S ad dx) (ef : fs = fatesO C dx S' (ad .work) (ad .states) (ad .stacks) (ad .parts) ++ more)
    (e1 : S'.work = S.work) (e2 : S'.states = S.states) (e3 : S'.stacks = S.stacks) (e4 : S'.parts = S.parts) : FsA C CP more (upd H a (.ins C dx fs)) a S' F ∧ Fr F H (upd H a (.ins C dx fs)) := by
  have hok : ∀ r' : Ro, r'.ok S' ↔ r'.ok S := fun r' => by cases r' <;> simp [Ro.ok, e3, e4]
  refine ⟨⟨ad, h.setO lk ef e1 e2 e3 e4, fun b => (hF b).trans (Foot.put hok b).symm⟩, Fr.put ?_⟩
  rw [← h.at_]
  exact h.foot hF (r := .obj) trivial
theorem FsA.ofPut {r : Ro} {o : HO} (h : FsAt C CP more H a S ad) (hF : ∀ b, F b ↔ Foot S ad b) (hr : r.ok S) (hok : ∀ r' : Ro, r'.ok S' ↔ r'.ok S)
    (ho : ∀ dx dp, (∀ r, r.ok S → H (ad r) = some (cont C CP dx dp more S ad r)) → o = cont C CP dx dp more S' ad r)
    (hs : ∀ dx dp (r' : Ro), r'.ok S → r' ≠ r → cont C CP dx dp more S' ad r' = cont C CP dx dp more S ad r') : FsA C CP more (upd H (ad r) o) a S' F ∧ Fr F H (upd H (ad r) o) :=
  ⟨⟨ad, h.put hr hok ho hs, fun b => (hF b).trans (Foot.put hok b).symm⟩, Fr.put (h.foot hF hr)⟩
theorem FsA.setWork {ws : List Int} (h : FsAt C CP more H a S ad) (hF : ∀ b, F b ↔ Foot S ad b) :
    FsA C CP more (upd H (ad .work) (.lst (ws.map V.int))) a { S with work := ws } F ∧ Fr F H (upd H (ad .work) (.lst (ws.map V.int))) :=
  FsA.ofPut h hF (r := .work) trivial (fun r' => by cases r' <;> exact Iff.rfl) (fun _ _ _ => rfl) fun dx dp r' _ ne => by cases r' <;> first | exact absurd rfl ne | rfl
theorem FsA.setStates {zs : List Str} (h : FsAt C CP more H a S ad) (hF : ∀ b, F b ↔ Foot S ad b) :
    FsA C CP more (upd H (ad .states) (.lst (zs.map V.str))) a { S with states := zs } F ∧ Fr F H (upd H (ad .states) (.lst (zs.map V.str))) :=
  FsA.ofPut h hF (r := .states) trivial (fun r' => by cases r' <;> exact Iff.rfl) (fun _ _ _ => rfl) fun dx dp r' _ ne => by cases r' <;> first | exact absurd rfl ne | rfl
theorem FsA.setStack {i : Nat} {l : List Int} (h : FsAt C CP more H a S ad) (hF : ∀ b, F b ↔ Foot S ad b) (hi : i < S.stacks.length) :
    FsA C CP more (upd H (ad (.stack i)) (.lst (l.map V.int))) a { S with stacks := S.stacks.set i l } F ∧ Fr F H (upd H (ad (.stack i)) (.lst (l.map V.int))) := by
  refine FsA.ofPut h hF (r := .stack i) hi (fun r' => by cases r' <;> simp [Ro.ok]) (fun _ _ _ => ?_) fun dx dp r' hr ne => ?_
  · show _ = HO.lst (((S.stacks.set i l).getD i []).map V.int)
    rw [List.getD_eq_getElem?_getD, List.getElem?_set_self hi]
    rfl
  · cases r' with
    | stack j =>
      have nj : i ≠ j := fun e => ne (by rw [e])
      show HO.lst (((S.stacks.set i l).getD j []).map V.int) = HO.lst ((S.stacks.getD j []).map V.int)
      rw [List.getD_eq_getElem?_getD, List.getElem?_set_ne nj, ← List.getD_eq_getElem?_getD]
    | stacks =>
      show HO.lst ((List.range (S.stacks.set i l).length).map _) = _
      rw [List.length_set]
      rfl
    | _ => rfl
theorem FsA.setPart {i : Nat} {p : PI} (h : FsAt C CP more H a S ad) (hF : ∀ b, F b ↔ Foot S ad b) (hi : i < S.parts.length) {dx : Addr} (hd : ∃ p0, H (ad (.part i)) = some (partO CP dx p0)) :
    FsA C CP more (upd H (ad (.part i)) (partO CP dx p)) a { S with parts := S.parts.set i p } F ∧ Fr F H (upd H (ad (.part i)) (partO CP dx p)) := by
  refine FsA.ofPut h hF (r := .part i) hi (fun r' => by cases r' <;> simp [Ro.ok]) (fun dx0 dp h3 => ?_) fun dx dp r' hr ne => ?_
  · show _ = (match (S.parts.set i p)[i]? with | some p => partO CP (dp i) p | none => HO.lst [])
    rw [List.getElem?_set_self hi]
    obtain ⟨p0, hd⟩ := hd
    have e := h3 (.part i) hi
    rw [hd] at e
    have e2 : partO CP dx p0 = (match S.parts[i]? with | some p => partO CP (dp i) p | none => HO.lst []) := Option.some.inj e
    rw [List.getElem?_eq_getElem hi] at e2
    have e3 : dx = dp i := by
      simp only [partO, HO.ins.injEq] at e2
      exact e2.2.1
    rw [e3]
  · cases r' with
    | part j =>
      have nj : i ≠ j := fun e => ne (by rw [e])
      show (match (S.parts.set i p)[j]? with | some p => partO CP (dp j) p | none => HO.lst []) = (match S.parts[j]? with | some p => partO CP (dp j) p | none => HO.lst [])
      rw [List.getElem?_set_ne nj]
    | parts =>
      show HO.lst ((List.range (S.parts.set i p).length).map _) = _
      rw [List.length_set]
      rfl
    | _ => rfl
/-- a fresh thing at y takes the place r0 -/
def With (F : Addr → Prop) (y : Addr) (b : Addr) : Prop := F b ∨ b = y
theorem Grow.add {y : Addr} (hy : H y = none) : Grow F (With F y) H := fun b h => h.elim .inl fun e => .inr (by rw [e]; exact hy)
theorem move_refs {n i : Nat} {y : Addr} (hi : n ≤ i) : ((List.range n).map fun j => V.ref (moveTo ad (.stack i) y (.stack j))) = (List.range n).map fun j => V.ref (ad (.stack j)) := by
  apply List.map_congr_left
  intro j hj
  rw [move_off (fun e => by
    have : j = i := by simpa using e
    have := List.mem_range.mp hj
    omega)]
theorem move_refp {n i : Nat} {y : Addr} (hi : n ≤ i) : ((List.range n).map fun j => V.ref (moveTo ad (.part i) y (.part j))) = (List.range n).map fun j => V.ref (ad (.part j)) := by
  apply List.map_congr_left
  intro j hj
  rw [move_off (fun e => by
    have : j = i := by simpa using e
    have := List.mem_range.mp hj
    omega)]
/-- one stack more: y is new, then the list of stacks takes it -/
theorem FsA.addStack {y : Addr} {l : List Int} (h : FsAt C CP more H a S ad) (hF : ∀ b, F b ↔ Foot S ad b) (hy : H y = none) :
    FsA C CP more (upd (upd H y (.lst (l.map V.int))) (ad .stacks) (.lst (((List.range S.stacks.length).map fun i => V.ref (ad (.stack i))) ++ [.ref y]))) a { S with stacks := S.stacks ++ [l] } (With F y) ∧
      Fr F H (upd (upd H y (.lst (l.map V.int))) (ad .stacks) (.lst (((List.range S.stacks.length).map fun i => V.ref (ad (.stack i))) ++ [.ref y]))) := by
  obtain ⟨h1, h2, dx, dp, h3⟩ := id h
  have ny : ∀ {r : Ro}, r.ok S → ad r ≠ y := fun hr e => by
    obtain ⟨u, hu⟩ := h.has hr
    rw [e, hy] at hu
    cases hu
  have mv : ∀ {r : Ro}, r.ok S → moveTo ad (.stack S.stacks.length) y r = ad r := fun {r} hr => move_off (fun e => by
    rw [e] at hr
    exact Nat.lt_irrefl _ hr)
  have okd : ∀ {r : Ro}, r.ok { S with stacks := S.stacks ++ [l] } → r.ok S ∨ r = .stack S.stacks.length := fun {r} hr => by
    cases r with
    | stack i =>
      have hi : i < (S.stacks ++ [l]).length := hr
      rw [List.length_append] at hi
      by_cases e : i = S.stacks.length
      · exact .inr (by rw [e])
      · exact .inl (show i < S.stacks.length by simp at hi; omega)
    | part i => exact .inl hr
    | _ => exact .inl trivial
  have oku : ∀ {r : Ro}, r.ok S → r.ok { S with stacks := S.stacks ++ [l] } := fun {r} hr => by
    cases r with
    | stack i =>
      have hi : i < S.stacks.length := hr
      exact (show i < (S.stacks ++ [l]).length by rw [List.length_append]; omega)
    | part i => exact hr
    | _ => exact trivial
  refine ⟨⟨moveTo ad (.stack S.stacks.length) y, ⟨by rw [mv (r := .obj) trivial]; exact h1, fun r r' hr hr' e => ?_, dx, dp, fun r hr => ?_⟩, fun b => ?_⟩, ?_⟩
  · rcases okd hr with hr | rfl
    · rcases okd hr' with hr' | rfl
      · rw [mv hr, mv hr'] at e
        exact h2 _ _ hr hr' e
      · rw [mv hr, move_at] at e
        exact absurd e (ny hr)
    · rcases okd hr' with hr' | rfl
      · rw [mv hr', move_at] at e
        exact absurd e.symm (ny hr')
      · rfl
  · rcases okd hr with hr | rfl
    · rw [mv hr]
      by_cases e : r = .stacks
      · subst e
        rw [upd_same]
        show _ = some (HO.lst ((List.range (S.stacks ++ [l]).length).map fun j => V.ref (moveTo ad (.stack S.stacks.length) y (.stack j))))
        rw [List.length_append, show [l].length = 1 from rfl, List.range_succ, List.map_append, move_refs (Nat.le_refl _), List.map_cons, List.map_nil, move_at]
      · have off := h.off (o := .lst (((List.range S.stacks.length).map fun i => V.ref (ad (.stack i))) ++ [.ref y])) (r := .stacks) trivial hr e
        rw [upd_ne (fun z => e (h2 _ _ hr trivial z)), upd_ne (ny hr), h3 r hr]
        cases r with
        | obj =>
          show some (HO.ins C dx (fatesO C dx S (ad .work) (ad .states) (ad .stacks) (ad .parts) ++ more)) = some (HO.ins C dx (fatesO C dx _ (moveTo ad (.stack S.stacks.length) y .work) (moveTo ad (.stack S.stacks.length) y .states) (moveTo ad (.stack S.stacks.length) y .stacks) (moveTo ad (.stack S.stacks.length) y .parts) ++ more))
          rw [mv (r := .work) trivial, mv (r := .states) trivial, mv (r := .stacks) trivial, mv (r := .parts) trivial]
          rfl
        | stack i =>
          have hi : i < S.stacks.length := hr
          show some (HO.lst ((S.stacks.getD i []).map V.int)) = some (HO.lst (((S.stacks ++ [l]).getD i []).map V.int))
          rw [List.getD_eq_getElem?_getD, List.getD_eq_getElem?_getD, List.getElem?_append_left hi]
        | parts =>
          show some (HO.lst _) = some (HO.lst ((List.range S.parts.length).map fun j => V.ref (moveTo ad (.stack S.stacks.length) y (.part j))))
          congr 2
        | stacks => exact absurd rfl e
        | _ => rfl
    · rw [move_at, upd_ne (fun e => ny (r := .stacks) trivial e.symm), upd_same]
      show _ = some (HO.lst (((S.stacks ++ [l]).getD S.stacks.length []).map V.int))
      rw [List.getD_eq_getElem?_getD, List.getElem?_append_right (Nat.le_refl _)]
      simp
  · constructor
    · rintro (hb | rfl)
      · obtain ⟨r, hr, rfl⟩ := (hF b).mp hb
        exact ⟨r, oku hr, mv hr⟩
      · exact ⟨.stack S.stacks.length, (show S.stacks.length < (S.stacks ++ [l]).length by rw [List.length_append]; exact Nat.lt_succ_self _), move_at⟩
    · rintro ⟨r, hr, rfl⟩
      rcases okd hr with hr | rfl
      · rw [mv hr]
        exact .inl (h.foot hF hr)
      · exact .inr move_at
  · intro b u hb n
    have n1 : b ≠ ad .stacks := fun e => n (by rw [e]; exact h.foot hF (r := .stacks) trivial)
    rw [upd_ne n1, upd_ne (fun e => by rw [e, hy] at hb; cases hb)]
    exact hb
end
end Rm

set_option maxRecDepth 100000
set_option maxHeartbeats 4000000
namespace Rm
open PySem PySem.Spec L2
open PyProof.Rows hiding St

section
variable {C CP : Addr} {more : List (Str × V)} {H H1 : Hp} {a : Addr} {S : FS} {ad : Ro → Addr} {F : Addr → Prop}
/-- one part more: y is new, then the list of parts takes it -/
theorem FsA.addPart {y dy : Addr} {p : PI} (h : FsAt C CP more H a S ad) (hF : ∀ b, F b ↔ Foot S ad b) (s : Same H H1) (hy : H y = none) (hv : H1 y = some (partO CP dy p)) :
    FsA C CP more (upd H1 (ad .parts) (.lst (((List.range S.parts.length).map fun i => V.ref (ad (.part i))) ++ [.ref y]))) a { S with parts := S.parts ++ [p] } (With F y) ∧
      Fr F H (upd H1 (ad .parts) (.lst (((List.range S.parts.length).map fun i => V.ref (ad (.part i))) ++ [.ref y]))) := by
  obtain ⟨h1, h2, dx, dp, h3⟩ := id h
  have ny : ∀ {r : Ro}, r.ok S → ad r ≠ y := fun hr e => by
    obtain ⟨u, hu⟩ := h.has hr
    rw [e, hy] at hu
    cases hu
  have mv : ∀ {r : Ro}, r.ok S → moveTo ad (.part S.parts.length) y r = ad r := fun {r} hr => move_off (fun e => by
    rw [e] at hr
    exact Nat.lt_irrefl _ hr)
  have okd : ∀ {r : Ro}, r.ok { S with parts := S.parts ++ [p] } → r.ok S ∨ r = .part S.parts.length := fun {r} hr => by
    cases r with
    | part i =>
      have hi : i < (S.parts ++ [p]).length := hr
      rw [List.length_append] at hi
      by_cases e : i = S.parts.length
      · exact .inr (by rw [e])
      · exact .inl (show i < S.parts.length by simp at hi; omega)
    | stack i => exact .inl hr
    | _ => exact .inl trivial
  have oku : ∀ {r : Ro}, r.ok S → r.ok { S with parts := S.parts ++ [p] } := fun {r} hr => by
    cases r with
    | part i =>
      have hi : i < S.parts.length := hr
      exact (show i < (S.parts ++ [p]).length by rw [List.length_append]; omega)
    | stack i => exact hr
    | _ => exact trivial
  refine ⟨⟨moveTo ad (.part S.parts.length) y, ⟨by rw [mv (r := .obj) trivial]; exact h1, fun r r' hr hr' e => ?_, dx, (fun i => if i = S.parts.length then dy else dp i), fun r hr => ?_⟩, fun b => ?_⟩, ?_⟩
  · rcases okd hr with hr | rfl
    · rcases okd hr' with hr' | rfl
      · rw [mv hr, mv hr'] at e
        exact h2 _ _ hr hr' e
      · rw [mv hr, move_at] at e
        exact absurd e (ny hr)
    · rcases okd hr' with hr' | rfl
      · rw [mv hr', move_at] at e
        exact absurd e.symm (ny hr')
      · rfl
  · rcases okd hr with hr | rfl
    · rw [mv hr]
      by_cases e : r = .parts
      · subst e
        rw [upd_same]
        show _ = some (HO.lst ((List.range (S.parts ++ [p]).length).map fun j => V.ref (moveTo ad (.part S.parts.length) y (.part j))))
        rw [List.length_append, show [p].length = 1 from rfl, List.range_succ, List.map_append, move_refp (Nat.le_refl _), List.map_cons, List.map_nil, move_at]
      · rw [upd_ne (fun z => e (h2 _ _ hr trivial z)), s _ _ (h3 r hr)]
        cases r with
        | obj =>
          show some (HO.ins C dx (fatesO C dx S (ad .work) (ad .states) (ad .stacks) (ad .parts) ++ more)) = some (HO.ins C dx (fatesO C dx _ (moveTo ad (.part S.parts.length) y .work) (moveTo ad (.part S.parts.length) y .states) (moveTo ad (.part S.parts.length) y .stacks) (moveTo ad (.part S.parts.length) y .parts) ++ more))
          rw [mv (r := .work) trivial, mv (r := .states) trivial, mv (r := .stacks) trivial, mv (r := .parts) trivial]
          rfl
        | part i =>
          have hi : i < S.parts.length := hr
          show some (match S.parts[i]? with | some p => partO CP (dp i) p | none => HO.lst []) = some (match (S.parts ++ [p])[i]? with | some p => partO CP (if i = S.parts.length then dy else dp i) p | none => HO.lst [])
          rw [List.getElem?_append_left hi, if_neg (by omega)]
        | stacks =>
          show some (HO.lst _) = some (HO.lst ((List.range S.stacks.length).map fun j => V.ref (moveTo ad (.part S.parts.length) y (.stack j))))
          congr 2
        | parts => exact absurd rfl e
        | _ => rfl
    · rw [move_at, upd_ne (fun e => ny (r := .parts) trivial e.symm), hv]
      show _ = some (match (S.parts ++ [p])[S.parts.length]? with | some q => partO CP (if S.parts.length = S.parts.length then dy else dp S.parts.length) q | none => HO.lst [])
      rw [List.getElem?_append_right (Nat.le_refl _), if_pos rfl]
      simp
  · constructor
    · rintro (hb | rfl)
      · obtain ⟨r, hr, rfl⟩ := (hF b).mp hb
        exact ⟨r, oku hr, mv hr⟩
      · exact ⟨.part S.parts.length, (show S.parts.length < (S.parts ++ [p]).length by rw [List.length_append]; exact Nat.lt_succ_self _), move_at⟩
    · rintro ⟨r, hr, rfl⟩
      rcases okd hr with hr | rfl
      · rw [mv hr]
        exact .inl (h.foot hF hr)
      · exact .inr move_at
  · intro b u hb n
    have n1 : b ≠ ad .parts := fun e => n (by rw [e]; exact h.foot hF (r := .parts) trivial)
    rw [upd_ne n1]
    exact s _ _ hb
/-- a new stack stands for an old one -/
theorem FsA.newStack {y : Addr} {l : List Int} {i : Nat} (h : FsAt C CP more H a S ad) (hF : ∀ b, F b ↔ Foot S ad b) (hy : H y = none) (hi : i < S.stacks.length) :
    FsA C CP more (upd (upd H y (.lst (l.map V.int))) (ad .stacks) (.lst (((List.range S.stacks.length).map fun i => V.ref (ad (.stack i))).set i (.ref y)))) a { S with stacks := S.stacks.set i l } (fun b => With F y b ∧ b ≠ ad (.stack i)) ∧
      Fr F H (upd (upd H y (.lst (l.map V.int))) (ad .stacks) (.lst (((List.range S.stacks.length).map fun i => V.ref (ad (.stack i))).set i (.ref y)))) := by
  obtain ⟨h1, h2, dx, dp, h3⟩ := id h
  have ny : ∀ {r : Ro}, r.ok S → ad r ≠ y := fun hr e => by
    obtain ⟨u, hu⟩ := h.has hr
    rw [e, hy] at hu
    cases hu
  have oks : ∀ {r : Ro}, r.ok { S with stacks := S.stacks.set i l } ↔ r.ok S := fun {r} => by cases r <;> simp [Ro.ok]
  have mv : ∀ {r : Ro}, r ≠ .stack i → moveTo ad (.stack i) y r = ad r := fun e => move_off e
  have si : Ro.ok S (.stack i) := hi
  refine ⟨⟨moveTo ad (.stack i) y, ⟨by rw [mv (r := .obj) (by simp)]; exact h1, fun r r' hr hr' e => ?_, dx, dp, fun r hr => ?_⟩, fun b => ?_⟩, ?_⟩
  · have hr := oks.mp hr
    have hr' := oks.mp hr'
    by_cases q : r = .stack i
    · by_cases q' : r' = .stack i
      · rw [q, q']
      · rw [q, move_at, mv q'] at e
        exact absurd e.symm (ny hr')
    · by_cases q' : r' = .stack i
      · rw [q', move_at, mv q] at e
        exact absurd e (ny hr)
      · rw [mv q, mv q'] at e
        exact h2 _ _ hr hr' e
  · have hr := oks.mp hr
    by_cases q : r = .stack i
    · subst q
      rw [move_at, upd_ne (fun e => ny (r := .stacks) trivial e.symm), upd_same]
      show _ = some (HO.lst (((S.stacks.set i l).getD i []).map V.int))
      rw [List.getD_eq_getElem?_getD, List.getElem?_set_self hi]
      rfl
    · rw [mv q]
      by_cases e : r = .stacks
      · subst e
        rw [upd_same]
        show _ = some (HO.lst ((List.range (S.stacks.set i l).length).map fun j => V.ref (moveTo ad (.stack i) y (.stack j))))
        congr 2
        apply List.ext_getElem?
        intro j
        rw [List.length_set, List.getElem?_map]
        by_cases jl : j < S.stacks.length
        · rw [List.getElem?_range jl]
          by_cases ij : i = j
          · subst ij
            rw [List.getElem?_set_self (by simpa using jl)]
            show _ = some (V.ref (moveTo ad (.stack i) y (.stack i)))
            rw [move_at]
          · rw [List.getElem?_set_ne ij, refs_at jl]
            show _ = some (V.ref (moveTo ad (.stack i) y (.stack j)))
            rw [mv (fun e => ij (by simpa using e.symm))]
        · rw [List.getElem?_eq_none (by simp; omega), List.getElem?_eq_none (by simp; omega)]
          rfl
      · rw [upd_ne (fun z => e (h2 _ _ hr trivial z)), upd_ne (ny hr), h3 r hr]
        cases r with
        | obj =>
          show some (HO.ins C dx (fatesO C dx S (ad .work) (ad .states) (ad .stacks) (ad .parts) ++ more)) = some (HO.ins C dx (fatesO C dx _ (moveTo ad (.stack i) y .work) (moveTo ad (.stack i) y .states) (moveTo ad (.stack i) y .stacks) (moveTo ad (.stack i) y .parts) ++ more))
          rw [mv (r := .work) (by simp), mv (r := .states) (by simp), mv (r := .stacks) (by simp), mv (r := .parts) (by simp)]
          rfl
        | stack j =>
          have ij : i ≠ j := fun e => q (by rw [e])
          show some (HO.lst ((S.stacks.getD j []).map V.int)) = some (HO.lst (((S.stacks.set i l).getD j []).map V.int))
          rw [List.getD_eq_getElem?_getD, List.getD_eq_getElem?_getD, List.getElem?_set_ne ij]
        | parts =>
          show some (HO.lst _) = some (HO.lst ((List.range S.parts.length).map fun j => V.ref (moveTo ad (.stack i) y (.part j))))
          congr 2
        | stacks => exact absurd rfl e
        | _ => rfl
  · constructor
    · rintro ⟨hb | rfl, n⟩
      · obtain ⟨r, hr, rfl⟩ := (hF b).mp hb
        exact ⟨r, oks.mpr hr, mv (fun e => n (by rw [e]))⟩
      · exact ⟨.stack i, oks.mpr si, move_at⟩
    · rintro ⟨r, hr, rfl⟩
      have hr := oks.mp hr
      by_cases q : r = .stack i
      · rw [q, move_at]
        exact ⟨.inr rfl, fun e => ny si e.symm⟩
      · rw [mv q]
        exact ⟨.inl (h.foot hF hr), fun e => q (h2 _ _ hr si e)⟩
  · intro b u hb n
    have n1 : b ≠ ad .stacks := fun e => n (by rw [e]; exact h.foot hF (r := .stacks) trivial)
    rw [upd_ne n1, upd_ne (fun e => by rw [e, hy] at hb; cases hb)]
    exact hb
/-! ### fields -/
theorem put_done {dx w s k p : Addr} {i : Int} : putF "_done" (.int i) (fatesO C dx S w s k p ++ more) = fatesO C dx { S with done := i } w s k p ++ more := by
  simp [fatesO, putF]
theorem put_commits {dx w s k p : Addr} {i : Int} : putF "_commits" (.int i) (fatesO C dx S w s k p ++ more) = fatesO C dx { S with moment := i } w s k p ++ more := by
  simp [fatesO, putF, show ¬ (("_done" : Str) = "_commits") by decide +kernel]
end
end Rm
namespace Rm
open PySem PySem.Spec L2
open PyProof.Rows hiding St
/-- the methods' names -/
def FMeth : List Str := ["begin", "save", "release", "back", "prepare", "commit", "abort", "crash", "operations", "moment", "running", "state", "parts", "root", "owner", "fate", "transaction", "around", "joined_at", "ended_at", "is_transaction", "is_part",
  "_count_operation", "_check_known", "_check_running", "_check_free", "_check_part", "_open_part", "_take_innermost", "_end_part", "_end_transaction"]
/-- what a derived class has besides is no method -/
structure MO (more : List (Str × V)) : Prop where
  len : more.length < 900
  no : ∀ m ∈ FMeth, more.lookup m = none
theorem fmeth_six : ∀ m ∈ FMeth, (m == ("_done" : Str)) = false ∧ (m == ("_commits" : Str)) = false ∧ (m == ("_at_work" : Str)) = false ∧ (m == ("_states" : Str)) = false ∧ (m == ("_stacks" : Str)) = false ∧ (m == ("_all_parts" : Str)) = false := by decide +kernel
theorem MO.free {more : List (Str × V)} (mo : MO more) {m : Str} (hm : m ∈ FMeth) {C dx w s k p : Addr} {S : FS} : (fatesO C dx S w s k p ++ more).lookup m = none := by
  obtain ⟨h1, h2, h3, h4, h5, h6⟩ := fmeth_six m hm
  simp only [fatesO, List.cons_append, List.nil_append, List.lookup_cons, h1, h2, h3, h4, h5, h6]
  exact mo.no m hm
theorem MO.size {more : List (Str × V)} (mo : MO more) {C dx w s k p : Addr} {S : FS} : (fatesO C dx S w s k p ++ more).length < 1000 := by
  have := mo.len
  simp [fatesO]
  omega
end Rm
namespace Rm
open PySem PySem.Spec L2
open PyProof.Rows hiding St
/-- a part is opened -/
def FS.opn (S : FS) (i : Nat) (o : Option Int) : FS :=
  { S with parts := S.parts ++ [⟨(i : Int) + 1, o, none, none, "open"⟩], stacks := S.stacks.set i (S.stacks.getD i [] ++ [(S.parts.length : Int) + 1]) }
def spPartI (CP : Addr) : Sp := fun vs H Q _ => ∃ q dx n o, vs = [.ref q, .int n, oI o] ∧ H q = some (.ins CP dx []) ∧ Q .non (upd H q (partO CP dx ⟨n, o, none, none, "open"⟩))
def spOpen (C CP : Addr) (more : List (Str × V)) : Sp := fun vs H Q _ => ∃ a i o S F l, vs = [.ref a, .int ((i : Nat) + 1), oI o] ∧ FsA C CP more H a S F ∧ S.stacks[i]? = some l ∧ S.parts.length ≤ 1000 ∧ l.length ≤ 1000 ∧
  ∀ H' F', FsA C CP more H' a (S.opn i o) F' → Fr F H H' → Grow F F' H → Q (.int ((S.parts.length : Int) + 1)) H'
theorem sz1000 {n : Nat} (h : n ≤ 1000) : n < sizeLine := Nat.lt_of_le_of_lt h (by decide)
end Rm
namespace Rm
open PySem PySem.Spec L2
open PyProof.Rows hiding St
theorem ne_ho : ¬ (("holder" : Str) = "outer") := by decide +kernel
theorem ne_hr : ¬ (("holder" : Str) = "released") := by decide +kernel
theorem ne_he : ¬ (("holder" : Str) = "ended") := by decide +kernel
theorem ne_hc : ¬ (("holder" : Str) = "outcome") := by decide +kernel
theorem ne_or : ¬ (("outer" : Str) = "released") := by decide +kernel
theorem ne_oe : ¬ (("outer" : Str) = "ended") := by decide +kernel
theorem ne_oc : ¬ (("outer" : Str) = "outcome") := by decide +kernel
theorem ne_re : ¬ (("released" : Str) = "ended") := by decide +kernel
theorem ne_rc : ¬ (("released" : Str) = "outcome") := by decide +kernel
theorem ne_ec : ¬ (("ended" : Str) = "outcome") := by decide +kernel
theorem part_new {CP dx : Addr} {n : Int} {o : Option Int} : HO.ins CP dx (putF "outcome" (.str "open") (putF "ended" .non (putF "released" .non (putF "outer" (oI o) (putF "holder" (.int n) []))))) = partO CP dx ⟨n, o, none, none, "open"⟩ := by
  simp [putF, partO, oI, ne_ho, ne_hr, ne_he, ne_hc, ne_or, ne_oe, ne_oc, ne_re, ne_rc, ne_ec]
theorem part_rel {CP dx : Addr} {p : PI} {i : Int} : HO.ins CP dx (putF "released" (.int i) [("holder", .int p.holder), ("outer", oI p.outer), ("released", oI p.released), ("ended", oI p.ended), ("outcome", .str p.outcome)]) = partO CP dx { p with released := some i } := by
  simp [putF, partO, oI, ne_hr, ne_or]
theorem part_end {CP dx : Addr} {p : PI} {i : Int} {z : Str} : HO.ins CP dx (putF "ended" (.int i) (putF "outcome" (.str z) [("holder", .int p.holder), ("outer", oI p.outer), ("released", oI p.released), ("ended", oI p.ended), ("outcome", .str p.outcome)])) = partO CP dx { p with ended := some i, outcome := z } := by
  simp [putF, partO, oI, ne_he, ne_hc, ne_oe, ne_oc, ne_re, ne_rc, ne_ec]
end Rm
namespace Rm
open PySem PySem.Spec L2
open PyProof.Rows hiding St
theorem refs_atI {n i : Nat} {f : Nat → Addr} (h : i < n) : atI ((List.range n).map fun i => V.ref (f i)) ((i : Int) + 1 - 1) = some (.ref (f i)) := by
  rw [Int.add_sub_cancel]
  exact atI_nat (refs_at h)
theorem Fr.then {F F' : Addr → Prop} {H H1 H2 : Hp} (a : Fr F H H1) (g : Grow F F' H) (b : Fr F' H1 H2) : Fr F H H2 := a.trans g b
end Rm
namespace Rm
open PySem PySem.Spec L2
open PyProof.Rows hiding St
/-- the lists fit each other and are short -/
structure FS.Wf (S : FS) : Prop where
  ls : S.stacks.length = S.states.length
  n : S.states.length ≤ 900
  p : S.parts.length ≤ 900
  k : ∀ l ∈ S.stacks, l.length ≤ 900
  w : S.work.length ≤ 900
  ne : ∀ (i : Nat) (z : Str) (l : List Int), S.states[i]? = some z → ¬ (z = "committed" ∨ z = "aborted") → S.stacks[i]? = some l → l ≠ []
  kp : ∀ l ∈ S.stacks, ∀ q ∈ l, 1 ≤ q ∧ q ≤ (S.parts.length : Int)
  wk : ∀ (i : Nat) (z : Str), S.states[i]? = some z → ¬ (z = "committed" ∨ z = "aborted") → ((i : Int) + 1) ∈ S.work
  nd : S.work.Nodup
  wr : ∀ n ∈ S.work, 1 ≤ n ∧ n ≤ (S.states.length : Int)
/-- one transaction more -/
def FS.beg (S : FS) : FS :=
  ({ S with done := S.done + 1, states := S.states ++ [("running" : Str)], stacks := S.stacks ++ [[]], work := S.work ++ [(S.states.length : Int) + 1] } : FS).opn S.states.length none
def spBegin (C CP : Addr) (more : List (Str × V)) (EE : EA) : Sp := fun vs H Q E => ∃ a S F, vs = [.ref a] ∧ FsA C CP more H a S F ∧ S.Wf ∧
  (S.work.length < 8 → ∀ H' F', FsA C CP more H' a S.beg F' → Fr F H H' → Grow F F' H → Q (.int ((S.states.length : Int) + 1)) H') ∧ (8 ≤ S.work.length → Out EE E H .tm (.int 8))
end Rm

set_option maxRecDepth 100000
set_option maxHeartbeats 4000000
namespace Rm
open PySem PySem.Spec L2
open PyProof.Rows hiding St

/-! ### the operations, as plain data -/
def FS.sk (S : FS) : PyData → List Int
  | .int i => S.stacks.getD (i - 1).toNat []
  | _ => []
def FS.savE (S : FS) (d : PyData) : Option Ek := match S.fr d with
  | some k => some k
  | none => if 5 ≤ (S.sk d).length then some .tm else none
def FS.tkE (S : FS) (d : PyData) : Option Ek := match S.fr d with
  | some k => some k
  | none => if (S.sk d).length = 1 then some .fp else none
def FS.prE (S : FS) (d : PyData) : Option Ek := match S.fr d with
  | some k => some k
  | none => if 1 < (S.sk d).length then some .so else none
def lastI (l : List Int) : Int := l.getLast?.getD 0
def FS.sav (S : FS) (i : Nat) : FS := S.cnt.opn i (some (lastI (S.stacks.getD i [])))
def FS.tk (S : FS) (i : Nat) : FS := { S.cnt with stacks := S.stacks.set i (S.stacks.getD i []).dropLast }
def FS.mdP (S : FS) (q : Int) (f : PI → PI) : FS := { S with parts := S.parts.modify (q - 1).toNat f }
def FS.endP (S : FS) (q : Int) (z : Str) : FS := S.mdP q fun p => { p with ended := some S.done, outcome := z }
def FS.rel (S : FS) (i : Nat) : FS := (S.tk i).mdP (lastI (S.stacks.getD i [])) fun p => { p with released := some (S.done + 1) }
def FS.bak (S : FS) (i : Nat) : FS := (S.tk i).endP (lastI (S.stacks.getD i [])) "rolled back"
def FS.prep (S : FS) (i : Nat) : FS := { S.cnt with states := S.states.set i "prepared" }
def FS.endAll (S : FS) (z : Str) (l : List Int) : FS := l.foldl (fun S q => S.endP q z) S
def FS.endT (S : FS) (i : Nat) (st z : Str) : FS :=
  { S.endAll z (S.stacks.getD i []) with stacks := S.stacks.set i [], states := S.states.set i st, work := S.work.erase ((i : Int) + 1) }
def FS.com (S : FS) (i : Nat) : FS := ({ S.cnt with moment := S.moment + 1 } : FS).endT i "committed" "committed"
def FS.abo (S : FS) (i : Nat) : FS := S.cnt.endT i "aborted" "rolled back"
def kv (k : Ek) (x : V) : V := match k with
  | .tm => .int 5
  | _ => x
/-- an operation of a number -/
def spNum (K : PySem.W.Frag) (C CP : Addr) (more : List (Str × V)) (EE : EA) (er : FS → PyData → Option Ek) (op : FS → Nat → FS) (res : FS → Nat → V) : Sp := fun vs H Q E => ∃ a x d S F, vs = [.ref a, x] ∧ FsA C CP more H a S F ∧ Dx K H x d ∧ S.Wf ∧
  (∀ k, er S d = some k → ∀ H', Same H H' → Out EE E H' k (kv k x)) ∧
  ∀ i : Nat, d = .int ((i : Int) + 1) → i < S.states.length → er S d = none → ∀ H' F', FsA C CP more H' a (op S i) F' → Fr F H H' → Grow F F' H → Q (res S i) H'
theorem modify_set {l : List PI} {j : Nat} {p : PI} {f : PI → PI} (h : l[j]? = some p) : l.set j (f p) = l.modify j f := by
  apply List.ext_getElem?
  intro i
  rw [List.getElem?_modify]
  by_cases e : j = i
  · subst e
    have hl := (List.getElem?_eq_some_iff.mp h).1
    rw [List.getElem?_set_self hl, h]
    simp
  · rw [List.getElem?_set_ne e]
    simp [e]
theorem lastI_at {l : List Int} (h : l ≠ []) : atI (l.map V.int) (-1) = some (.int (lastI l)) := by
  have hp : 0 < l.length := List.length_pos_iff.mpr h
  unfold atI ixN
  rw [if_neg (by decide), List.length_map, if_pos (by omega)]
  show (l.map V.int)[((-1 : Int) + l.length).toNat]? = _
  rw [List.getElem?_map, show ((-1 : Int) + l.length).toNat = l.length - 1 by omega]
  unfold lastI
  rw [List.getLast?_eq_getElem?]
  rw [List.getElem?_eq_getElem (by omega)]
  rfl
theorem lastI_get {l : List Int} (h : l ≠ []) : (l.map V.int)[(l.map V.int).length - 1]? = some (.int (lastI l)) := by
  have hp : 0 < l.length := List.length_pos_iff.mpr h
  rw [List.length_map, List.getElem?_map]
  unfold lastI
  rw [List.getLast?_eq_getElem?, List.getElem?_eq_getElem (by omega)]
  rfl
theorem lastI_mem {l : List Int} (h : l ≠ []) : lastI l ∈ l := by
  unfold lastI
  rw [List.getLast?_eq_some_getLast h]
  exact List.getLast_mem h
theorem sk_at {S : FS} {i : Nat} : S.sk (.int ((i : Int) + 1)) = S.stacks.getD i [] := by
  unfold FS.sk
  simp
theorem FS.Wf.stk {S : FS} (wf : S.Wf) {i : Nat} (hi : i < S.states.length) : S.stacks[i]? = some (S.stacks.getD i []) := by
  have h : i < S.stacks.length := by rw [wf.ls]; exact hi
  rw [List.getD_eq_getElem?_getD, List.getElem?_eq_getElem h]
  rfl
theorem FS.Wf.nel {S : FS} (wf : S.Wf) {i : Nat} (hi : i < S.states.length) (h : S.ru (.int ((i : Int) + 1)) = none) : S.stacks.getD i [] ≠ [] :=
  wf.ne i _ _ (FS.st_at hi) (FS.ru_none h).2 (wf.stk hi)
theorem FS.Wf.mem {S : FS} (wf : S.Wf) {i : Nat} (hi : i < S.states.length) : S.stacks.getD i [] ∈ S.stacks := List.mem_of_getElem? (wf.stk hi)
end Rm
namespace Rm
open PySem PySem.Spec L2
open PyProof.Rows hiding St
def spEndP (C CP : Addr) (more : List (Str × V)) : Sp := fun vs H Q _ => ∃ a q z S F, vs = [.ref a, .int q, .str z] ∧ FsA C CP more H a S F ∧ 1 ≤ q ∧ q ≤ S.parts.length ∧
  ∀ H', FsA C CP more H' a (S.endP q z) F → (∀ ad, FsAt C CP more H a S ad → FsAt C CP more H' a (S.endP q z) ad) → Fr F H H' → Q .non H'
end Rm
namespace Rm
open PySem PySem.Spec L2
open PyProof.Rows hiding St
theorem fr_cases {S : FS} {d : PyData} {k : Ek} (h : S.fr d = some k) : k = .ut ∨ k = .en ∨ k = .pr := by
  unfold FS.fr at h
  cases h1 : S.ru d with
  | some k' =>
    rw [h1] at h
    dsimp only at h
    cases h
    unfold FS.ru at h1
    cases h2 : S.kn d with
    | some k2 =>
      rw [h2] at h1
      dsimp only at h1
      cases h1
      unfold FS.kn at h2
      split at h2
      · cases h2
      · cases h2; exact .inl rfl
    | none =>
      rw [h2] at h1
      dsimp only at h1
      split at h1
      · cases h1; exact .inr (.inl rfl)
      · cases h1
  | none =>
    rw [h1] at h
    dsimp only at h
    split at h
    · cases h; exact .inr (.inr rfl)
    · cases h
theorem fr_kv {S : FS} {d : PyData} {k : Ek} {x : V} (h : S.fr d = some k) : kv k x = x := by
  rcases fr_cases h with rfl | rfl | rfl <;> rfl
theorem ru_kv {S : FS} {d : PyData} {k : Ek} {x : V} (h : S.ru d = some k) : kv k x = x := fr_kv (S := S) (d := d) (by unfold FS.fr; rw [h])
end Rm
namespace Rm
open PySem PySem.Spec L2
open PyProof.Rows hiding St
section
variable {S : FS} {d : PyData}
theorem tkE_some (h : S.fr d = none) (c : (S.sk d).length = 1) : S.tkE d = some .fp := by
  unfold FS.tkE; rw [h]; exact if_pos c
theorem tkE_none (h : S.fr d = none) (c : ¬ (S.sk d).length = 1) : S.tkE d = none := by
  unfold FS.tkE; rw [h]; exact if_neg c
theorem tkE_fr {k : Ek} (h : S.fr d = some k) : S.tkE d = some k := by
  unfold FS.tkE; rw [h]
theorem savE_some (h : S.fr d = none) (c : 5 ≤ (S.sk d).length) : S.savE d = some .tm := by
  unfold FS.savE; rw [h]; exact if_pos c
theorem savE_none (h : S.fr d = none) (c : ¬ 5 ≤ (S.sk d).length) : S.savE d = none := by
  unfold FS.savE; rw [h]; exact if_neg c
theorem savE_fr {k : Ek} (h : S.fr d = some k) : S.savE d = some k := by
  unfold FS.savE; rw [h]
theorem prE_some (h : S.fr d = none) (c : 1 < (S.sk d).length) : S.prE d = some .so := by
  unfold FS.prE; rw [h]; exact if_pos c
theorem prE_none (h : S.fr d = none) (c : ¬ 1 < (S.sk d).length) : S.prE d = none := by
  unfold FS.prE; rw [h]; exact if_neg c
theorem prE_fr {k : Ek} (h : S.fr d = some k) : S.prE d = some k := by
  unfold FS.prE; rw [h]
end
end Rm
namespace Rm
open PySem PySem.Spec L2
open PyProof.Rows hiding St
section
variable {C CP : Addr} {more : List (Str × V)} {H H' : Hp} {a : Addr} {S : FS} {ad ad' : Ro → Addr} {F : Addr → Prop}
theorem FsAt.uniq (h : FsAt C CP more H a S ad) (h' : FsAt C CP more H a S ad') : ∀ r : Ro, r.ok S → ad' r = ad r := by
  obtain ⟨dx, lk⟩ := h.look
  obtain ⟨dx', lk'⟩ := h'.look
  have e := Option.some.inj (lk.o.symm.trans lk'.o)
  simp only [HO.ins.injEq, true_and, fatesO, List.cons_append, List.nil_append, List.cons.injEq, Prod.mk.injEq, V.ref.injEq] at e
  obtain ⟨_, ew, es, ek, ep, _⟩ := e
  intro r hr
  cases r with
  | obj => rw [h.at_, h'.at_]
  | work => exact ew.symm
  | states => exact es.symm
  | stacks => exact ek.symm
  | parts => exact ep.symm
  | stack i =>
    have k1 := lk.k
    have k2 := lk'.k
    rw [← ek, k1] at k2
    have e2 : ((List.range S.stacks.length).map fun i => V.ref (ad (.stack i))) = (List.range S.stacks.length).map fun i => V.ref (ad' (.stack i)) := by
      simpa only [Option.some.injEq, HO.lst.injEq] using k2
    have e3 := congrArg (fun l : List V => l[i]?) e2
    rw [refs_at hr, refs_at hr] at e3
    exact (V.ref.inj (Option.some.inj e3)).symm
  | part i =>
    have k1 := lk.p
    have k2 := lk'.p
    rw [← ep, k1] at k2
    have e2 : ((List.range S.parts.length).map fun i => V.ref (ad (.part i))) = (List.range S.parts.length).map fun i => V.ref (ad' (.part i)) := by
      simpa only [Option.some.injEq, HO.lst.injEq] using k2
    have e3 := congrArg (fun l : List V => l[i]?) e2
    rw [refs_at hr, refs_at hr] at e3
    exact (V.ref.inj (Option.some.inj e3)).symm
theorem FsAt.congr (h : FsAt C CP more H a S ad) (e : ∀ r : Ro, r.ok S → ad' r = ad r) : FsAt C CP more H a S ad' := by
  obtain ⟨h1, h2, dx, dp, h3⟩ := h
  refine ⟨(e .obj trivial).trans h1, fun r r' hr hr' q => h2 r r' hr hr' (by rw [← e r hr, ← e r' hr', q]), dx, dp, fun r hr => ?_⟩
  rw [e r hr, h3 r hr]
  cases r with
  | obj => simp only [cont, e .work trivial, e .states trivial, e .stacks trivial, e .parts trivial]
  | stacks =>
    simp only [cont]
    congr 2
    exact List.map_congr_left fun i hi => by rw [e (.stack i) (List.mem_range.mp hi)]
  | parts =>
    simp only [cont]
    congr 2
    exact List.map_congr_left fun i hi => by rw [e (.part i) (List.mem_range.mp hi)]
  | _ => rfl
end
/-- an operation of a number that keeps the places -/
def spNumK (K : PySem.W.Frag) (C CP : Addr) (more : List (Str × V)) (EE : EA) (er : FS → PyData → Option Ek) (op : FS → Nat → FS) (res : FS → Nat → V) : Sp := fun vs H Q E => ∃ a x d S F, vs = [.ref a, x] ∧ FsA C CP more H a S F ∧ Dx K H x d ∧ S.Wf ∧
  (∀ k, er S d = some k → ∀ H', Same H H' → Out EE E H' k (kv k x)) ∧
  ∀ i : Nat, d = .int ((i : Int) + 1) → i < S.states.length → er S d = none → ∀ H', FsA C CP more H' a (op S i) F → (∀ ad, FsAt C CP more H a S ad → FsAt C CP more H' a (op S i) ad) → Fr F H H' → Q (res S i) H'
end Rm
namespace Rm
open PySem PySem.Spec L2
open PyProof.Rows hiding St
theorem FsA.setStackAt {C CP : Addr} {more : List (Str × V)} {H : Hp} {a : Addr} {S : FS} {ad : Ro → Addr} {F : Addr → Prop} {i : Nat} {l : List Int} (h : FsAt C CP more H a S ad) (hF : ∀ b, F b ↔ Foot S ad b) (hi : i < S.stacks.length) :
    (FsAt C CP more (upd H (ad (.stack i)) (.lst (l.map V.int))) a { S with stacks := S.stacks.set i l } ad ∧ True) ∧ Fr F H (upd H (ad (.stack i)) (.lst (l.map V.int))) := by
  obtain ⟨⟨ad', h', _⟩, fr⟩ := FsA.setStack (l := l) h hF hi
  refine ⟨⟨?_, trivial⟩, fr⟩
  refine h.put hi (fun r' => by cases r' <;> simp [Ro.ok]) (fun _ _ _ => ?_) fun dx dp r' hr ne => ?_
  · show _ = HO.lst (((S.stacks.set i l).getD i []).map V.int)
    rw [List.getD_eq_getElem?_getD, List.getElem?_set_self hi]
    rfl
  · cases r' with
    | stack j =>
      have nj : i ≠ j := fun e => ne (by rw [e])
      show HO.lst (((S.stacks.set i l).getD j []).map V.int) = HO.lst ((S.stacks.getD j []).map V.int)
      rw [List.getD_eq_getElem?_getD, List.getElem?_set_ne nj, ← List.getD_eq_getElem?_getD]
    | stacks =>
      show HO.lst ((List.range (S.stacks.set i l).length).map _) = _
      rw [List.length_set]
      rfl
    | _ => rfl
theorem FsAt.same {C CP : Addr} {more : List (Str × V)} {H H' : Hp} {a : Addr} {S : FS} {ad : Ro → Addr} (h : FsAt C CP more H a S ad) (s : Same H H') : FsAt C CP more H' a S ad := h.up fun r hr => by
  obtain ⟨u, hu⟩ := h.has hr
  rw [hu]
  exact s _ _ hu
end Rm
namespace Rm
open PySem PySem.Spec L2
open PyProof.Rows hiding St
def spEndT (C CP : Addr) (more : List (Str × V)) : Sp := fun vs H Q _ => ∃ a i st z S F, vs = [.ref a, .int ((i : Nat) + 1), .str st, .str z] ∧ FsA C CP more H a S F ∧ i < S.states.length ∧ i < S.stacks.length ∧
  (S.stacks.getD i []).length ≤ 900 ∧ (∀ q ∈ S.stacks.getD i [], 1 ≤ q ∧ q ≤ (S.parts.length : Int)) ∧ ((i : Int) + 1) ∈ S.work ∧
  ∀ H' F', FsA C CP more H' a (S.endT i st z) F' → Fr F H H' → Grow F F' H → Q .non H'
end Rm
namespace Rm
open PySem PySem.Spec L2
open PyProof.Rows hiding St
theorem ixN_at {n j : Nat} (h : j < n) : ixN n (j : Int) = some j := by
  unfold ixN
  rw [if_pos (by omega), if_pos (by omega)]
  simp
theorem FsAt.setPartAt {C CP : Addr} {more : List (Str × V)} {H : Hp} {a : Addr} {S : FS} {ad : Ro → Addr} {i : Nat} {p : PI} (h : FsAt C CP more H a S ad) (hi : i < S.parts.length) {dx : Addr} (hd : ∃ p0, H (ad (.part i)) = some (partO CP dx p0)) :
    FsAt C CP more (upd H (ad (.part i)) (partO CP dx p)) a { S with parts := S.parts.set i p } ad := by
  refine h.put (r := .part i) hi (fun r' => by cases r' <;> simp [Ro.ok]) (fun dx0 dp h3 => ?_) fun dx dp r' hr ne => ?_
  · show _ = (match (S.parts.set i p)[i]? with | some p => partO CP (dp i) p | none => HO.lst [])
    rw [List.getElem?_set_self hi]
    obtain ⟨p0, hd⟩ := hd
    have e := h3 (.part i) hi
    rw [hd] at e
    have e2 : partO CP dx p0 = (match S.parts[i]? with | some p => partO CP (dp i) p | none => HO.lst []) := Option.some.inj e
    rw [List.getElem?_eq_getElem hi] at e2
    have e3 : dx = dp i := by
      simp only [partO, HO.ins.injEq] at e2
      exact e2.2.1
    rw [e3]
  · cases r' with
    | part j =>
      have nj : i ≠ j := fun e => ne (by rw [e])
      show (match (S.parts.set i p)[j]? with | some p => partO CP (dp j) p | none => HO.lst []) = (match S.parts[j]? with | some p => partO CP (dp j) p | none => HO.lst [])
      rw [List.getElem?_set_ne nj]
    | parts =>
      show HO.lst ((List.range (S.parts.set i p).length).map _) = _
      rw [List.length_set]
      rfl
    | _ => rfl
theorem endAll_keeps (z : Str) : ∀ (l : List Int) (S : FS), (S.endAll z l).stacks = S.stacks ∧ (S.endAll z l).states = S.states ∧ (S.endAll z l).work = S.work ∧ (S.endAll z l).done = S.done ∧ (S.endAll z l).moment = S.moment ∧
    (S.endAll z l).parts.length = S.parts.length
  | [], S => ⟨rfl, rfl, rfl, rfl, rfl, rfl⟩
  | q :: l, S => by
    obtain ⟨h1, h2, h3, h4, h5, h6⟩ := endAll_keeps z l (S.endP q z)
    exact ⟨h1, h2, h3, h4, h5, h6.trans (by simp [FS.endP, FS.mdP])⟩
theorem endAll_next {z : Str} {l : List Int} {n : Nat} {q : Int} {S : FS} (h : l[n]? = some q) : S.endAll z (l.take (n + 1)) = (S.endAll z (l.take n)).endP q z := by
  rw [List.take_succ, h]
  unfold FS.endAll
  rw [List.foldl_append]
  rfl
theorem erase_at {k : Int} : ∀ {ns : List Int}, k ∈ ns → ∃ j, ns[j]? = some k ∧ (∀ m : Nat, m < j → ns[m]? ≠ some k) ∧ ns.eraseIdx j = ns.erase k
  | x :: ns, h => by
    by_cases e : x = k
    · subst e
      exact ⟨0, rfl, fun m hm => absurd hm (Nat.not_lt_zero _), by simp⟩
    · have h' : k ∈ ns := by
        rcases List.mem_cons.mp h with h | h
        · exact absurd h.symm e
        · exact h
      obtain ⟨j, h1, h2, h3⟩ := erase_at h'
      refine ⟨j + 1, by simpa using h1, fun m hm => ?_, ?_⟩
      · cases m with
        | zero => simpa using e
        | succ m => simpa using h2 m (by omega)
      · rw [List.eraseIdx_cons_succ, h3, List.erase_cons_tail (by simpa using e)]
end Rm
namespace Rm
theorem ok_same {S S' : FS} (e1 : S'.stacks.length = S.stacks.length) (e2 : S'.parts.length = S.parts.length) : ∀ r : Ro, r.ok S' ↔ r.ok S := fun r => by
  cases r <;> simp [Ro.ok, e1, e2]
end Rm
namespace Rm
open PySem PySem.Spec L2
open PyProof.Rows hiding St
def FS.isRun (S : FS) (n : Int) : Bool := decide (S.st (.int n) = "running")
def FS.crs (S : FS) : FS := (S.work.filter S.isRun).foldl (fun S n => S.endT (n - 1).toNat "aborted" "rolled back") S.cnt
def spCrash (C CP : Addr) (more : List (Str × V)) : Sp := fun vs H Q _ => ∃ a S F, vs = [.ref a] ∧ FsA C CP more H a S F ∧ S.Wf ∧ ∀ H' F', FsA C CP more H' a S.crs F' → Fr F H H' → Grow F F' H → Q .non H'
end Rm
namespace Rm
open PySem PySem.Spec L2
open PyProof.Rows hiding St
theorem endT_keeps (S : FS) (i : Nat) (st z : Str) : (S.endT i st z).states.length = S.states.length ∧ (S.endT i st z).stacks.length = S.stacks.length ∧ (S.endT i st z).parts.length = S.parts.length ∧
    (∀ j, j ≠ i → (S.endT i st z).stacks.getD j [] = S.stacks.getD j []) ∧ (S.endT i st z).work = S.work.erase ((i : Int) + 1) := by
  obtain ⟨h1, h2, h3, h4, h5, h6⟩ := endAll_keeps z (S.stacks.getD i []) S
  refine ⟨by simp [FS.endT], by simp [FS.endT], h6, fun j hj => ?_, rfl⟩
  show (S.stacks.set i []).getD j [] = _
  rw [List.getD_eq_getElem?_getD, List.getElem?_set_ne (Ne.symm hj), ← List.getD_eq_getElem?_getD]
/-- one running transaction after the other ends -/
def crF (S : FS) (l : List Int) : FS := l.foldl (fun S n => S.endT (n - 1).toNat "aborted" "rolled back") S
theorem crF_keeps : ∀ (l : List Int) (S : FS), (∀ k ∈ l, 1 ≤ k) → (crF S l).states.length = S.states.length ∧ (crF S l).stacks.length = S.stacks.length ∧ (crF S l).parts.length = S.parts.length ∧
    (∀ j : Nat, ((j : Int) + 1) ∉ l → (crF S l).stacks.getD j [] = S.stacks.getD j []) ∧ ∀ k ∈ S.work, k ∉ l → k ∈ (crF S l).work
  | [], S, _ => ⟨rfl, rfl, rfl, fun _ _ => rfl, fun _ h _ => h⟩
  | n :: l, S, hp => by
    obtain ⟨h1, h2, h3, h4, h5⟩ := crF_keeps l (S.endT (n - 1).toNat "aborted" "rolled back") fun k hk => hp k (.tail _ hk)
    obtain ⟨g1, g2, g3, g4, g5⟩ := endT_keeps S (n - 1).toNat "aborted" "rolled back"
    have hn := hp n (.head _)
    refine ⟨h1.trans g1, h2.trans g2, h3.trans g3, fun j hj => ?_, fun k hk hkl => ?_⟩
    · refine (h4 j fun h => hj (.tail _ h)).trans (g4 j fun e => hj ?_)
      have : (j : Int) + 1 = n := by omega
      rw [this]
      exact .head _
    · refine h5 k ?_ fun h => hkl (.tail _ h)
      rw [g5]
      refine (List.mem_erase_of_ne fun e => hkl ?_).mpr hk
      have : k = n := by omega
      rw [this]
      exact .head _
theorem crF_next {S : FS} {l : List Int} {n : Nat} {k : Int} (h : l[n]? = some k) : crF S (l.take (n + 1)) = (crF S (l.take n)).endT (k - 1).toNat "aborted" "rolled back" := by
  rw [List.take_succ, h]
  unfold crF
  rw [List.foldl_append]
  rfl
theorem not_in_take {l : List Int} {n : Nat} {k : Int} (nd : l.Nodup) (h : l[n]? = some k) : k ∉ l.take n := fun hm => by
  obtain ⟨m, hm⟩ := List.mem_iff_getElem?.mp hm
  rw [List.getElem?_take] at hm
  split at hm
  · rename_i lt
    have P := List.pairwise_iff_getElem.mp nd
    obtain ⟨h1, h2⟩ := List.getElem?_eq_some_iff.mp h
    obtain ⟨h3, h4⟩ := List.getElem?_eq_some_iff.mp hm
    exact P m n h3 h1 lt (h4.trans h2.symm)
  · cases hm
end Rm
namespace Rm
open PySem PySem.Spec L2
open PyProof.Rows hiding St
/-- what is asked without change -/
def spGet (C CP : Addr) (more : List (Str × V)) (g : FS → V) : Sp := fun vs H Q _ => ∃ a S F, vs = [.ref a] ∧ FsA C CP more H a S F ∧ Q (g S) H
def spGetL (C CP : Addr) (more : List (Str × V)) (g : FS → List Int) : Sp := fun vs H Q _ => ∃ a S F, vs = [.ref a] ∧ FsA C CP more H a S F ∧ ∀ p, H p = none → Q (.ref p) (upd H p (.lst ((g S).map V.int)))
def spGetN (K : PySem.W.Frag) (C CP : Addr) (more : List (Str × V)) (EE : EA) (q : FS → Nat → VK → Hp → Prop) : Sp := fun vs H Q E => ∃ a x d S F, vs = [.ref a, x] ∧ FsA C CP more H a S F ∧ Dx K H x d ∧ S.Wf ∧
  (∀ k, S.kn d = some k → ∀ H', Same H H' → Out EE E H' k x) ∧ ∀ i : Nat, d = .int ((i : Int) + 1) → i < S.states.length → ∀ H', Same H H' → q S i Q H'
def qSt : FS → Nat → VK → Hp → Prop := fun S i Q H => Q (.str (S.st (.int ((i : Int) + 1)))) H
def qPt : FS → Nat → VK → Hp → Prop := fun S i Q H => ∀ p, H p = none → Q (.ref p) (upd H p (.lst ((S.stacks.getD i []).map V.int)))
def FS.zero : FS := ⟨0, 0, [], [], [], []⟩
def spFInit (C CP : Addr) : Sp := fun vs H Q _ => ∃ a dx, vs = [.ref a] ∧ H a = some (.ins C dx []) ∧
  ∀ H' F, FsA C CP [] H' a .zero F → Fr (fun b => b = a) H H' → Grow (fun b => b = a) F H → Q .non H'
end Rm
namespace Rm
open PySem PySem.Spec L2
open PyProof.Rows hiding St
theorem pf2 {u v : V} : putF "_commits" u (putF "_done" v []) = [(("_done" : Str), v), ("_commits", u)] := by
  simp [putF, show ¬ (("_done" : Str) = "_commits") by decide +kernel]
theorem pf3 {u v x : V} : putF "_at_work" x [(("_done" : Str), v), ("_commits", u)] = [(("_done" : Str), v), ("_commits", u), ("_at_work", x)] := by
  simp [putF, show ¬ (("_done" : Str) = "_at_work") by decide +kernel, show ¬ (("_commits" : Str) = "_at_work") by decide +kernel]
theorem pf4 {u v x y : V} : putF "_states" y [(("_done" : Str), v), ("_commits", u), ("_at_work", x)] = [(("_done" : Str), v), ("_commits", u), ("_at_work", x), ("_states", y)] := by
  simp [putF, show ¬ (("_done" : Str) = "_states") by decide +kernel, show ¬ (("_commits" : Str) = "_states") by decide +kernel, show ¬ (("_at_work" : Str) = "_states") by decide +kernel]
theorem pf5 {u v x y z : V} : putF "_stacks" z [(("_done" : Str), v), ("_commits", u), ("_at_work", x), ("_states", y)] = [(("_done" : Str), v), ("_commits", u), ("_at_work", x), ("_states", y), ("_stacks", z)] := by
  simp [putF, show ¬ (("_done" : Str) = "_stacks") by decide +kernel, show ¬ (("_commits" : Str) = "_stacks") by decide +kernel, show ¬ (("_at_work" : Str) = "_stacks") by decide +kernel, show ¬ (("_states" : Str) = "_stacks") by decide +kernel]
theorem pf6 {u v x y z t : V} : putF "_all_parts" t [(("_done" : Str), v), ("_commits", u), ("_at_work", x), ("_states", y), ("_stacks", z)] = [(("_done" : Str), v), ("_commits", u), ("_at_work", x), ("_states", y), ("_stacks", z), ("_all_parts", t)] := by
  simp [putF, show ¬ (("_done" : Str) = "_all_parts") by decide +kernel, show ¬ (("_commits" : Str) = "_all_parts") by decide +kernel, show ¬ (("_at_work" : Str) = "_all_parts") by decide +kernel, show ¬ (("_states" : Str) = "_all_parts") by decide +kernel, show ¬ (("_stacks" : Str) = "_all_parts") by decide +kernel]
structure Stp (H Hk : Hp) (a y : Addr) (o : HO) (H' : Hp) : Prop where
  fr : Fr (fun b => b = a) H H'
  oa : H' a = some o
  oy : H' y = some (.lst [])
  k : ∀ b u, Hk b = some u → b ≠ a → H' b = some u
  ne : y ≠ a
  n : H y = none
theorem stp {H Hk : Hp} {a y : Addr} {o u : HO} (fr : Fr (fun b => b = a) H Hk) (ha : Hk a = some u) (ny : Hk y = none) : Stp H Hk a y o (upd (upd Hk y (.lst [])) a o) := by
  have ne : y ≠ a := fun e => by rw [e, ha] at ny; cases ny
  refine ⟨fun b v hb n => ?_, upd_same, by rw [upd_ne ne]; exact upd_same, fun b v hb n => ?_, ne, ?_⟩
  · have z := fr b v hb n
    rw [upd_ne n, upd_ne (fun e => by rw [e, ny] at z; cases z)]
    exact z
  · rw [upd_ne n, upd_ne (fun e => by rw [e, ny] at hb; cases hb)]
    exact hb
  · cases z : H y with
    | none => rfl
    | some v =>
      rw [fr y v z ne] at ny
      cases ny
end Rm

set_option maxRecDepth 100000
set_option maxHeartbeats 4000000
namespace Rm
open PySem PySem.Spec L2
open PyProof.Rows hiding St

/-! ### the root of a part -/
structure FS.Tree (S : FS) : Prop where
  up : ∀ (j : Nat) (p : PI) (q : Int), S.parts[j]? = some p → p.outer = some q → 1 ≤ q ∧ q ≤ (j : Int)
  rl : ∀ (j : Nat) (p : PI), S.parts[j]? = some p → p.released.isSome = true → p.outer.isSome = true
def rootN (S : FS) : Nat → Int → Int
  | 0, q => q
  | n + 1, q => match S.parts[(q - 1).toNat]? with
    | some p => if p.released.isSome then rootN S n (p.outer.getD 0) else q
    | none => q
def FS.root (S : FS) (q : Int) : Int := rootN S q.toNat q
theorem rootN_more {S : FS} (t : S.Tree) : ∀ (n : Nat) (q : Int), 1 ≤ q → q ≤ (n : Int) → ∀ m, n ≤ m → rootN S m q = rootN S n q
  | 0, q, h1, h2, _, _ => by omega
  | n + 1, q, h1, h2, m, hm => by
    obtain ⟨m, rfl⟩ : ∃ k, m = k + 1 := ⟨m - 1, by omega⟩
    show (match S.parts[(q - 1).toNat]? with | some p => if p.released.isSome then rootN S m (p.outer.getD 0) else q | none => q) = (match S.parts[(q - 1).toNat]? with | some p => if p.released.isSome then rootN S n (p.outer.getD 0) else q | none => q)
    cases e : S.parts[(q - 1).toNat]? with
    | none => rfl
    | some p =>
      dsimp only
      by_cases r : p.released.isSome = true
      · rw [if_pos r, if_pos r]
        obtain ⟨o, ho⟩ := Option.isSome_iff_exists.mp (t.rl _ _ e r)
        obtain ⟨u1, u2⟩ := t.up _ _ _ e ho
        rw [ho]
        exact rootN_more t n o u1 (by omega) m (by omega)
      · rw [if_neg r, if_neg r]
theorem root_here {S : FS} {j : Nat} {p : PI} (h : S.parts[j]? = some p) (r : p.released = none) : S.root ((j : Int) + 1) = (j : Int) + 1 := by
  unfold FS.root
  rw [show ((j : Int) + 1).toNat = j + 1 by omega]
  show (match S.parts[((j : Int) + 1 - 1).toNat]? with | some p => if p.released.isSome then rootN S j (p.outer.getD 0) else (j : Int) + 1 | none => (j : Int) + 1) = _
  rw [show ((j : Int) + 1 - 1).toNat = j by omega, h]
  simp [r]
theorem root_up {S : FS} (t : S.Tree) {j : Nat} {p : PI} {o : Int} (h : S.parts[j]? = some p) (r : p.released.isSome = true) (ho : p.outer = some o) : S.root ((j : Int) + 1) = S.root o := by
  obtain ⟨u1, u2⟩ := t.up _ _ _ h ho
  unfold FS.root
  rw [show ((j : Int) + 1).toNat = j + 1 by omega]
  show (match S.parts[((j : Int) + 1 - 1).toNat]? with | some p => if p.released.isSome then rootN S j (p.outer.getD 0) else (j : Int) + 1 | none => (j : Int) + 1) = _
  rw [show ((j : Int) + 1 - 1).toNat = j by omega, h]
  dsimp only
  rw [if_pos r, ho]
  exact rootN_more t o.toNat o u1 (by omega) j (by omega)
def FS.kp (S : FS) (d : PyData) : Option Ek := if isW 1 S.parts.length d then none else some .up
theorem FS.kp_none {S : FS} {d : PyData} (h : S.kp d = none) : ∃ i : Nat, d = .int ((i : Int) + 1) ∧ i < S.parts.length := by
  unfold FS.kp at h
  split at h
  · rename_i hw
    obtain ⟨z, rfl, h1, h2⟩ := isW_int hw
    exact ⟨(z - 1).toNat, by congr 1; omega, by omega⟩
  · cases h
/-- a part is asked: what it tells, or UnknownPart -/
def spPt (K : PySem.W.Frag) (C CP : Addr) (more : List (Str × V)) (EE : EA) (g : FS → Int → V) : Sp := fun vs H Q E => ∃ a x d S F, vs = [.ref a, x] ∧ FsA C CP more H a S F ∧ Dx K H x d ∧ S.Wf ∧ S.Tree ∧
  (∀ k, S.kp d = some k → ∀ H', Same H H' → Out EE E H' k x) ∧ ∀ i : Nat, d = .int ((i : Int) + 1) → i < S.parts.length → ∀ H', Same H H' → Q (g S ((i : Int) + 1)) H'
/-- the root is a part -/
theorem root_is {S : FS} (t : S.Tree) : ∀ (n j : Nat), j < n → j < S.parts.length → ∃ i : Nat, S.root ((j : Int) + 1) = (i : Int) + 1 ∧ i < S.parts.length
  | 0, j, h, _ => absurd h (Nat.not_lt_zero _)
  | n + 1, j, h, hj => by
    have hp := List.getElem?_eq_getElem hj
    cases r : S.parts[j].released with
    | none => exact ⟨j, root_here hp r, hj⟩
    | some v =>
      have hr : S.parts[j].released.isSome = true := by rw [r]; rfl
      obtain ⟨o, ho⟩ := Option.isSome_iff_exists.mp (t.rl _ _ hp hr)
      obtain ⟨u1, u2⟩ := t.up _ _ _ hp ho
      obtain ⟨i, rfl⟩ : ∃ i : Nat, o = (i : Int) + 1 := ⟨(o - 1).toNat, by omega⟩
      rw [root_up t hp hr ho]
      exact root_is t n i (by omega) (by omega)
def FS.out (S : FS) (q : Int) : Str := ((S.parts[(q - 1).toNat]?).map PI.outcome).getD ""
theorem out_at {S : FS} {i : Nat} (h : i < S.parts.length) : S.out ((i : Int) + 1) = S.parts[i].outcome := by
  unfold FS.out
  rw [Int.add_sub_cancel, Int.toNat_natCast, List.getElem?_eq_getElem h]
  rfl
end Rm

set_option maxRecDepth 100000
set_option maxHeartbeats 4000000
namespace Rm
open PySem PySem.Spec L2
open PyProof.Rows hiding St

/-! ### max(a list of ints, default=d) -/
def maxI (d : Int) : List Int → Int
  | [] => d
  | n :: ns => ns.foldl max n
theorem maxI_mem {d : Int} {ns : List Int} (h : ns ≠ []) : maxI d ns ∈ ns := by
  cases ns with
  | nil => exact absurd rfl h
  | cons n ns =>
    show ns.foldl max n ∈ n :: ns
    clear h
    induction ns generalizing n with
    | nil => exact .head _
    | cons m ms ih =>
      show ms.foldl max (max n m) ∈ _
      have := ih (max n m)
      rcases List.mem_cons.mp this with e | e
      · rw [e]
        rcases Int.le_total n m with c | c
        · rw [Int.max_eq_right c]; exact .tail _ (.head _)
        · rw [Int.max_eq_left c]; exact .head _
      · exact .tail _ (.tail _ e)
theorem foldl_max_le (ns : List Int) (n : Int) : n ≤ ns.foldl max n ∧ ∀ m ∈ ns, m ≤ ns.foldl max n := by
  induction ns generalizing n with
  | nil => exact ⟨Int.le_refl _, fun m h => by cases h⟩
  | cons m ms ih =>
    obtain ⟨h1, h2⟩ := ih (max n m)
    refine ⟨Int.le_trans (Int.le_max_left _ _) h1, fun k hk => ?_⟩
    rcases List.mem_cons.mp hk with e | hk
    · rw [e]; exact Int.le_trans (Int.le_max_right _ _) h1
    · exact h2 k hk
theorem maxI_le {d : Int} {ns : List Int} {m : Int} (h : m ∈ ns) : m ≤ maxI d ns := by
  cases ns with
  | nil => cases h
  | cons n ns =>
    rcases List.mem_cons.mp h with e | h
    · rw [e]; exact (foldl_max_le ns n).1
    · exact (foldl_max_le ns n).2 m h
def rMaxDf (K : PySem.W.Frag) : List V → List V → Hp → VK → Prop := fun vs zs H Q => ∃ l ns d, vs = [.ref l] ∧ zs = [.int d] ∧ SqL K H l (ns.map V.int) ∧ Q (.int (maxI d ns)) H
theorem call_maxDf {X : Cx} (hc : X.calm = true) (hr : Room 2 X.A) : CallRK X (.builtin "max") ["default"] (rMaxDf X.K) := by
  intro pins s σ H vs us zs ws Q I r rz h
  obtain ⟨l, ns, d, rfl, rfl, hl, hQ⟩ := h
  rw [Vals.ref1 r]
  obtain ⟨its, rv, hls, _⟩ := I.list hl
  cases rz with
  | cons r1 rz =>
    cases rz
    rename_i w1
    show wpAny _ X.A (call (.builtin "max") [.ref l] [(Str.ofString "default", w1)]) _ _ s
    have hi : IntsAre its ns := rv.ints
    refine PySem.W.max_list_datum_default (α := Int) (xs := ns) (I.ok.hd hc) hls.isList (PySem.W.HoldAll.of_ints hi) ?_ (fun e h' tk hk => ?_) fun y ys i v h' tk e hi' hv hk => ?_
    · have := hr.un
      show X.A.units + 1 + 0 < cLine
      omega
    · subst e
      exact ⟨_, H, I.kept hk, r1, hQ⟩
    · subst e
      have e2 : PySem.W.maxOf y ys = ys.foldl max y := by
        unfold PySem.W.maxOf
        congr 1
        funext a b
        show (if decide (a < b) = true then b else a) = max a b
        by_cases c : a < b
        · rw [if_pos (decide_eq_true c)]
          omega
        · rw [if_neg (by simpa using c)]
          omega
      rw [e2] at hv
      obtain ⟨bs, r'⟩ := hv
      have r' : Reads h' v (.int (ys.foldl max y)) bs := r'
      cases r'
      exact ⟨.int _, H, I.kept hk, ⟨_, rfl⟩, hQ⟩

/-! ### versions of a row, as plain data -/
structure RV where
  num : Int
  val : V
  part : Option Int
  mode : V
def VsAt (H : Hp) (D : List (Int × V)) (L : List RV) : Prop := D.map (·.1) = L.map RV.num ∧ ∀ r ∈ L, ∃ tp, valD D r.num = some (.ref tp) ∧ H tp = some (.tup [r.val, oI r.part, r.mode])
theorem VsAt.same {H H' : Hp} {D : List (Int × V)} {L : List RV} (h : VsAt H D L) (s : ∀ b xs, H b = some (.tup xs) → H' b = some (.tup xs)) : VsAt H' D L :=
  ⟨h.1, fun r hr => by
    obtain ⟨tp, h1, h2⟩ := h.2 r hr
    exact ⟨tp, h1, s _ _ h2⟩⟩
/-- the parts that made them are there -/
def PKn (S : FS) (L : List RV) : Prop := ∀ r ∈ L, ∀ q, r.part = some q → 1 ≤ q ∧ q ≤ (S.parts.length : Int)
def FS.ftO (S : FS) : Option Int → Str
  | none => "committed"
  | some q => S.out (S.root q)
def FS.stdL (S : FS) (L : List RV) : List Int := (L.filter fun r => decide (¬ S.ftO r.part = "rolled back")).map RV.num
def FS.bseL (S : FS) (L : List RV) : List Int := (L.filter fun r => decide (S.ftO r.part = "committed")).map RV.num
def FS.bse (S : FS) (L : List RV) : Int := maxI 0 (S.bseL L)
def FS.nwst (S : FS) (L : List RV) : Int := maxI 0 (S.stdL L)
theorem std_mem {S : FS} {L : List RV} {n : Int} (h : n ∈ S.stdL L) : ∃ r ∈ L, r.num = n ∧ ¬ S.ftO r.part = "rolled back" := by
  obtain ⟨r, hr, e⟩ := List.mem_map.mp h
  obtain ⟨h1, h2⟩ := List.mem_filter.mp hr
  exact ⟨r, h1, e, of_decide_eq_true h2⟩
theorem bse_mem {S : FS} {L : List RV} {n : Int} (h : n ∈ S.bseL L) : ∃ r ∈ L, r.num = n ∧ S.ftO r.part = "committed" := by
  obtain ⟨r, hr, e⟩ := List.mem_map.mp h
  obtain ⟨h1, h2⟩ := List.mem_filter.mp hr
  exact ⟨r, h1, e, of_decide_eq_true h2⟩
theorem mem_bse {S : FS} {L : List RV} {r : RV} (h : r ∈ L) (e : S.ftO r.part = "committed") : r.num ∈ S.bseL L :=
  List.mem_map.mpr ⟨r, List.mem_filter.mpr ⟨h, decide_eq_true e⟩, rfl⟩
theorem mem_std {S : FS} {L : List RV} {r : RV} (h : r ∈ L) (e : ¬ S.ftO r.part = "rolled back") : r.num ∈ S.stdL L :=
  List.mem_map.mpr ⟨r, List.mem_filter.mpr ⟨h, decide_eq_true e⟩, rfl⟩
theorem bse_std {S : FS} {L : List RV} {n : Int} (h : n ∈ S.bseL L) : n ∈ S.stdL L := by
  obtain ⟨r, hr, rfl, e⟩ := bse_mem h
  exact mem_std hr (by rw [e]; decide)
/-- the newest one is made by a part, if it is not the base -/
theorem newest_part {S : FS} {L : List RV} (h : ¬ S.nwst L = S.bse L) : ∃ r ∈ L, r.num = S.nwst L ∧ ∃ q, r.part = some q := by
  by_cases e : S.stdL L = []
  · have e2 : S.bseL L = [] := by
      cases e3 : S.bseL L with
      | nil => rfl
      | cons n ns =>
        have := bse_std (S := S) (L := L) (n := n) (by rw [e3]; exact .head _)
        rw [e] at this
        cases this
    exact absurd (by rw [FS.nwst, FS.bse, e, e2]) h
  · obtain ⟨r, hr, e1, e2⟩ := std_mem (maxI_mem (d := 0) e)
    refine ⟨r, hr, e1, ?_⟩
    cases e3 : r.part with
    | some q => exact ⟨q, rfl⟩
    | none =>
      have hb := mem_bse (S := S) hr (by rw [e3]; rfl)
      refine absurd (Int.le_antisymm ?_ ?_) h
      · show maxI 0 (S.stdL L) ≤ _
        rw [← e1]
        exact maxI_le hb
      · exact maxI_le (bse_std (maxI_mem (d := 0) fun z => by rw [z] at hb; cases hb))
def FS.hld (S : FS) (q : Int) : Int := (S.parts[(q - 1).toNat]?).map PI.holder |>.getD 0
def FS.chg (S : FS) (L : List RV) : V := if S.nwst L = S.bse L then .non else match L.find? fun r => decide (r.num = S.nwst L) with
  | some r => .int (S.hld (r.part.getD 0))
  | none => .non
end Rm

set_option maxRecDepth 100000
set_option maxHeartbeats 4000000
namespace K25F
open PySem PySem.Spec L2 Rm
open PyProof.Rows hiding St
def top (i : Nat) : Stmt := PySem.Challenge.pw_rowmarks_k25_versions_that_there_are_non.main.body.getD i (.Pass ⟨0, 0, 0, 0⟩)
abbrev s__wall : Stmt := top 0
abbrev s_UnknownTransaction___init__ : Stmt := inClass (top 3) 0
abbrev s_UnknownPart___init__ : Stmt := inClass (top 4) 0
abbrev s_UnknownVersion___init__ : Stmt := inClass (top 5) 0
abbrev s_Ended___init__ : Stmt := inClass (top 6) 0
abbrev s_Prepared___init__ : Stmt := inClass (top 7) 0
abbrev s_FirstPart___init__ : Stmt := inClass (top 8) 0
abbrev s_TooMany___init__ : Stmt := inClass (top 9) 0
abbrev s_is_whole : Stmt := top 11
abbrev s_is_within : Stmt := top 12
abbrev s_Row___init__ : Stmt := inClass (top 14) 0
abbrev s_Row_make : Stmt := inClass (top 14) 1
abbrev s_Row_standing : Stmt := inClass (top 14) 2
abbrev s_Row_base : Stmt := inClass (top 14) 3
abbrev s_Row_newest : Stmt := inClass (top 14) 4
abbrev s_Row_changer : Stmt := inClass (top 14) 5
abbrev s_Row_kept : Stmt := inClass (top 14) 6
abbrev s_Row_mark : Stmt := inClass (top 14) 7
abbrev s_Row_set_mark : Stmt := inClass (top 14) 8
abbrev s_Row_remove : Stmt := inClass (top 14) 9
abbrev s_Row__check_left : Stmt := inClass (top 14) 10
abbrev s_Row__fate : Stmt := inClass (top 14) 11
abbrev s_Row___getitem__ : Stmt := inClass (top 14) 12
abbrev s_Row___iter__ : Stmt := inClass (top 14) 13
abbrev s_Part___init__ : Stmt := inClass (top 17) 0
abbrev s_Fates___init__ : Stmt := inClass (top 18) 0
abbrev s_Fates_begin : Stmt := inClass (top 18) 1
abbrev s_Fates_save : Stmt := inClass (top 18) 2
abbrev s_Fates_release : Stmt := inClass (top 18) 3
abbrev s_Fates_back : Stmt := inClass (top 18) 4
abbrev s_Fates_prepare : Stmt := inClass (top 18) 5
abbrev s_Fates_commit : Stmt := inClass (top 18) 6
abbrev s_Fates_abort : Stmt := inClass (top 18) 7
abbrev s_Fates_crash : Stmt := inClass (top 18) 8
abbrev s_Fates_operations : Stmt := inClass (top 18) 9
abbrev s_Fates_moment : Stmt := inClass (top 18) 10
abbrev s_Fates_running : Stmt := inClass (top 18) 11
abbrev s_Fates_state : Stmt := inClass (top 18) 12
abbrev s_Fates_parts : Stmt := inClass (top 18) 13
abbrev s_Fates_is_transaction : Stmt := inClass (top 18) 14
abbrev s_Fates_is_part : Stmt := inClass (top 18) 15
abbrev s_Fates_root : Stmt := inClass (top 18) 16
abbrev s_Fates_owner : Stmt := inClass (top 18) 17
abbrev s_Fates_fate : Stmt := inClass (top 18) 18
abbrev s_Fates_transaction : Stmt := inClass (top 18) 19
abbrev s_Fates_around : Stmt := inClass (top 18) 20
abbrev s_Fates_joined_at : Stmt := inClass (top 18) 21
abbrev s_Fates_ended_at : Stmt := inClass (top 18) 22
abbrev s_Fates__count_operation : Stmt := inClass (top 18) 23
abbrev s_Fates__check_known : Stmt := inClass (top 18) 24
abbrev s_Fates__check_running : Stmt := inClass (top 18) 25
abbrev s_Fates__check_free : Stmt := inClass (top 18) 26
abbrev s_Fates__check_part : Stmt := inClass (top 18) 27
abbrev s_Fates__open_part : Stmt := inClass (top 18) 28
abbrev s_Fates__take_innermost : Stmt := inClass (top 18) 29
abbrev s_Fates__end_part : Stmt := inClass (top 18) 30
abbrev s_Fates__end_transaction : Stmt := inClass (top 18) 31
abbrev s__law_tape : Stmt := top 20
abbrev s__law_pick : Stmt := top 21
abbrev s__law_one_of : Stmt := top 22
abbrev s__law_any : Stmt := top 23
abbrev s__law_asked : Stmt := top 24
abbrev s__law_refused : Stmt := top 25
abbrev s__law_named_right : Stmt := top 26
abbrev s_law : Stmt := top 27
/-- the names that are built-in still -/
structure Bl (mg : Str → Option Value) : Prop where
  n_int : mg "int" = none
  n_len : mg "len" = none
  n_isinstance : mg "isinstance" = none
  n_str : mg "str" = none
  n_range : mg "range" = none
  n_max : mg "max" = none
  n_min : mg "min" = none
  n_list : mg "list" = none
  n_repr : mg "repr" = none
  n_enumerate : mg "enumerate" = none
  n_tuple : mg "tuple" = none
  n_sorted : mg "sorted" = none
  n_bool : mg "bool" = none
  n_dict : mg "dict" = none
  n_set : mg "set" = none
  n_ValueError : mg "ValueError" = none
section
variable {P : Program} {w : World} {K : PySem.W.Frag} {mg : Str → Option Value} {base : Heap}
def isI : PyData → Bool
  | .int _ => true
  | _ => false
theorem sc_is_whole : FnScope ["value"] ["value"] (defScope s_is_whole) :=
  ⟨rfl, rfl, rfl, by decide +kernel, rfl, by decide +kernel, by decide +kernel⟩
theorem ok_whole {f : Addr} {fd : FuncData} (F : Fun K "is_whole" "is_whole" s_is_whole f fd) (B : Bl mg) :
    FnG P w K mg base CX0 1 f fd ["value"] (fun vs H Q _ => ∃ x d, vs = [x] ∧ Dx K H x d ∧ Q (.bl (isI d)) H) := by
  refine fn_q F sc_is_whole (fun vs H Q E h => ?_) (fun cdv A outer s H vs Q E hr hG h => ?_)
  · obtain ⟨x, d, rfl, _⟩ := h
    rfl
  · obtain ⟨x, d, rfl, hx, q⟩ := h
    have hu := hu_of hr
    refine ⟨_, (pss_one (ps_ret (pe_and (pe_callB call_isi (by rfl) B.n_isinstance (by decide +kernel) (pa_cons (pv 0) (pa_cons (pe_bltn (v := .ty "int") (u := .type "int") (by rfl) B.n_int (by decide +kernel) rfl) pa_nil))) (pe_one (pe_not (pe_callB call_isi (by rfl) B.n_isinstance (by decide +kernel) (pa_cons (pv 0) (pa_cons (pe_bltn (v := .ty "bool") (u := .type "bool") (by rfl) B.n_bool (by decide +kernel) rfl) pa_nil)))))))), ?_⟩
    refine ⟨x, rfl, x, .ty "int", _, _, _, rfl, .ty _, hx.tyx, kit_kd (T := "int") (by simp) d, ?_⟩
    cases d with
    | bool b => exact ⟨true, rfl, x, rfl, x, .ty "bool", _, _, _, rfl, .ty _, hx.tyx, kit_kd (T := "bool") (by simp) _, true, rfl, q⟩
    | int i => exact ⟨true, rfl, x, rfl, x, .ty "bool", _, _, _, rfl, .ty _, hx.tyx, kit_kd (T := "bool") (by simp) _, false, rfl, q⟩
    | _ => exact ⟨false, rfl, q⟩
theorem sc_is_within : FnScope ["value", "least", "most"] ["value", "least", "most"] (defScope s_is_within) :=
  ⟨rfl, rfl, rfl, by decide +kernel, rfl, by decide +kernel, by decide +kernel⟩
theorem ok_within {f : Addr} {fd : FuncData} (F : Fun K "is_within" "is_within" s_is_within f fd)
    (D_is_whole : Ce P w K mg base CX0 1 "is_whole" ["value"] (fun vs H Q _ => ∃ x d, vs = [x] ∧ Dx K H x d ∧ Q (.bl (isI d)) H)) :
    FnG P w K mg base CX0 2 f fd ["value", "least", "most"] (spWi K) := by
  refine fn_q F sc_is_within (fun vs H Q E h => ?_) (fun cdv A outer s H vs Q E hr hG h => ?_)
  · obtain ⟨x, d, lo, hi, rfl, _⟩ := h
    rfl
  · obtain ⟨x, d, lo, hi, rfl, hx, q⟩ := h
    have hu := hu_of hr
    refine ⟨_, (pss_one (ps_ret (pe_and (pe_ce D_is_whole (hr.mono (by decide)) hG (pa_cons (pv 0) pa_nil) pass0) (pe_one (pe_chain op_le op_le (pv 1) (pv 0) (pv 2)))))), ?_⟩
    refine ⟨x, rfl, x, d, rfl, hx, ?_⟩
    cases d with
    | int i =>
      cases hx
      refine ⟨true, rfl, ?_⟩
      refine ⟨_, rfl, _, rfl, _, _, rfl, rfl, _, rfl, ite2 (fun c => ?_) fun c => ?_⟩
      · refine ⟨_, rfl, _, _, rfl, rfl, ?_⟩
        have q : Q (.bl (decide (lo ≤ i) && decide (i ≤ hi))) H := q
        rw [c, Bool.true_and] at q
        exact q
      · have q : Q (.bl (decide (lo ≤ i) && decide (i ≤ hi))) H := q
        rw [eq_false_of_ne_true c, Bool.false_and] at q
        exact q
    | _ => exact ⟨false, rfl, q⟩
/-! ### what the methods of Fates keep -/
variable {C CP : Addr} {more : List (Str × V)} {EE : EA}
theorem sc_Fates__count_operation : FnScope ["self"] ["self"] (defScope s_Fates__count_operation) :=
  ⟨rfl, rfl, rfl, by decide +kernel, rfl, by decide +kernel, by decide +kernel⟩
theorem ok_count {f : Addr} {fd : FuncData} (F0 : Fun K "_count_operation" "Fates._count_operation" s_Fates__count_operation f fd) (FCC : FC K C) (mo : MO more) :
    FnG P w K mg base CX0 1 f fd ["self"] (spCnt C CP more) := by
  refine fn_q F0 sc_Fates__count_operation (fun vs H Q E h => ?_) (fun cdv A outer s H vs Q E hr hG h => ?_)
  · obtain ⟨a, S, F, rfl, _⟩ := h
    rfl
  · obtain ⟨a, S, F, rfl, ⟨ad, hf, hF⟩, q⟩ := h
    refine ⟨_, (pss_one (ps_fldaug (pv 0) pe_int in_add)), ?_⟩
    obtain ⟨dx, lk⟩ := hf.look
    refine ⟨_, rfl, a, C, dx, _, _, rfl, lk.o, FCC.cls, FCC.n0, rfl, _, _, rfl, rfl, dx, _, lk.o, mo.size, ?_⟩
    rw [put_done]
    obtain ⟨g1, g2⟩ := FsA.ofO (S' := S.cnt) (dx := dx) hf hF lk rfl rfl rfl rfl rfl
    refine q _ g1 (fun ad' hf' => ?_) g2
    obtain ⟨dx', lk'⟩ := hf'.look
    have e := Option.some.inj (lk.o.symm.trans lk'.o)
    simp only [HO.ins.injEq, true_and] at e
    obtain ⟨e1, e2⟩ := e
    subst e1
    refine hf'.setO lk' ?_ rfl rfl rfl rfl
    rw [← put_done (S := S) (i := S.done + 1), e2, put_done]
    rfl
def spIsT (K : PySem.W.Frag) (C CP : Addr) (more : List (Str × V)) (g : FS → Nat) : Sp := fun vs H Q _ => ∃ a x d S F, vs = [.ref a, x] ∧ FsA C CP more H a S F ∧ Dx K H x d ∧ Q (.bl (isW 1 (g S) d)) H
theorem sc_Fates_is_transaction : FnScope ["self", "number"] ["self", "number"] (defScope s_Fates_is_transaction) :=
  ⟨rfl, rfl, rfl, by decide +kernel, rfl, by decide +kernel, by decide +kernel⟩
theorem ok_isT {f : Addr} {fd : FuncData} (F0 : Fun K "is_transaction" "Fates.is_transaction" s_Fates_is_transaction f fd) (B : Bl mg) (FCC : FC K C)
    (D_is_within : Ce P w K mg base CX0 2 "is_within" ["value", "least", "most"] (spWi K)) :
    FnG P w K mg base CX0 3 f fd ["self", "number"] (spIsT K C CP more fun S => S.states.length) := by
  refine fn_q F0 sc_Fates_is_transaction (fun vs H Q E h => ?_) (fun cdv A outer s H vs Q E hr hG h => ?_)
  · obtain ⟨a, x, d, S, F, rfl, _⟩ := h
    rfl
  · obtain ⟨a, x, d, S, F, rfl, ⟨ad, hf, hF⟩, hx, q⟩ := h
    have hu := hu_of hr
    refine ⟨_, (pss_one (ps_ret (pe_ce D_is_within (hr.mono (by decide)) hG (pa_cons (pv 1) (pa_cons pe_int (pa_cons (pe_callB call_len_seq (by rfl) B.n_len (by decide +kernel) (pa_cons (pe_fld (pv 0) rfl) pa_nil)) pa_nil))) pass0))), ?_⟩
    obtain ⟨dx, lk⟩ := hf.look
    refine ⟨_, rfl, _, rfl, a, C, dx, _, _, rfl, lk.o, FCC.cls, FCC.n3, rfl, _, _, rfl, .inl (.inl (.inl lk.s)), x, d, 1, S.states.length, by simp, hx, q⟩
theorem sc_Fates__check_known : FnScope ["self", "number"] ["self", "number"] (defScope s_Fates__check_known) :=
  ⟨rfl, rfl, rfl, by decide +kernel, rfl, by decide +kernel, by decide +kernel⟩
theorem ok_known {f : Addr} {fd : FuncData} (F0 : Fun K "_check_known" "Fates._check_known" s_Fates__check_known f fd) (mo : MO more)
    (M_Fates_is_transaction : Cm P w K mg base CX0 3 C "is_transaction" ["self", "number"] (spIsT K C CP more fun S => S.states.length)) (X_UnknownTransaction : Er P w K mg base "UnknownTransaction" EE.ut "value") :
    FnG P w K mg base (L2.CX P w) 4 f fd ["self", "number"] (spAsk K C CP more EE FS.kn) := by
  refine fn_in F0 sc_Fates__check_known (fun vs H Q E h => ?_) (fun cdv A outer s H vs Q E hr hG h => ?_)
  · obtain ⟨a, x, d, S, F, rfl, _⟩ := h
    rfl
  · obtain ⟨a, x, d, S, F, rfl, hA, hx, hsz, q, e⟩ := h
    have hu := hu_of hr
    refine ⟨_, (pss_one (ps_if (pt_not (pt_val (pe_cm M_Fates_is_transaction (hr.mono (by decide)) hG (pv 0) (pa_cons (pv 1) pa_nil) pass0))) (pss_one (ps_raise rfl (takes_of rfl rfl rfl rfl) (pmk_er X_UnknownTransaction (hr.mono (by decide)) hG (pv 1)))) pss_nil)), ?_⟩
    obtain ⟨ad, hf, hF⟩ := id hA
    obtain ⟨dx, lk⟩ := hf.look
    refine ⟨_, rfl, a, dx, _, rfl, lk.o, mo.free (by decide +kernel), _, rfl, a, x, d, S, F, rfl, hA, hx, ?_⟩
    cases e1 : isW 1 S.states.length d with
    | false => exact ⟨_, rfl, _, rfl, x, rfl, e .ut (by simp [FS.kn, e1]) _ (.refl _)⟩
    | true => exact ⟨_, rfl, q (by simp [FS.kn, e1]) _ (.refl _)⟩
theorem in_two {z a b : Str} (h : inV (V.str z) [V.str a, V.str b] = true) : z = a ∨ z = b := by
  simp only [inV, List.any_cons, List.any_nil, eqV, Bool.or_false, Bool.or_eq_true, beq_iff_eq] at h
  exact h.imp Eq.symm Eq.symm
theorem two_in {z a b : Str} (h : z = a ∨ z = b) : inV (V.str z) [V.str a, V.str b] = true := by
  simp only [inV, List.any_cons, List.any_nil, eqV, Bool.or_false, Bool.or_eq_true, beq_iff_eq]
  exact h.imp Eq.symm Eq.symm
theorem sc_Fates__check_running : FnScope ["self", "number"] ["self", "number"] (defScope s_Fates__check_running) :=
  ⟨rfl, rfl, rfl, by decide +kernel, rfl, by decide +kernel, by decide +kernel⟩
theorem ok_running {f : Addr} {fd : FuncData} (F0 : Fun K "_check_running" "Fates._check_running" s_Fates__check_running f fd) (FCC : FC K C) (mo : MO more)
    (M_Fates__check_known : Cm P w K mg base (L2.CX P w) 4 C "_check_known" ["self", "number"] (spAsk K C CP more EE FS.kn)) (X_Ended : Er P w K mg base "Ended" EE.en "number") :
    FnG P w K mg base (L2.CX P w) 5 f fd ["self", "number"] (spAsk K C CP more EE FS.ru) := by
  refine fn_in F0 sc_Fates__check_running (fun vs H Q E h => ?_) (fun cdv A outer s H vs Q E hr hG h => ?_)
  · obtain ⟨a, x, d, S, F, rfl, _⟩ := h
    rfl
  · obtain ⟨a, x, d, S, F, rfl, hA, hx, hsz, q, e⟩ := h
    have hu := hu_of hr
    refine ⟨_, (pss_cons (ps_expr (pe_cm M_Fates__check_known (hr.mono (by decide)) hG (pv 0) (pa_cons (pv 1) pa_nil) (passes_call (takes_of rfl rfl rfl rfl) (fun _ _ _ _ h => h))))
      (pss_one (ps_if (pt_cmpR op_in_seq (pe_ix ix_list (pe_fld (pv 0) rfl) (pe_op op_sub (pv 1) pe_int) (fun _ _ => rfl)) (pe_tup (pa_cons pe_str (pa_cons pe_str pa_nil))) (by rfl)) (pss_one (ps_raise rfl (takes_of rfl rfl rfl rfl) (pmk_er X_Ended (hr.mono (by decide)) hG (pv 1)))) pss_nil))), ?_⟩
    have hA' := hA
    obtain ⟨ad, hf, hF⟩ := hA'
    obtain ⟨dx, lk⟩ := hf.look
    refine ⟨_, rfl, a, dx, _, rfl, lk.o, mo.free (by decide +kernel), _, rfl, a, x, d, S, F, rfl, hA, hx, hsz, fun hk H1 s1 => ?_, fun k hk => e k (by simp [FS.ru, hk])⟩
    obtain ⟨i, rfl, hi⟩ := FS.kn_none hk
    cases hx
    refine ⟨_, rfl, a, C, dx, _, _, rfl, s1 _ _ lk.o, FCC.cls, FCC.n3, rfl, _, rfl, _, _, rfl, rfl, _, _, _, _, rfl, rfl, .inl (.inl (s1 _ _ lk.s)), st_atI hi, (show 2 ≤ sizeLine by decide), fun T nT => ?_⟩
    have z := s1.trans (same_new (o := .tup [V.str "committed", .str "aborted"]) nT)
    refine ⟨T, _, rfl, .inr (.inl (.inl upd_same)), rfl, rfl, _, rfl, ite2 (fun c => ?_) fun c => ?_⟩
    · have c' : S.st (.int ((i : Int) + 1)) = "committed" ∨ S.st (.int ((i : Int) + 1)) = "aborted" := in_two c
      exact ⟨_, rfl, _, rfl, e .en (by simp [FS.ru, hk, c']) _ z⟩
    · have c' : ¬ (S.st (.int ((i : Int) + 1)) = "committed" ∨ S.st (.int ((i : Int) + 1)) = "aborted") := fun y => c (two_in y)
      exact q (by simp [FS.ru, hk, c']) _ z
theorem sc_Fates__check_free : FnScope ["self", "number"] ["self", "number"] (defScope s_Fates__check_free) :=
  ⟨rfl, rfl, rfl, by decide +kernel, rfl, by decide +kernel, by decide +kernel⟩
theorem ok_free {f : Addr} {fd : FuncData} (F0 : Fun K "_check_free" "Fates._check_free" s_Fates__check_free f fd) (FCC : FC K C) (mo : MO more)
    (M_Fates__check_running : Cm P w K mg base (L2.CX P w) 5 C "_check_running" ["self", "number"] (spAsk K C CP more EE FS.ru)) (X_Prepared : Er P w K mg base "Prepared" EE.pr "number") :
    FnG P w K mg base (L2.CX P w) 6 f fd ["self", "number"] (spAsk K C CP more EE FS.fr) := by
  refine fn_in F0 sc_Fates__check_free (fun vs H Q E h => ?_) (fun cdv A outer s H vs Q E hr hG h => ?_)
  · obtain ⟨a, x, d, S, F, rfl, _⟩ := h
    rfl
  · obtain ⟨a, x, d, S, F, rfl, hA, hx, hsz, q, e⟩ := h
    have hu := hu_of hr
    refine ⟨_, (pss_cons (ps_expr (pe_cm M_Fates__check_running (hr.mono (by decide)) hG (pv 0) (pa_cons (pv 1) pa_nil) (passes_call (takes_of rfl rfl rfl rfl) (fun _ _ _ _ h => h))))
      (pss_one (ps_if (pt_cmpR op_eq (pe_ix ix_list (pe_fld (pv 0) rfl) (pe_op op_sub (pv 1) pe_int) (fun _ _ => rfl)) pe_str (nomark _)) (pss_one (ps_raise rfl (takes_of rfl rfl rfl rfl) (pmk_er X_Prepared (hr.mono (by decide)) hG (pv 1)))) pss_nil))), ?_⟩
    have hA' := hA
    obtain ⟨ad, hf, hF⟩ := hA'
    obtain ⟨dx, lk⟩ := hf.look
    refine ⟨_, rfl, a, dx, _, rfl, lk.o, mo.free (by decide +kernel), _, rfl, a, x, d, S, F, rfl, hA, hx, hsz, fun hk H1 s1 => ?_, fun k hk => e k (by simp [FS.fr, hk])⟩
    obtain ⟨i, rfl, hi⟩ := FS.kn_none (FS.ru_none hk).1
    cases hx
    refine ⟨_, rfl, a, C, dx, _, _, rfl, s1 _ _ lk.o, FCC.cls, FCC.n3, rfl, _, rfl, _, _, rfl, rfl, _, _, _, _, rfl, rfl, .inl (.inl (s1 _ _ lk.s)), st_atI hi, ?_⟩
    refine ⟨rfl, _, rfl, ite2 (fun c => ?_) fun c => ?_⟩
    · have c' : S.st (.int ((i : Int) + 1)) = "prepared" := V.str.inj (of_decide_eq_true c)
      exact ⟨_, rfl, _, rfl, e .pr (by simp [FS.fr, hk, c']) _ s1⟩
    · have c' : ¬ S.st (.int ((i : Int) + 1)) = "prepared" := fun y => c (decide_eq_true (by rw [y]))
      exact q (by simp [FS.fr, hk, c']) _ s1
theorem sc_Part___init__ : FnScope ["self", "holder", "outer"] ["self", "holder", "outer"] (defScope s_Part___init__) :=
  ⟨rfl, rfl, rfl, by decide +kernel, rfl, by decide +kernel, by decide +kernel⟩
theorem ok_part {f : Addr} {fd : FuncData} (F0 : Fun K "__init__" "Part.__init__" s_Part___init__ f fd) (PCC : PC K CP) :
    FnG P w K mg base CX0 1 f fd ["self", "holder", "outer"] (spPartI CP) := by
  refine fn_q F0 sc_Part___init__ (fun vs H Q E h => ?_) (fun cdv A outer s H vs Q E hr hG h => ?_)
  · obtain ⟨q, dx, n, o, rfl, _⟩ := h
    rfl
  · obtain ⟨q, dx, n, o, rfl, hq, k⟩ := h
    refine ⟨_, (pss_cons (ps_fld (pv 0) (pv 1) rfl)
      (pss_cons (ps_fld (pv 0) (pv 2) rfl)
      (pss_cons (ps_fld (pv 0) pe_non rfl)
      (pss_cons (ps_fld (pv 0) pe_non rfl)
      (pss_one (ps_fld (pv 0) pe_str rfl)))))), ?_⟩
    refine ⟨_, rfl, _, rfl, _, _, dx, _, rfl, hq, PCC.cls, PCC.n0, (show 0 < 1000 by decide), ?_⟩
    refine ⟨_, rfl, _, rfl, _, _, dx, _, rfl, upd_same, PCC.cls, PCC.n1, (show 1 < 1000 by decide), ?_⟩
    refine ⟨_, rfl, _, _, dx, _, rfl, upd_same, PCC.cls, PCC.n2, (show 2 < 1000 by decide), ?_⟩
    refine ⟨_, rfl, _, _, dx, _, rfl, upd_same, PCC.cls, PCC.n3, (show 3 < 1000 by decide), ?_⟩
    refine ⟨_, rfl, _, _, dx, _, rfl, upd_same, PCC.cls, PCC.n4, (show 4 < 1000 by decide), ?_⟩
    simp only [upd_upd]
    have e := part_new (CP := CP) (dx := dx) (n := n) (o := o)
    show Q .non (upd H q (HO.ins CP dx (putF "outcome" (.str "open") (putF "ended" .non (putF "released" .non (putF "outer" (oI o) (putF "holder" (.int n) [])))))))
    rw [e]
    exact k
theorem sc_Fates__open_part : FnScope ["self", "number", "outer", "part"] ["self", "number", "outer"] (defScope s_Fates__open_part) :=
  ⟨rfl, rfl, rfl, by decide +kernel, rfl, by decide +kernel, by decide +kernel⟩
theorem ok_openp {f : Addr} {fd : FuncData} (F0 : Fun K "_open_part" "Fates._open_part" s_Fates__open_part f fd) (B : Bl mg) (FCC : FC K C) (mo : MO more)
    (D_Part : Cn P w K mg base CX0 1 "Part" CP ["self", "holder", "outer"] (spPartI CP)) :
    FnG P w K mg base CX0 3 f fd ["self", "number", "outer"] (spOpen C CP more) := by
  refine fn_q F0 sc_Fates__open_part (fun vs H Q E h => ?_) (fun cdv A outer s H vs Q E hr hG h => ?_)
  · obtain ⟨a, i, o, S, F, l, rfl, _⟩ := h
    rfl
  · obtain ⟨a, i, o, S, F, l, rfl, hA, hl, hp, hl2, q⟩ := h
    have hu := hu_of hr
    refine ⟨_, (pss_cons (ps_expr (pe_bm PySem.F.plainAttrs_list PySem.F.slot_list_append PySem.F.type_list_append mt_append (pe_fld (pv 0) rfl) (pa_cons (pe_cn D_Part (hr.mono (by decide)) hG (pa_cons (pv 1) (pa_cons (pv 2) pa_nil)) pass0) pa_nil)))
      (pss_cons (ps_set (i := 3) sc_Fates__open_part.nd rfl (Or.inl rfl) (pe_callB call_len_seq (by rfl) B.n_len (by decide +kernel) (pa_cons (pe_fld (pv 0) rfl) pa_nil)))
      (pss_cons (ps_expr (pe_bm PySem.F.plainAttrs_list PySem.F.slot_list_append PySem.F.type_list_append mt_append (pe_ix ix_list (pe_fld (pv 0) rfl) (pe_op op_sub (pv 1) pe_int) (fun _ _ => rfl)) (pa_cons (pv 3) pa_nil)))
      (pss_one (ps_ret (pv 3)))))), ?_⟩
    obtain ⟨ad, hf, hF⟩ := id hA
    obtain ⟨dx, lk⟩ := hf.look
    refine ⟨_, rfl, a, C, dx, _, _, rfl, lk.o, FCC.cls, FCC.n5, rfl, .inl ⟨rfl, _, .inl (.inl lk.p)⟩, ?_⟩
    refine ⟨_, rfl, _, rfl, fun y dy ny nd ne => ⟨y, dy, (i : Int) + 1, o, rfl, upd_same, rfl, ?_⟩⟩
    rw [upd_upd]
    have s1 := same_two (o := .own y) (o' := partO CP dy ⟨(i : Int) + 1, o, none, none, "open"⟩) nd ny ne
    have hy := upd_same (H := upd H dy (.own y)) (a := y) (o := partO CP dy ⟨(i : Int) + 1, o, none, none, "open"⟩)
    generalize upd (upd H dy (.own y)) y (partO CP dy ⟨(i : Int) + 1, o, none, none, "open"⟩) = H1 at s1 hy ⊢
    refine ⟨ad .parts, _, _, rfl, rfl, s1 _ _ lk.p, by rw [List.length_map, List.length_range]; exact sz1000 hp, ?_⟩
    obtain ⟨hA2, fr2⟩ := FsA.addPart hf hF s1 ny hy
    have gr2 := Grow.add (F := F) ny
    generalize upd H1 (ad .parts) _ = H2 at hA2 fr2 ⊢
    obtain ⟨ad2, hf2, hF2⟩ := id hA2
    obtain ⟨dx2, lk2⟩ := hf2.look
    have hi : i < S.stacks.length := (List.getElem?_eq_some_iff.mp hl).1
    have stk := hf2.stk (i := i) (l := l) hl
    have en : (((List.range (S.parts ++ [(⟨(i : Int) + 1, o, none, none, "open"⟩ : PI)]).length).map fun i => V.ref (ad2 (.part i))).length : Int) = (S.parts.length : Int) + 1 := by simp
    refine ⟨_, rfl, a, C, dx2, _, _, rfl, lk2.o, FCC.cls, FCC.n5, rfl, _, _, rfl, .inl (.inl (.inl lk2.p)), ?_⟩
    rw [en]
    refine ⟨_, rfl, a, C, dx2, _, _, rfl, lk2.o, FCC.cls, FCC.n4, rfl, _, rfl, _, _, rfl, rfl, ad2 .stacks, _, _, .ref (ad2 (.stack i)), rfl, rfl, .inl (.inl lk2.k), refs_atI hi, .inl ⟨rfl, _, .inl (.inl stk)⟩, _, rfl, ad2 (.stack i), _, _, rfl, rfl, stk, by rw [List.length_map]; exact sz1000 hl2, ?_⟩
    obtain ⟨hA3, fr3⟩ := FsA.setStack (l := l ++ [(S.parts.length : Int) + 1]) hf2 hF2 hi
    rw [List.map_append] at hA3 fr3
    refine ⟨_, rfl, q _ _ ?_ (fr2.trans gr2 fr3) gr2⟩
    have eg : S.stacks.getD i [] = l := by rw [List.getD_eq_getElem?_getD, hl]; rfl
    have eS : S.opn i o = { S with parts := S.parts ++ [⟨(i : Int) + 1, o, none, none, "open"⟩], stacks := S.stacks.set i (l ++ [(S.parts.length : Int) + 1]) } := by
      unfold FS.opn
      rw [eg]
    rw [eS]
    exact hA3
theorem sc_Fates_begin : FnScope ["self", "number"] ["self"] (defScope s_Fates_begin) :=
  ⟨rfl, rfl, rfl, by decide +kernel, rfl, by decide +kernel, by decide +kernel⟩
theorem ok_begin {f : Addr} {fd : FuncData} {tk : Tok} (F0 : Fun K "begin" "Fates.begin" s_Fates_begin f fd) (B : Bl mg) (FCC : FC K C) (mo : MO more) (g_RUN : mg "MOST_RUNNING" = some (.int 8 tk))
    (M_Fates__count_operation : Cm P w K mg base CX0 1 C "_count_operation" ["self"] (spCnt C CP more)) (M_Fates__open_part : Cm P w K mg base CX0 3 C "_open_part" ["self", "number", "outer"] (spOpen C CP more))
    (X_TooMany : Er P w K mg base "TooMany" EE.tm "limit") :
    FnG P w K mg base (L2.CX P w) 5 f fd ["self"] (spBegin C CP more EE) := by
  refine fn_in F0 sc_Fates_begin (fun vs H Q E h => ?_) (fun cdv A outer s H vs Q E hr hG h => ?_)
  · obtain ⟨a, S, F, rfl, _⟩ := h
    rfl
  · obtain ⟨a, S, F, rfl, hA, wf, q, e⟩ := h
    have hu := hu_of hr
    refine ⟨_, (pss_cons (ps_if (pt_cmpR op_ge (pe_callB call_len_seq (by rfl) B.n_len (by decide +kernel) (pa_cons (pe_fld (pv 0) rfl) pa_nil)) (pe_glob (v := .int 8) (by rfl) g_RUN ⟨_, rfl⟩) (nomark _)) (pss_one (ps_raise rfl (takes_of rfl rfl rfl rfl) (pmk_er X_TooMany (hr.mono (by decide)) hG (pe_glob (v := .int 8) (by rfl) g_RUN ⟨_, rfl⟩)))) pss_nil)
      (pss_cons (ps_expr (pe_cm0 M_Fates__count_operation (hr.mono (by decide)) hG (pv 0) pass0))
      (pss_cons (ps_set (i := 1) sc_Fates_begin.nd rfl (Or.inl rfl) (pe_op op_add (pe_callB call_len_seq (by rfl) B.n_len (by decide +kernel) (pa_cons (pe_fld (pv 0) rfl) pa_nil)) pe_int))
      (pss_cons (ps_expr (pe_bm PySem.F.plainAttrs_list PySem.F.slot_list_append PySem.F.type_list_append mt_append (pe_fld (pv 0) rfl) (pa_cons pe_str pa_nil)))
      (pss_cons (ps_expr (pe_bm PySem.F.plainAttrs_list PySem.F.slot_list_append PySem.F.type_list_append mt_append (pe_fld (pv 0) rfl) (pa_cons (pe_lst pa_nil) pa_nil)))
      (pss_cons (ps_expr (pe_bm PySem.F.plainAttrs_list PySem.F.slot_list_append PySem.F.type_list_append mt_append (pe_fld (pv 0) rfl) (pa_cons (pv 1) pa_nil)))
      (pss_cons (ps_expr (pe_cm M_Fates__open_part (hr.mono (by decide)) hG (pv 0) (pa_cons (pv 1) (pa_cons pe_non pa_nil)) pass0))
      (pss_one (ps_ret (pv 1)))))))))), ?_⟩
    obtain ⟨ad, hf, hF⟩ := id hA
    obtain ⟨dx, lk⟩ := hf.look
    refine ⟨_, rfl, a, C, dx, _, _, rfl, lk.o, FCC.cls, FCC.n2, rfl, _, _, rfl, .inl (.inl (.inl lk.w)), _, _, rfl, rfl, _, rfl, ite2 (fun c => ?_) fun c => ?_⟩
    · have c' := of_decide_eq_true c
      rw [List.length_map] at c'
      exact ⟨_, rfl, e (by omega)⟩
    · have c' := of_decide_eq_false (eq_false_of_ne_true c)
      rw [List.length_map] at c'
      refine ⟨_, rfl, a, dx, _, rfl, lk.o, mo.free (by decide +kernel), a, S, F, rfl, hA, fun H1 hA1 _ fr1 => ?_⟩
      obtain ⟨ad1, hf1, hF1⟩ := id hA1
      obtain ⟨dx1, lk1⟩ := hf1.look
      refine ⟨_, rfl, a, C, dx1, _, _, rfl, lk1.o, FCC.cls, FCC.n3, rfl, _, _, rfl, .inl (.inl (.inl lk1.s)), _, _, rfl, rfl, ?_⟩
      rw [List.length_map]
      refine ⟨_, rfl, a, C, dx1, _, _, rfl, lk1.o, FCC.cls, FCC.n3, rfl, .inl ⟨rfl, _, .inl (.inl lk1.s)⟩, ad1 .states, _, _, rfl, rfl, lk1.s, by rw [List.length_map]; exact sz1000 (Nat.le_trans wf.n (by decide)), ?_⟩
      obtain ⟨hA2, fr2⟩ := FsA.setStates (zs := S.cnt.states ++ [("running" : Str)]) hf1 hF1
      simp only [List.map_append, List.map_cons, List.map_nil] at hA2 fr2
      have fr2 := fr1.trans .refl fr2
      generalize upd H1 (ad1 .states) _ = H2 at hA2 fr2 ⊢
      obtain ⟨ad2, hf2, hF2⟩ := id hA2
      obtain ⟨dx2, lk2⟩ := hf2.look
      refine ⟨_, rfl, a, C, dx2, _, _, rfl, lk2.o, FCC.cls, FCC.n4, rfl, .inl ⟨rfl, _, .inl (.inl lk2.k)⟩, (show 0 ≤ sizeLine by decide), fun y ny => ⟨ad2 .stacks, _, _, rfl, rfl, (same_new ny) _ _ lk2.k, by rw [List.length_map, List.length_range]; exact sz1000 (by have := wf.ls; have := wf.n; show S.stacks.length ≤ 1000; omega), ?_⟩⟩
      obtain ⟨hA3, fr3⟩ := FsA.addStack (l := []) hf2 hF2 ny
      simp only [List.map_nil] at hA3 fr3
      have gr3 := Grow.refl.trans fr2 (Grow.add (F := F) ny)
      have fr3 := fr2.trans .refl fr3
      generalize upd (upd H2 y (.lst [])) (ad2 .stacks) _ = H3 at hA3 fr3 ⊢
      obtain ⟨ad3, hf3, hF3⟩ := id hA3
      obtain ⟨dx3, lk3⟩ := hf3.look
      refine ⟨_, rfl, a, C, dx3, _, _, rfl, lk3.o, FCC.cls, FCC.n2, rfl, .inl ⟨rfl, _, .inl (.inl lk3.w)⟩, _, rfl, ad3 .work, _, _, rfl, rfl, lk3.w, by rw [List.length_map]; exact sz1000 (Nat.le_trans wf.w (by decide)), ?_⟩
      obtain ⟨hA4, fr4⟩ := FsA.setWork (ws := S.cnt.work ++ [(S.cnt.states.length : Int) + 1]) hf3 hF3
      simp only [List.map_append, List.map_cons, List.map_nil] at hA4 fr4
      have fr4 := fr3.trans gr3 fr4
      generalize upd H3 (ad3 .work) _ = H4 at hA4 fr4 ⊢
      obtain ⟨ad4, hf4, hF4⟩ := id hA4
      obtain ⟨dx4, lk4⟩ := hf4.look
      refine ⟨_, rfl, a, dx4, _, rfl, lk4.o, mo.free (by decide +kernel), _, rfl, a, S.states.length, none, _, _, [], rfl, hA4, ?_, Nat.le_trans wf.p (by decide), by decide, fun H5 F5 hA5 fr5 gr5 => ⟨_, rfl, q (by omega) _ _ hA5 (fr4.trans gr3 fr5) (gr3.trans fr4 gr5)⟩⟩
      show (S.stacks ++ [[]])[S.states.length]? = some []
      rw [← wf.ls, List.getElem?_append_right (Nat.le_refl _)]
      simp
end
end K25F

set_option maxRecDepth 100000
set_option maxHeartbeats 4000000
namespace K25F
open PySem PySem.Spec L2 Rm
open PyProof.Rows hiding St
section
variable {P : Program} {w : World} {K : PySem.W.Frag} {mg : Str → Option Value} {base : Heap} {C CP : Addr} {more : List (Str × V)} {EE : EA}
theorem sc_Fates__end_part : FnScope ["self", "part", "outcome", "ended"] ["self", "part", "outcome"] (defScope s_Fates__end_part) :=
  ⟨rfl, rfl, rfl, by decide +kernel, rfl, by decide +kernel, by decide +kernel⟩
theorem ok_endp {f : Addr} {fd : FuncData} (F0 : Fun K "_end_part" "Fates._end_part" s_Fates__end_part f fd) (FCC : FC K C) (PCC : PC K CP) :
    FnG P w K mg base CX0 1 f fd ["self", "part", "outcome"] (spEndP C CP more) := by
  refine fn_q F0 sc_Fates__end_part (fun vs H Q E h => ?_) (fun cdv A outer s H vs Q E hr hG h => ?_)
  · obtain ⟨a, q0, z, S, F, rfl, _⟩ := h
    rfl
  · obtain ⟨a, q0, z, S, F, rfl, hA, h1, h2, q⟩ := h
    have hu := hu_of hr
    refine ⟨_, (pss_cons (ps_set (i := 3) sc_Fates__end_part.nd rfl (Or.inl rfl) (pe_ix ix_list (pe_fld (pv 0) rfl) (pe_op op_sub (pv 1) pe_int) (fun _ _ => rfl)))
      (pss_cons (ps_fld (pv 3) (pv 2) rfl)
      (pss_one (ps_fld (pv 3) (pe_fld (pv 0) rfl) rfl)))), ?_⟩
    obtain ⟨ad, hf, hF⟩ := id hA
    obtain ⟨dx, lk⟩ := hf.look
    obtain ⟨j, rfl⟩ : ∃ j : Nat, q0 = (j : Int) + 1 := ⟨(q0 - 1).toNat, by omega⟩
    have hj : j < S.parts.length := by omega
    have hp := List.getElem?_eq_getElem hj
    obtain ⟨dp, hd⟩ := hf.prt hp
    refine ⟨_, rfl, a, C, dx, _, _, rfl, lk.o, FCC.cls, FCC.n5, rfl, _, rfl, _, _, rfl, rfl, ad .parts, _, _, .ref (ad (.part j)), rfl, rfl, .inl (.inl lk.p), refs_atI hj, ?_⟩
    refine ⟨_, rfl, _, rfl, _, CP, dp, _, rfl, hd, PCC.cls, PCC.n4, (show 5 < 1000 by decide), ?_⟩
    have na : a ≠ ad (.part j) := fun e => by
      have := hf.inj .obj (.part j) trivial hj (hf.at_.trans e)
      cases this
    refine ⟨_, rfl, a, C, dx, _, _, rfl, by rw [upd_ne na]; exact lk.o, FCC.cls, FCC.n0, rfl, _, rfl, _, CP, dp, _, rfl, upd_same, PCC.cls, PCC.n3, (show 5 < 1000 by decide), ?_⟩
    rw [upd_upd]
    have pe := part_end (CP := CP) (dx := dp) (p := S.parts[j]) (i := S.done) (z := z)
    obtain ⟨hA2, fr2⟩ := FsA.setPart (p := { S.parts[j] with ended := some S.done, outcome := z }) hf hF hj (dx := dp) ⟨_, hd⟩
    have hP := fun (ad' : Ro → Addr) (hf' : FsAt C CP more H a S ad') => (hf.setPartAt (p := { S.parts[j] with ended := some S.done, outcome := z }) hj (dx := dp) ⟨_, hd⟩).congr (ad' := ad') fun r hr => hf.uniq hf' r (by cases r <;> simpa [Ro.ok] using hr)
    rw [← pe] at hA2 fr2 hP
    have e : S.endP ((j : Int) + 1) z = { S with parts := S.parts.set j { S.parts[j] with ended := some S.done, outcome := z } } := by
      unfold FS.endP FS.mdP
      rw [Int.add_sub_cancel, Int.toNat_natCast, ← modify_set (f := fun p => { p with ended := some S.done, outcome := z }) hp]
    rw [← e] at hA2 hP
    exact q _ hA2 hP fr2
theorem sc_Fates__take_innermost : FnScope ["self", "number"] ["self", "number"] (defScope s_Fates__take_innermost) :=
  ⟨rfl, rfl, rfl, by decide +kernel, rfl, by decide +kernel, by decide +kernel⟩
theorem ok_take {f : Addr} {fd : FuncData} (F0 : Fun K "_take_innermost" "Fates._take_innermost" s_Fates__take_innermost f fd) (B : Bl mg) (FCC : FC K C) (mo : MO more)
    (M_Fates__check_free : Cm P w K mg base (L2.CX P w) 6 C "_check_free" ["self", "number"] (spAsk K C CP more EE FS.fr)) (M_Fates__count_operation : Cm P w K mg base CX0 1 C "_count_operation" ["self"] (spCnt C CP more))
    (X_FirstPart : Er P w K mg base "FirstPart" EE.fp "number") :
    FnG P w K mg base (L2.CX P w) 7 f fd ["self", "number"] (spNumK K C CP more EE FS.tkE FS.tk fun S i => .int (lastI (S.stacks.getD i []))) := by
  refine fn_in F0 sc_Fates__take_innermost (fun vs H Q E h => ?_) (fun cdv A outer s H vs Q E hr hG h => ?_)
  · obtain ⟨a, x, d, S, F, rfl, _⟩ := h
    rfl
  · obtain ⟨a, x, d, S, F, rfl, hA, hx, wf, e, q⟩ := h
    have hu := hu_of hr
    refine ⟨_, (pss_cons (ps_expr (pe_cm M_Fates__check_free (hr.mono (by decide)) hG (pv 0) (pa_cons (pv 1) pa_nil) (passes_call (takes_of rfl rfl rfl rfl) (fun _ _ _ _ h => h))))
      (pss_cons (ps_if (pt_cmpR op_eq (pe_callB call_len_seq (by rfl) B.n_len (by decide +kernel) (pa_cons (pe_ix ix_list (pe_fld (pv 0) rfl) (pe_op op_sub (pv 1) pe_int) (fun _ _ => rfl)) pa_nil)) pe_int (nomark _)) (pss_one (ps_raise rfl (takes_of rfl rfl rfl rfl) (pmk_er X_FirstPart (hr.mono (by decide)) hG (pv 1)))) pss_nil)
      (pss_cons (ps_expr (pe_cm0 M_Fates__count_operation (hr.mono (by decide)) hG (pv 0) pass0))
      (pss_one (ps_ret (pe_bm0 PySem.F.plainAttrs_list PySem.F.slot_list_pop PySem.F.type_list_pop mt_pop (pe_ix ix_list (pe_fld (pv 0) rfl) (pe_op op_sub (pv 1) pe_int) (fun _ _ => rfl)))))))), ?_⟩
    obtain ⟨ad, hf, hF⟩ := id hA
    obtain ⟨dx, lk⟩ := hf.look
    refine ⟨_, rfl, a, dx, _, rfl, lk.o, mo.free (by decide +kernel), _, rfl, a, x, d, S, F, rfl, hA, hx, Nat.le_trans wf.n (by decide), fun hk H1 s1 => ?_, fun k hk => by
      have z := e k (tkE_fr hk)
      rw [fr_kv hk] at z
      exact z⟩
    obtain ⟨i, rfl, hi⟩ := FS.kn_none (FS.ru_none (FS.fr_none hk).1).1
    cases hx
    have hA1 := hA.same s1
    have hf1 := hf.same s1
    have hF1 := hF
    obtain ⟨dx1, lk1⟩ := hf1.look
    have his : i < S.stacks.length := by rw [wf.ls]; exact hi
    have stk := hf1.stk (wf.stk hi)
    refine ⟨_, rfl, a, C, dx1, _, _, rfl, lk1.o, FCC.cls, FCC.n4, rfl, _, rfl, _, _, rfl, rfl, ad .stacks, _, _, .ref (ad (.stack i)), rfl, rfl, .inl (.inl lk1.k), refs_atI his, ?_⟩
    refine ⟨_, _, rfl, .inl (.inl (.inl stk)), rfl, _, rfl, ite2 (fun c => ?_) fun c => ?_⟩
    · have c' : (S.stacks.getD i []).length = 1 := by
        have := of_decide_eq_true c
        rw [List.length_map] at this
        have z := V.int.inj this
        omega
      exact ⟨_, rfl, _, rfl, e .fp (tkE_some hk (by rw [sk_at]; exact c')) _ s1⟩
    · have c' : ¬ (S.stacks.getD i []).length = 1 := fun y => c (decide_eq_true (by rw [List.length_map, y]; rfl))
      refine ⟨_, rfl, a, dx1, _, rfl, lk1.o, mo.free (by decide +kernel), a, S, F, rfl, hA1, fun H2 hA2 hu2 fr2 => ?_⟩
      have hf2 := hu2 _ hf1
      have hF2 := hF1
      obtain ⟨dx2, lk2⟩ := hf2.look
      have stk2 := hf2.stk (i := i) (l := S.stacks.getD i []) (wf.stk hi)
      refine ⟨_, rfl, a, C, dx2, _, _, rfl, lk2.o, FCC.cls, FCC.n4, rfl, _, rfl, _, _, rfl, rfl, ad .stacks, _, _, .ref (ad (.stack i)), rfl, rfl, .inl (.inl lk2.k), refs_atI his, .inl ⟨rfl, _, .inl (.inl stk2)⟩, ?_⟩
      refine ⟨ad (.stack i), _, _, rfl, rfl, stk2, lastI_get (wf.nel hi (FS.fr_none hk).1), ?_⟩
      obtain ⟨⟨hf3, _⟩, fr3⟩ := FsA.setStackAt (l := (S.stacks.getD i []).dropLast) hf2 (F := F) (fun b => hF2 b) his
      rw [List.map_dropLast] at hf3 fr3
      refine q i rfl hi (tkE_none hk (by rw [sk_at]; exact c')) _ ⟨ad, hf3, fun b => (hF2 b).trans (by
        constructor
        · rintro ⟨r, h, e⟩
          exact ⟨r, by cases r <;> simpa [Ro.ok, FS.tk, FS.cnt] using h, e⟩
        · rintro ⟨r, h, e⟩
          exact ⟨r, by cases r <;> simpa [Ro.ok, FS.tk, FS.cnt] using h, e⟩)⟩ (fun ad' hf' => hf3.congr fun r hr => ?_) ((Fr.same s1).trans .refl (fr2.trans .refl fr3))
      have hr' : r.ok S := by cases r <;> simpa [Ro.ok, FS.tk, FS.cnt] using hr
      exact hf.uniq hf' r hr'
theorem sc_Fates_back : FnScope ["self", "number", "part"] ["self", "number"] (defScope s_Fates_back) :=
  ⟨rfl, rfl, rfl, by decide +kernel, rfl, by decide +kernel, by decide +kernel⟩
theorem ok_back {f : Addr} {fd : FuncData} (F0 : Fun K "back" "Fates.back" s_Fates_back f fd) (mo : MO more)
    (M_Fates__take_innermost : Cm P w K mg base (L2.CX P w) 7 C "_take_innermost" ["self", "number"] (spNumK K C CP more EE FS.tkE FS.tk fun S i => .int (lastI (S.stacks.getD i []))))
    (M_Fates__end_part : Cm P w K mg base CX0 1 C "_end_part" ["self", "part", "outcome"] (spEndP C CP more)) :
    FnG P w K mg base (L2.CX P w) 8 f fd ["self", "number"] (spNum K C CP more EE FS.tkE FS.bak fun _ _ => .non) := by
  refine fn_in F0 sc_Fates_back (fun vs H Q E h => ?_) (fun cdv A outer s H vs Q E hr hG h => ?_)
  · obtain ⟨a, x, d, S, F, rfl, _⟩ := h
    rfl
  · obtain ⟨a, x, d, S, F, rfl, hA, hx, wf, e, q⟩ := h
    have hu := hu_of hr
    refine ⟨_, (pss_cons (ps_set (i := 2) sc_Fates_back.nd rfl (Or.inl rfl) (pe_cm M_Fates__take_innermost (hr.mono (by decide)) hG (pv 0) (pa_cons (pv 1) pa_nil) (passes_call (takes_of rfl rfl rfl rfl) (fun _ _ _ _ h => h))))
      (pss_one (ps_expr (pe_cm M_Fates__end_part (hr.mono (by decide)) hG (pv 0) (pa_cons (pv 2) (pa_cons pe_str pa_nil)) pass0)))), ?_⟩
    obtain ⟨ad, hf, hF⟩ := id hA
    obtain ⟨dx, lk⟩ := hf.look
    refine ⟨_, rfl, a, dx, _, rfl, lk.o, mo.free (by decide +kernel), _, rfl, a, x, d, S, F, rfl, hA, hx, wf, e, fun i ed hi hk H1 hA1 hu1 fr1 => ?_⟩
    have hf1 := hu1 _ hf
    obtain ⟨dx1, lk1⟩ := hf1.look
    have hfr : S.fr d = none := by
      cases z : S.fr d with
      | none => rfl
      | some k => rw [tkE_fr z] at hk; cases hk
    subst ed
    have nel := wf.nel hi (FS.fr_none hfr).1
    obtain ⟨q1, q2⟩ := wf.kp _ (wf.mem hi) _ (lastI_mem nel)
    refine ⟨_, rfl, a, dx1, _, rfl, lk1.o, mo.free (by decide +kernel), _, rfl, a, _, _, S.tk i, F, rfl, hA1, q1, q2, fun H2 hA2 _ fr2 => ?_⟩
    exact q i rfl hi hk _ F hA2 (fr1.trans .refl fr2) .refl
theorem sc_Fates__end_transaction : FnScope ["self", "number", "state", "outcome", "part"] ["self", "number", "state", "outcome"] (defScope s_Fates__end_transaction) :=
  ⟨rfl, rfl, rfl, by decide +kernel, rfl, by decide +kernel, by decide +kernel⟩
theorem ok_endt {f : Addr} {fd : FuncData} (F0 : Fun K "_end_transaction" "Fates._end_transaction" s_Fates__end_transaction f fd) (FCC : FC K C) (mo : MO more)
    (M_Fates__end_part : Cm P w K mg base CX0 1 C "_end_part" ["self", "part", "outcome"] (spEndP C CP more)) :
    FnG P w K mg base CX0 3 f fd ["self", "number", "state", "outcome"] (spEndT C CP more) := by
  refine fn_q F0 sc_Fates__end_transaction (fun vs H Q E h => ?_) (fun cdv A outer s H vs Q E hr hG h => ?_)
  · obtain ⟨a, i, st, z, S, F, rfl, _⟩ := h
    rfl
  · obtain ⟨a, i, st, z, S, F, rfl, hA, hi, hs, hl, hp, hw, q⟩ := h
    have hu := hu_of hr
    refine ⟨_, (pss_cons (ps_for PassesOwn.never rfl (pi_list (pe_ix ix_list (pe_fld (pv 0) rfl) (pe_op op_sub (pv 1) pe_int) (fun _ _ => rfl))) (pg_name (i := 4) sc_Fates__end_transaction.nd rfl (Or.inl rfl)) (pss_one (ps_expr (pe_cm M_Fates__end_part (hr.mono (by decide)) hG (pv 0) (pa_cons (pv 4) (pa_cons (pv 3) pa_nil)) pass0))))
      (pss_cons (ps_asg (pe_lst pa_nil) (pg_sub (pe_fld (pv 0) rfl) (pe_op op_sub (pv 1) pe_int) set_list))
      (pss_cons (ps_asg (pv 2) (pg_sub (pe_fld (pv 0) rfl) (pe_op op_sub (pv 1) pe_int) set_list))
      (pss_one (ps_expr (pe_bm PySem.F.plainAttrs_list PySem.F.slot_list_remove PySem.F.type_list_remove mt_remove (pe_fld (pv 0) rfl) (pa_cons (pv 1) pa_nil))))))), ?_⟩
    obtain ⟨ad, hf, hF⟩ := id hA
    obtain ⟨dx, lk⟩ := hf.look
    have hg : S.stacks[i]? = some (S.stacks.getD i []) := by rw [List.getD_eq_getElem?_getD, List.getElem?_eq_getElem hs]; rfl
    have stk := hf.stk hg
    refine ⟨_, rfl, a, C, dx, _, _, rfl, lk.o, FCC.cls, FCC.n4, rfl, _, rfl, _, _, rfl, rfl, ad .stacks, _, _, .ref (ad (.stack i)), rfl, rfl, .inl (.inl lk.k), refs_atI hs, ?_⟩
    refine ⟨ad (.stack i), rfl, ⟨_, .inl (.inl stk)⟩, for_list (xs := (S.stacks.getD i []).map V.int) (fun n σ H' => (∃ c, σ = [some (.ref a), some (.int ((i : Int) + 1)), some (.str st), some (.str z), c]) ∧ FsA C CP more H' a (S.endAll z ((S.stacks.getD i []).take n)) F ∧ Fr F H H' ∧
        (∀ ad, FsAt C CP more H a S ad → FsAt C CP more H' a (S.endAll z ((S.stacks.getD i []).take n)) ad)) ⟨⟨_, rfl⟩, hA, .refl, fun _ h => h⟩ (fun n σ H' _ e => ?_) ?_ ?_⟩
    · have h1 := e.2.2.2 _ hf
      exact .inl (.inl (h1.stk (i := i) (by rw [(endAll_keeps z _ S).1]; exact hg)))
    · rintro n x σ H1 hx ⟨⟨c, rfl⟩, hA1, fr1, hu1⟩
      obtain ⟨q0, hq0, rfl⟩ : ∃ q0, (S.stacks.getD i [])[n]? = some q0 ∧ x = .int q0 := by
        rw [List.getElem?_map] at hx
        cases y : (S.stacks.getD i [])[n]? with
        | none => rw [y] at hx; cases hx
        | some q0 => rw [y] at hx; cases hx; exact ⟨q0, rfl, rfl⟩
      obtain ⟨p1, p2⟩ := hp q0 (List.mem_of_getElem? hq0)
      have hf1 := hu1 _ hf
      obtain ⟨dx1, lk1⟩ := hf1.look
      obtain ⟨k1, k2, k3, k4, k5, k6⟩ := endAll_keeps z ((S.stacks.getD i []).take n) S
      refine ⟨_, rfl, a, dx1, _, rfl, lk1.o, mo.free (by decide +kernel), _, rfl, _, rfl, a, q0, z, _, F, rfl, hA1, p1, by rw [k6]; exact p2, fun H2 hA2 hu2 fr2 => ?_⟩
      rw [endAll_next hq0]
      exact ⟨⟨_, rfl⟩, hA2, fr1.trans .refl fr2, fun ad' h' => hu2 _ (hu1 _ h')⟩
    · rintro σ H1 ⟨⟨c, rfl⟩, hA1, fr1, hu1⟩
      rw [List.length_map, List.take_length] at hA1 hu1
      obtain ⟨k1, k2, k3, k4, k5, k6⟩ := endAll_keeps z (S.stacks.getD i []) S
      have hf1 := hu1 _ hf
      have hF1 : ∀ b, F b ↔ Foot (S.endAll z (S.stacks.getD i [])) ad b := fun b => (hF b).trans (Foot.put (ok_same (by rw [k1]) k6) b).symm
      generalize eS1 : S.endAll z (S.stacks.getD i []) = S1 at *
      obtain ⟨dx1, lk1⟩ := hf1.look
      have hs1 : i < S1.stacks.length := by rw [k1]; exact hs
      refine ⟨(show 0 ≤ sizeLine by decide), fun y ny => ?_⟩
      have zy := same_new (o := .lst []) ny
      refine ⟨_, rfl, a, C, dx1, _, _, rfl, zy _ _ lk1.o, FCC.cls, FCC.n4, rfl, _, rfl, _, _, rfl, rfl, ad .stacks, _, _, i, rfl, rfl, zy _ _ lk1.k, by rw [Int.add_sub_cancel]; exact ixN_at (by rw [List.length_map, List.length_range]; exact hs1), ?_⟩
      obtain ⟨hA2, fr2⟩ := FsA.newStack (l := []) hf1 hF1 ny hs1
      simp only [List.map_nil] at hA2 fr2
      have gr2 : Grow F (fun b => With F y b ∧ b ≠ ad (.stack i)) H1 := fun b hb => Grow.add ny b hb.1
      have gr2 := Grow.refl.trans fr1 gr2
      have fr2 := fr1.trans .refl fr2
      generalize (fun b => With F y b ∧ b ≠ ad (.stack i)) = F2 at hA2 gr2
      generalize upd (upd H1 y (.lst [])) (ad .stacks) _ = H2 at hA2 fr2 ⊢
      obtain ⟨ad2, hf2, hF2⟩ := id hA2
      obtain ⟨dx2, lk2⟩ := hf2.look
      refine ⟨_, rfl, _, rfl, a, C, dx2, _, _, rfl, lk2.o, FCC.cls, FCC.n3, rfl, _, rfl, _, _, rfl, rfl, ad2 .states, _, _, i, rfl, rfl, lk2.s, by rw [Int.add_sub_cancel]; exact ixN_at (by rw [List.length_map]; show i < S1.states.length; rw [k2]; exact hi), ?_⟩
      obtain ⟨hA3, fr3⟩ := FsA.setStates (zs := S1.states.set i st) hf2 hF2
      rw [List.map_set] at hA3 fr3
      have fr3 := fr2.trans gr2 fr3
      generalize upd H2 (ad2 .states) (.lst ((S1.states.map V.str).set i (.str st))) = H3 at hA3 fr3 ⊢
      obtain ⟨ad3, hf3, hF3⟩ := id hA3
      obtain ⟨dx3, lk3⟩ := hf3.look
      obtain ⟨j, j1, j2, j3⟩ := erase_at (show ((i : Int) + 1) ∈ S1.work by rw [k3]; exact hw)
      refine ⟨_, rfl, a, C, dx3, _, _, rfl, lk3.o, FCC.cls, FCC.n2, rfl, .inl ⟨rfl, _, .inl (.inl lk3.w)⟩, _, rfl, ad3 .work, S1.work, _, j, rfl, rfl, lk3.w, j1, j2, ?_⟩
      obtain ⟨hA4, fr4⟩ := FsA.setWork (ws := S1.work.eraseIdx j) hf3 hF3
      refine q _ _ ?_ (fr3.trans gr2 fr4) gr2
      have eT : S.endT i st z = { S1 with stacks := S1.stacks.set i [], states := S1.states.set i st, work := S1.work.eraseIdx j } := by
        unfold FS.endT
        rw [eS1, j3, k1, k2, k3]
      rw [eT]
      exact hA4
theorem sc_Fates_commit : FnScope ["self", "number"] ["self", "number"] (defScope s_Fates_commit) :=
  ⟨rfl, rfl, rfl, by decide +kernel, rfl, by decide +kernel, by decide +kernel⟩
theorem ok_commit {f : Addr} {fd : FuncData} (F0 : Fun K "commit" "Fates.commit" s_Fates_commit f fd) (FCC : FC K C) (mo : MO more)
    (M_Fates__check_running : Cm P w K mg base (L2.CX P w) 5 C "_check_running" ["self", "number"] (spAsk K C CP more EE FS.ru)) (M_Fates__count_operation : Cm P w K mg base CX0 1 C "_count_operation" ["self"] (spCnt C CP more))
    (M_Fates__end_transaction : Cm P w K mg base CX0 3 C "_end_transaction" ["self", "number", "state", "outcome"] (spEndT C CP more)) :
    FnG P w K mg base (L2.CX P w) 6 f fd ["self", "number"] (spNum K C CP more EE FS.ru FS.com fun _ _ => .non) := by
  refine fn_in F0 sc_Fates_commit (fun vs H Q E h => ?_) (fun cdv A outer s H vs Q E hr hG h => ?_)
  · obtain ⟨a, x, d, S, F, rfl, _⟩ := h
    rfl
  · obtain ⟨a, x, d, S, F, rfl, hA, hx, wf, e, q⟩ := h
    have hu := hu_of hr
    refine ⟨_, (pss_cons (ps_expr (pe_cm M_Fates__check_running (hr.mono (by decide)) hG (pv 0) (pa_cons (pv 1) pa_nil) (passes_call (takes_of rfl rfl rfl rfl) (fun _ _ _ _ h => h))))
      (pss_cons (ps_expr (pe_cm0 M_Fates__count_operation (hr.mono (by decide)) hG (pv 0) pass0))
      (pss_cons (ps_fldaug (pv 0) pe_int in_add)
      (pss_one (ps_expr (pe_cm M_Fates__end_transaction (hr.mono (by decide)) hG (pv 0) (pa_cons (pv 1) (pa_cons pe_str (pa_cons pe_str pa_nil))) pass0)))))), ?_⟩
    obtain ⟨ad, hf, hF⟩ := id hA
    obtain ⟨dx, lk⟩ := hf.look
    refine ⟨_, rfl, a, dx, _, rfl, lk.o, mo.free (by decide +kernel), _, rfl, a, x, d, S, F, rfl, hA, hx, Nat.le_trans wf.n (by decide), fun hk H1 s1 => ?_, fun k hk => by
      have z := e k hk
      rw [ru_kv hk] at z
      exact z⟩
    obtain ⟨i, rfl, hi⟩ := FS.kn_none (FS.ru_none hk).1
    cases hx
    have hf1 := hf.same s1
    obtain ⟨dx1, lk1⟩ := hf1.look
    refine ⟨_, rfl, a, dx1, _, rfl, lk1.o, mo.free (by decide +kernel), a, S, F, rfl, ⟨ad, hf1, hF⟩, fun H2 hA2 hu2 fr2 => ?_⟩
    have hf2 := hu2 _ hf1
    obtain ⟨dx2, lk2⟩ := hf2.look
    refine ⟨_, rfl, a, C, dx2, _, _, rfl, lk2.o, FCC.cls, FCC.n1, rfl, _, _, rfl, rfl, dx2, _, lk2.o, mo.size, ?_⟩
    rw [put_commits]
    obtain ⟨hA3, fr3⟩ := FsA.ofO (S' := ⟨S.cnt.done, S.cnt.moment + 1, S.cnt.work, S.cnt.states, S.cnt.stacks, S.cnt.parts⟩) (dx := dx2) hf2 (F := F) (fun b => hF b) lk2 rfl rfl rfl rfl rfl
    generalize upd H2 a _ = H3 at hA3 fr3 ⊢
    obtain ⟨ad3, hf3, hF3⟩ := id hA3
    obtain ⟨dx3, lk3⟩ := hf3.look
    have his : i < S.stacks.length := by rw [wf.ls]; exact hi
    refine ⟨_, rfl, a, dx3, _, rfl, lk3.o, mo.free (by decide +kernel), _, rfl, a, i, _, _, _, F, rfl, hA3, hi, his, wf.k _ (wf.mem hi), wf.kp _ (wf.mem hi), wf.wk i _ (FS.st_at hi) (FS.ru_none hk).2, fun H4 F4 hA4 fr4 gr4 => ?_⟩
    have fr2' := (Fr.same s1).trans .refl (fr2.trans .refl fr3)
    exact q i rfl hi hk _ _ hA4 (fr2'.trans .refl fr4) (Grow.refl.trans fr2' gr4)
theorem sc_Fates_abort : FnScope ["self", "number"] ["self", "number"] (defScope s_Fates_abort) :=
  ⟨rfl, rfl, rfl, by decide +kernel, rfl, by decide +kernel, by decide +kernel⟩
theorem ok_abort {f : Addr} {fd : FuncData} (F0 : Fun K "abort" "Fates.abort" s_Fates_abort f fd) (FCC : FC K C) (mo : MO more)
    (M_Fates__check_running : Cm P w K mg base (L2.CX P w) 5 C "_check_running" ["self", "number"] (spAsk K C CP more EE FS.ru)) (M_Fates__count_operation : Cm P w K mg base CX0 1 C "_count_operation" ["self"] (spCnt C CP more))
    (M_Fates__end_transaction : Cm P w K mg base CX0 3 C "_end_transaction" ["self", "number", "state", "outcome"] (spEndT C CP more)) :
    FnG P w K mg base (L2.CX P w) 6 f fd ["self", "number"] (spNum K C CP more EE FS.ru FS.abo fun _ _ => .non) := by
  refine fn_in F0 sc_Fates_abort (fun vs H Q E h => ?_) (fun cdv A outer s H vs Q E hr hG h => ?_)
  · obtain ⟨a, x, d, S, F, rfl, _⟩ := h
    rfl
  · obtain ⟨a, x, d, S, F, rfl, hA, hx, wf, e, q⟩ := h
    have hu := hu_of hr
    refine ⟨_, (pss_cons (ps_expr (pe_cm M_Fates__check_running (hr.mono (by decide)) hG (pv 0) (pa_cons (pv 1) pa_nil) (passes_call (takes_of rfl rfl rfl rfl) (fun _ _ _ _ h => h))))
      (pss_cons (ps_expr (pe_cm0 M_Fates__count_operation (hr.mono (by decide)) hG (pv 0) pass0))
      (pss_one (ps_expr (pe_cm M_Fates__end_transaction (hr.mono (by decide)) hG (pv 0) (pa_cons (pv 1) (pa_cons pe_str (pa_cons pe_str pa_nil))) pass0))))), ?_⟩
    obtain ⟨ad, hf, hF⟩ := id hA
    obtain ⟨dx, lk⟩ := hf.look
    refine ⟨_, rfl, a, dx, _, rfl, lk.o, mo.free (by decide +kernel), _, rfl, a, x, d, S, F, rfl, hA, hx, Nat.le_trans wf.n (by decide), fun hk H1 s1 => ?_, fun k hk => by
      have z := e k hk
      rw [ru_kv hk] at z
      exact z⟩
    obtain ⟨i, rfl, hi⟩ := FS.kn_none (FS.ru_none hk).1
    cases hx
    have hf1 := hf.same s1
    obtain ⟨dx1, lk1⟩ := hf1.look
    refine ⟨_, rfl, a, dx1, _, rfl, lk1.o, mo.free (by decide +kernel), a, S, F, rfl, ⟨ad, hf1, hF⟩, fun H2 hA2 hu2 fr2 => ?_⟩
    have hf2 := hu2 _ hf1
    obtain ⟨dx2, lk2⟩ := hf2.look
    have his : i < S.stacks.length := by rw [wf.ls]; exact hi
    refine ⟨_, rfl, a, dx2, _, rfl, lk2.o, mo.free (by decide +kernel), _, rfl, a, i, _, _, S.cnt, F, rfl, hA2, hi, his, wf.k _ (wf.mem hi), wf.kp _ (wf.mem hi), wf.wk i _ (FS.st_at hi) (FS.ru_none hk).2, fun H3 F3 hA3 fr3 gr3 => ?_⟩
    exact q i rfl hi hk _ _ hA3 ((Fr.same s1).trans .refl (fr2.trans .refl fr3)) (Grow.refl.trans ((Fr.same s1).trans .refl fr2) gr3)
end
end K25F

set_option maxRecDepth 100000
set_option maxHeartbeats 4000000
namespace K25F
open PySem PySem.Spec L2 Rm
open PyProof.Rows hiding St
section
variable {P : Program} {w : World} {K : PySem.W.Frag} {mg : Str → Option Value} {base : Heap} {C CP : Addr} {more : List (Str × V)} {EE : EA}
theorem sc_Fates_running : FnScope ["self"] ["self"] (defScope s_Fates_running) :=
  ⟨rfl, rfl, rfl, by decide +kernel, rfl, by decide +kernel, by decide +kernel⟩
theorem ok_runlist {f : Addr} {fd : FuncData} (F0 : Fun K "running" "Fates.running" s_Fates_running f fd) (B : Bl mg) (FCC : FC K C) :
    FnG P w K mg base CX0 1 f fd ["self"] (spGetL C CP more fun S => S.work) := by
  refine fn_q F0 sc_Fates_running (fun vs H Q E h => ?_) (fun cdv A outer s H vs Q E hr hG h => ?_)
  · obtain ⟨a, S, F, rfl, _⟩ := h
    rfl
  · obtain ⟨a, S, F, rfl, ⟨ad, hf, hF⟩, q⟩ := h
    refine ⟨_, (pss_one (ps_ret (pe_callTy call_list_of (by rfl) B.n_list (by decide +kernel) (pa_cons (pe_fld (pv 0) rfl) pa_nil)))), ?_⟩
    obtain ⟨dx, lk⟩ := hf.look
    exact ⟨_, rfl, a, C, dx, _, _, rfl, lk.o, FCC.cls, FCC.n2, rfl, _, _, rfl, .inl (.inl (.inl lk.w)), q⟩
theorem sc_Fates_state : FnScope ["self", "number"] ["self", "number"] (defScope s_Fates_state) :=
  ⟨rfl, rfl, rfl, by decide +kernel, rfl, by decide +kernel, by decide +kernel⟩
theorem ok_state {f : Addr} {fd : FuncData} (F0 : Fun K "state" "Fates.state" s_Fates_state f fd) (FCC : FC K C) (mo : MO more)
    (M_Fates__check_known : Cm P w K mg base (L2.CX P w) 4 C "_check_known" ["self", "number"] (spAsk K C CP more EE FS.kn)) :
    FnG P w K mg base (L2.CX P w) 5 f fd ["self", "number"] (spGetN K C CP more EE qSt) := by
  refine fn_in F0 sc_Fates_state (fun vs H Q E h => ?_) (fun cdv A outer s H vs Q E hr hG h => ?_)
  · obtain ⟨a, x, d, S, F, rfl, _⟩ := h
    rfl
  · obtain ⟨a, x, d, S, F, rfl, hA, hx, wf, e, q⟩ := h
    have hu := hu_of hr
    refine ⟨_, (pss_cons (ps_expr (pe_cm M_Fates__check_known (hr.mono (by decide)) hG (pv 0) (pa_cons (pv 1) pa_nil) (passes_call (takes_of rfl rfl rfl rfl) (fun _ _ _ _ h => h))))
      (pss_one (ps_ret (pe_ix ix_list (pe_fld (pv 0) rfl) (pe_op op_sub (pv 1) pe_int) (fun _ _ => rfl))))), ?_⟩
    obtain ⟨ad, hf, hF⟩ := id hA
    obtain ⟨dx, lk⟩ := hf.look
    refine ⟨_, rfl, a, dx, _, rfl, lk.o, mo.free (by decide +kernel), _, rfl, a, x, d, S, F, rfl, hA, hx, Nat.le_trans wf.n (by decide), fun hk H1 s1 => ?_, e⟩
    obtain ⟨i, rfl, hi⟩ := FS.kn_none hk
    cases hx
    exact ⟨_, rfl, a, C, dx, _, _, rfl, s1 _ _ lk.o, FCC.cls, FCC.n3, rfl, _, rfl, _, _, rfl, rfl, _, _, _, _, rfl, rfl, .inl (.inl (s1 _ _ lk.s)), st_atI hi, q i rfl hi _ s1⟩
theorem sc_Fates_parts : FnScope ["self", "number"] ["self", "number"] (defScope s_Fates_parts) :=
  ⟨rfl, rfl, rfl, by decide +kernel, rfl, by decide +kernel, by decide +kernel⟩
theorem ok_parts {f : Addr} {fd : FuncData} (F0 : Fun K "parts" "Fates.parts" s_Fates_parts f fd) (B : Bl mg) (FCC : FC K C) (mo : MO more)
    (M_Fates__check_known : Cm P w K mg base (L2.CX P w) 4 C "_check_known" ["self", "number"] (spAsk K C CP more EE FS.kn)) :
    FnG P w K mg base (L2.CX P w) 5 f fd ["self", "number"] (spGetN K C CP more EE qPt) := by
  refine fn_in F0 sc_Fates_parts (fun vs H Q E h => ?_) (fun cdv A outer s H vs Q E hr hG h => ?_)
  · obtain ⟨a, x, d, S, F, rfl, _⟩ := h
    rfl
  · obtain ⟨a, x, d, S, F, rfl, hA, hx, wf, e, q⟩ := h
    have hu := hu_of hr
    refine ⟨_, (pss_cons (ps_expr (pe_cm M_Fates__check_known (hr.mono (by decide)) hG (pv 0) (pa_cons (pv 1) pa_nil) (passes_call (takes_of rfl rfl rfl rfl) (fun _ _ _ _ h => h))))
      (pss_one (ps_ret (pe_callTy call_list_of (by rfl) B.n_list (by decide +kernel) (pa_cons (pe_ix ix_list (pe_fld (pv 0) rfl) (pe_op op_sub (pv 1) pe_int) (fun _ _ => rfl)) pa_nil))))), ?_⟩
    obtain ⟨ad, hf, hF⟩ := id hA
    obtain ⟨dx, lk⟩ := hf.look
    refine ⟨_, rfl, a, dx, _, rfl, lk.o, mo.free (by decide +kernel), _, rfl, a, x, d, S, F, rfl, hA, hx, Nat.le_trans wf.n (by decide), fun hk H1 s1 => ?_, e⟩
    obtain ⟨i, rfl, hi⟩ := FS.kn_none hk
    cases hx
    have his : i < S.stacks.length := by rw [wf.ls]; exact hi
    exact ⟨_, rfl, a, C, dx, _, _, rfl, s1 _ _ lk.o, FCC.cls, FCC.n4, rfl, _, rfl, _, _, rfl, rfl, ad .stacks, _, _, .ref (ad (.stack i)), rfl, rfl, .inl (.inl (s1 _ _ lk.k)), refs_atI his, _, _, rfl, .inl (.inl (.inl (s1 _ _ (hf.stk (wf.stk hi))))), q i rfl hi _ s1⟩
theorem sc_Fates___init__ : FnScope ["self"] ["self"] (defScope s_Fates___init__) :=
  ⟨rfl, rfl, rfl, by decide +kernel, rfl, by decide +kernel, by decide +kernel⟩
theorem ok_finit {f : Addr} {fd : FuncData} (F0 : Fun K "__init__" "Fates.__init__" s_Fates___init__ f fd) (FCC : FC K C) :
    FnG P w K mg base CX0 1 f fd ["self"] (spFInit C CP) := by
  refine fn_q F0 sc_Fates___init__ (fun vs H Q E h => ?_) (fun cdv A outer s H vs Q E hr hG h => ?_)
  · obtain ⟨a, dx, rfl, _⟩ := h
    rfl
  · obtain ⟨a, dx, rfl, ha, q⟩ := h
    refine ⟨_, (pss_cons (ps_fld (pv 0) pe_int rfl)
      (pss_cons (ps_fld (pv 0) pe_int rfl)
      (pss_cons (ps_fld (pv 0) (pe_lst pa_nil) rfl)
      (pss_cons (ps_fld (pv 0) (pe_lst pa_nil) rfl)
      (pss_cons (ps_fld (pv 0) (pe_lst pa_nil) rfl)
      (pss_one (ps_fld (pv 0) (pe_lst pa_nil) rfl))))))), ?_⟩
    refine ⟨_, rfl, _, C, dx, _, rfl, ha, FCC.cls, FCC.n0, (show 0 < 1000 by decide), ?_⟩
    refine ⟨_, rfl, _, C, dx, _, rfl, upd_same, FCC.cls, FCC.n1, (show 1 < 1000 by decide), ?_⟩
    rw [upd_upd, pf2]
    have f0 : Rm.Fr (fun b => b = a) H (upd H a (.ins C dx [("_done", .int 0), ("_commits", .int 0)])) := Fr.put rfl
    have a0 := upd_same (H := H) (a := a) (o := .ins C dx [("_done", V.int 0), ("_commits", .int 0)])
    generalize upd H a (.ins C dx [("_done", V.int 0), ("_commits", .int 0)]) = H0 at f0 a0 ⊢
    refine ⟨(show 0 ≤ sizeLine by decide), fun w nw => ?_⟩
    have aw : a ≠ w := fun e => by rw [← e, a0] at nw; cases nw
    refine ⟨_, rfl, _, C, dx, _, rfl, (upd_ne aw).trans a0, FCC.cls, FCC.n2, (show 2 < 1000 by decide), ?_⟩
    rw [pf3]
    have T1 := stp (o := .ins C dx [("_done", V.int 0), ("_commits", .int 0), ("_at_work", .ref w)]) f0 a0 nw
    generalize upd (upd H0 w (.lst [])) a (.ins C dx [("_done", V.int 0), ("_commits", .int 0), ("_at_work", .ref w)]) = H1 at T1 ⊢
    refine ⟨(show 0 ≤ sizeLine by decide), fun s' ns => ?_⟩
    have as : a ≠ s' := fun e => by rw [← e, T1.oa] at ns; cases ns
    refine ⟨_, rfl, _, C, dx, _, rfl, (upd_ne as).trans T1.oa, FCC.cls, FCC.n3, (show 3 < 1000 by decide), ?_⟩
    rw [pf4]
    have T2 := stp (o := .ins C dx [("_done", V.int 0), ("_commits", .int 0), ("_at_work", .ref w), ("_states", .ref s')]) T1.fr T1.oa ns
    generalize upd (upd H1 s' (.lst [])) a (.ins C dx [("_done", V.int 0), ("_commits", .int 0), ("_at_work", .ref w), ("_states", .ref s')]) = H2 at T2 ⊢
    refine ⟨(show 0 ≤ sizeLine by decide), fun k nk => ?_⟩
    have ak : a ≠ k := fun e => by rw [← e, T2.oa] at nk; cases nk
    refine ⟨_, rfl, _, C, dx, _, rfl, (upd_ne ak).trans T2.oa, FCC.cls, FCC.n4, (show 4 < 1000 by decide), ?_⟩
    rw [pf5]
    have T3 := stp (o := .ins C dx [("_done", V.int 0), ("_commits", .int 0), ("_at_work", .ref w), ("_states", .ref s'), ("_stacks", .ref k)]) T2.fr T2.oa nk
    generalize upd (upd H2 k (.lst [])) a (.ins C dx [("_done", V.int 0), ("_commits", .int 0), ("_at_work", .ref w), ("_states", .ref s'), ("_stacks", .ref k)]) = H3 at T3 ⊢
    refine ⟨(show 0 ≤ sizeLine by decide), fun p np => ?_⟩
    have ap : a ≠ p := fun e => by rw [← e, T3.oa] at np; cases np
    refine ⟨_, rfl, _, C, dx, _, rfl, (upd_ne ap).trans T3.oa, FCC.cls, FCC.n5, (show 5 < 1000 by decide), ?_⟩
    rw [pf6]
    have T4 := stp (o := .ins C dx [("_done", V.int 0), ("_commits", .int 0), ("_at_work", .ref w), ("_states", .ref s'), ("_stacks", .ref k), ("_all_parts", .ref p)]) T3.fr T3.oa np
    generalize upd (upd H3 p (.lst [])) a (.ins C dx [("_done", V.int 0), ("_commits", .int 0), ("_at_work", .ref w), ("_states", .ref s'), ("_stacks", .ref k), ("_all_parts", .ref p)]) = H4 at T4 ⊢
    have w2 := T2.k _ _ T1.oy T1.ne
    have w3 := T3.k _ _ w2 T1.ne
    have w4 := T4.k _ _ w3 T1.ne
    have s3 := T3.k _ _ T2.oy T2.ne
    have s4 := T4.k _ _ s3 T2.ne
    have k4 := T4.k _ _ T3.oy T3.ne
    have ws : w ≠ s' := fun e => by rw [← e, T1.oy] at ns; cases ns
    have wk : w ≠ k := fun e => by rw [← e, w2] at nk; cases nk
    have wp : w ≠ p := fun e => by rw [← e, w3] at np; cases np
    have sk : s' ≠ k := fun e => by rw [← e, T2.oy] at nk; cases nk
    have sp : s' ≠ p := fun e => by rw [← e, s3] at np; cases np
    have kp : k ≠ p := fun e => by rw [← e, T3.oy] at np; cases np
    let ad : Ro → Addr := fun r => match r with
      | .work => w | .states => s' | .stacks => k | .parts => p | _ => a
    have hf : FsAt C CP [] H4 a .zero ad := by
      refine ⟨rfl, fun r r' hr hr' e => ?_, dx, fun _ => dx, fun r hr => ?_⟩
      · cases r <;> cases r' <;> first | rfl | exact absurd hr (Nat.not_lt_zero _) | exact absurd hr' (Nat.not_lt_zero _) | exact absurd e aw | exact absurd e.symm aw | exact absurd e as | exact absurd e.symm as | exact absurd e ak | exact absurd e.symm ak | exact absurd e ap | exact absurd e.symm ap | exact absurd e ws | exact absurd e.symm ws | exact absurd e wk | exact absurd e.symm wk | exact absurd e wp | exact absurd e.symm wp | exact absurd e sk | exact absurd e.symm sk | exact absurd e sp | exact absurd e.symm sp | exact absurd e kp | exact absurd e.symm kp
      · cases r with
        | obj => exact T4.oa
        | work => exact w4
        | states => exact s4
        | stacks => exact k4
        | parts => exact T4.oy
        | stack i => exact absurd hr (Nat.not_lt_zero _)
        | part i => exact absurd hr (Nat.not_lt_zero _)
    refine q H4 (Foot .zero ad) ⟨ad, hf, fun b => .rfl⟩ T4.fr ?_
    rintro b ⟨r, hr, rfl⟩
    cases r with
    | obj => exact .inl rfl
    | work => exact .inr T1.n
    | states => exact .inr T2.n
    | stacks => exact .inr T3.n
    | parts => exact .inr T4.n
    | stack i => exact absurd hr (Nat.not_lt_zero _)
    | part i => exact absurd hr (Nat.not_lt_zero _)
end
end K25F

set_option maxRecDepth 100000
set_option maxHeartbeats 4000000
namespace K25F
open PySem PySem.Spec L2 Rm
open PyProof.Rows hiding St
section
variable {P : Program} {w : World} {K : PySem.W.Frag} {mg : Str → Option Value} {base : Heap} {C CP : Addr} {more : List (Str × V)} {EE : EA}
theorem sc_Fates_is_part : FnScope ["self", "part"] ["self", "part"] (defScope s_Fates_is_part) :=
  ⟨rfl, rfl, rfl, by decide +kernel, rfl, by decide +kernel, by decide +kernel⟩
theorem ok_isP {f : Addr} {fd : FuncData} (F0 : Fun K "is_part" "Fates.is_part" s_Fates_is_part f fd) (B : Bl mg) (FCC : FC K C)
    (D_is_within : Ce P w K mg base CX0 2 "is_within" ["value", "least", "most"] (spWi K)) :
    FnG P w K mg base CX0 3 f fd ["self", "part"] (spIsT K C CP more fun S => S.parts.length) := by
  refine fn_q F0 sc_Fates_is_part (fun vs H Q E h => ?_) (fun cdv A outer s H vs Q E hr hG h => ?_)
  · obtain ⟨a, x, d, S, F, rfl, _⟩ := h
    rfl
  · obtain ⟨a, x, d, S, F, rfl, ⟨ad, hf, hF⟩, hx, q⟩ := h
    have hu := hu_of hr
    refine ⟨_, (pss_one (ps_ret (pe_ce D_is_within (hr.mono (by decide)) hG (pa_cons (pv 1) (pa_cons pe_int (pa_cons (pe_callB call_len_seq (by rfl) B.n_len (by decide +kernel) (pa_cons (pe_fld (pv 0) rfl) pa_nil)) pa_nil))) pass0))), ?_⟩
    obtain ⟨dx, lk⟩ := hf.look
    refine ⟨_, rfl, _, rfl, a, C, dx, _, _, rfl, lk.o, FCC.cls, FCC.n5, rfl, _, _, rfl, .inl (.inl (.inl lk.p)), x, d, 1, S.parts.length, by simp, hx, q⟩
theorem sc_Fates__check_part : FnScope ["self", "part"] ["self", "part"] (defScope s_Fates__check_part) :=
  ⟨rfl, rfl, rfl, by decide +kernel, rfl, by decide +kernel, by decide +kernel⟩
theorem ok_checkpart {f : Addr} {fd : FuncData} (F0 : Fun K "_check_part" "Fates._check_part" s_Fates__check_part f fd) (mo : MO more)
    (M_Fates_is_part : Cm P w K mg base CX0 3 C "is_part" ["self", "part"] (spIsT K C CP more fun S => S.parts.length)) (X_UnknownPart : Er P w K mg base "UnknownPart" EE.up "value") :
    FnG P w K mg base (L2.CX P w) 4 f fd ["self", "part"] (spAsk K C CP more EE FS.kp) := by
  refine fn_in F0 sc_Fates__check_part (fun vs H Q E h => ?_) (fun cdv A outer s H vs Q E hr hG h => ?_)
  · obtain ⟨a, x, d, S, F, rfl, _⟩ := h
    rfl
  · obtain ⟨a, x, d, S, F, rfl, hA, hx, hsz, q, e⟩ := h
    have hu := hu_of hr
    refine ⟨_, (pss_one (ps_if (pt_not (pt_val (pe_cm M_Fates_is_part (hr.mono (by decide)) hG (pv 0) (pa_cons (pv 1) pa_nil) pass0))) (pss_one (ps_raise rfl (takes_of rfl rfl rfl rfl) (pmk_er X_UnknownPart (hr.mono (by decide)) hG (pv 1)))) pss_nil)), ?_⟩
    obtain ⟨ad, hf, hF⟩ := id hA
    obtain ⟨dx, lk⟩ := hf.look
    refine ⟨_, rfl, a, dx, _, rfl, lk.o, mo.free (by decide +kernel), _, rfl, a, x, d, S, F, rfl, hA, hx, ?_⟩
    cases e1 : isW 1 S.parts.length d with
    | false => exact ⟨_, rfl, _, rfl, x, rfl, e .up (by simp [FS.kp, e1]) _ (.refl _)⟩
    | true => exact ⟨_, rfl, q (by simp [FS.kp, e1]) _ (.refl _)⟩
theorem sc_Fates_transaction : FnScope ["self", "part"] ["self", "part"] (defScope s_Fates_transaction) :=
  ⟨rfl, rfl, rfl, by decide +kernel, rfl, by decide +kernel, by decide +kernel⟩
theorem ok_transaction {f : Addr} {fd : FuncData} (F0 : Fun K "transaction" "Fates.transaction" s_Fates_transaction f fd) (FCC : FC K C) (PCC : PC K CP) (mo : MO more)
    (M_Fates__check_part : Cm P w K mg base (L2.CX P w) 4 C "_check_part" ["self", "part"] (spAsk K C CP more EE FS.kp)) :
    FnG P w K mg base (L2.CX P w) 5 f fd ["self", "part"] (spPt K C CP more EE fun S q => .int ((S.parts[(q - 1).toNat]?).map PI.holder |>.getD 0)) := by
  refine fn_in F0 sc_Fates_transaction (fun vs H Q E h => ?_) (fun cdv A outer s H vs Q E hr hG h => ?_)
  · obtain ⟨a, x, d, S, F, rfl, _⟩ := h
    rfl
  · obtain ⟨a, x, d, S, F, rfl, hA, hx, wf, tr, e, q⟩ := h
    have hu := hu_of hr
    refine ⟨_, (pss_cons (ps_expr (pe_cm M_Fates__check_part (hr.mono (by decide)) hG (pv 0) (pa_cons (pv 1) pa_nil) (passes_call (takes_of rfl rfl rfl rfl) (fun _ _ _ _ h => h))))
      (pss_one (ps_ret (pe_fld (pe_ix ix_list (pe_fld (pv 0) rfl) (pe_op op_sub (pv 1) pe_int) (fun _ _ => rfl)) rfl)))), ?_⟩
    obtain ⟨ad, hf, hF⟩ := id hA
    obtain ⟨dx, lk⟩ := hf.look
    refine ⟨_, rfl, a, dx, _, rfl, lk.o, mo.free (by decide +kernel), _, rfl, a, x, d, S, F, rfl, hA, hx, Nat.le_trans wf.n (by decide), fun hk H1 s1 => ?_, e⟩
    obtain ⟨j, rfl, hj⟩ := FS.kp_none hk
    cases hx
    have hf1 := hf.same s1
    obtain ⟨dx1, lk1⟩ := hf1.look
    have hp := List.getElem?_eq_getElem hj
    obtain ⟨dp, hd⟩ := hf1.prt hp
    refine ⟨_, rfl, a, C, dx1, _, _, rfl, lk1.o, FCC.cls, FCC.n5, rfl, _, rfl, _, _, rfl, rfl, ad .parts, _, _, .ref (ad (.part j)), rfl, rfl, .inl (.inl lk1.p), refs_atI hj, ?_⟩
    refine ⟨_, CP, dp, _, _, rfl, hd, PCC.cls, PCC.n0, rfl, ?_⟩
    have z := q j rfl hj H1 s1
    dsimp only at z
    rw [Int.add_sub_cancel, Int.toNat_natCast, hp] at z
    exact z
theorem sc_Fates_root : FnScope ["self", "part"] ["self", "part"] (defScope s_Fates_root) :=
  ⟨rfl, rfl, rfl, by decide +kernel, rfl, by decide +kernel, by decide +kernel⟩
theorem ok_root {f : Addr} {fd : FuncData} (F0 : Fun K "root" "Fates.root" s_Fates_root f fd) (FCC : FC K C) (PCC : PC K CP) (mo : MO more)
    (M_Fates__check_part : Cm P w K mg base (L2.CX P w) 4 C "_check_part" ["self", "part"] (spAsk K C CP more EE FS.kp)) :
    FnG P w K mg base (L2.CX P w) 5 f fd ["self", "part"] (spPt K C CP more EE fun S q => .int (S.root q)) := by
  refine fn_in F0 sc_Fates_root (fun vs H Q E h => ?_) (fun cdv A outer s H vs Q E hr hG h => ?_)
  · obtain ⟨a, x, d, S, F, rfl, _⟩ := h
    rfl
  · obtain ⟨a, x, d, S, F, rfl, hA, hx, wf, tr, e, q⟩ := h
    have hu := hu_of hr
    refine ⟨_, (pss_cons (ps_expr (pe_cm M_Fates__check_part (hr.mono (by decide)) hG (pv 0) (pa_cons (pv 1) pa_nil) (passes_call (takes_of rfl rfl rfl rfl) (fun _ _ _ _ h => h))))
      (pss_cons (ps_while (passes_of rfl) (pt_cmpR op_notN (pe_fld (pe_ix ix_list (pe_fld (pv 0) rfl) (pe_op op_sub (pv 1) pe_int) (fun _ _ => rfl)) rfl) pe_non (nomark _)) (pss_one (ps_set (i := 1) sc_Fates_root.nd rfl (Or.inl rfl) (pe_fld (pe_ix ix_list (pe_fld (pv 0) rfl) (pe_op op_sub (pv 1) pe_int) (fun _ _ => rfl)) rfl))))
      (pss_one (ps_ret (pv 1))))), ?_⟩
    obtain ⟨ad, hf, hF⟩ := id hA
    obtain ⟨dx, lk⟩ := hf.look
    refine ⟨_, rfl, a, dx, _, rfl, lk.o, mo.free (by decide +kernel), _, rfl, a, x, d, S, F, rfl, hA, hx, Nat.le_trans wf.n (by decide), fun hk H1 s1 => ?_, e⟩
    obtain ⟨j0, rfl, hj0⟩ := FS.kp_none hk
    cases hx
    have hf1 := hf.same s1
    obtain ⟨dx1, lk1⟩ := hf1.look
    refine ⟨fun m σ H' => ∃ j : Nat, m = j ∧ j < S.parts.length ∧ σ = [some (.ref a), some (.int ((j : Int) + 1))] ∧ S.root ((j : Int) + 1) = S.root ((j0 : Int) + 1) ∧ H' = H1, ⟨j0, j0, rfl, hj0, rfl, rfl, rfl⟩, ?_⟩
    rintro j σ H2 ⟨_, rfl, hj, rfl, er, rfl⟩
    have hp := List.getElem?_eq_getElem hj
    obtain ⟨dp, hd⟩ := hf1.prt hp
    refine ⟨_, rfl, a, C, dx1, _, _, rfl, lk1.o, FCC.cls, FCC.n5, rfl, _, rfl, _, _, rfl, rfl, ad .parts, _, _, .ref (ad (.part j)), rfl, rfl, .inl (.inl lk1.p), refs_atI hj, ?_⟩
    refine ⟨_, CP, dp, _, _, rfl, hd, PCC.cls, PCC.n2, rfl, rfl, _, rfl, ite2 (fun c => ?_) fun c => ?_⟩
    · have hr : S.parts[j].released.isSome = true := by
        cases y : S.parts[j].released with
        | none => rw [y] at c; simp [oI] at c
        | some _ => rfl
      obtain ⟨o, ho⟩ := Option.isSome_iff_exists.mp (tr.rl _ _ hp hr)
      obtain ⟨u1, u2⟩ := tr.up _ _ _ hp ho
      obtain ⟨i, rfl⟩ : ∃ i : Nat, o = (i : Int) + 1 := ⟨(o - 1).toNat, by omega⟩
      refine ⟨fun σ' H' => σ' = [some (.ref a), some (.int ((i : Int) + 1))] ∧ H' = H2, ?_, ?_⟩
      · rintro σ' H' ⟨rfl, rfl⟩
        exact ⟨i, by omega, i, rfl, by omega, rfl, (root_up tr hp hr ho).symm.trans er, rfl⟩
      · refine ⟨_, rfl, a, C, dx1, _, _, rfl, lk1.o, FCC.cls, FCC.n5, rfl, _, rfl, _, _, rfl, rfl, ad .parts, _, _, .ref (ad (.part j)), rfl, rfl, .inl (.inl lk1.p), refs_atI hj, ?_⟩
        refine ⟨_, CP, dp, _, _, rfl, hd, PCC.cls, PCC.n1, rfl, ?_⟩
        refine ⟨?_, rfl⟩
        rw [ho]
        rfl
    · have hr : S.parts[j].released = none := by
        cases y : S.parts[j].released with
        | none => rfl
        | some _ => rw [y] at c; simp [oI] at c
      refine ⟨_, rfl, ?_⟩
      have z := q j0 rfl hj0 H2 s1
      dsimp only at z
      rw [← er, root_here hp hr] at z
      exact z
theorem sc_Fates_fate : FnScope ["self", "part"] ["self", "part"] (defScope s_Fates_fate) :=
  ⟨rfl, rfl, rfl, by decide +kernel, rfl, by decide +kernel, by decide +kernel⟩
theorem ok_fate {f : Addr} {fd : FuncData} (F0 : Fun K "fate" "Fates.fate" s_Fates_fate f fd) (FCC : FC K C) (PCC : PC K CP) (mo : MO more)
    (M_Fates_root : Cm P w K mg base (L2.CX P w) 5 C "root" ["self", "part"] (spPt K C CP more EE fun S q => .int (S.root q))) :
    FnG P w K mg base (L2.CX P w) 6 f fd ["self", "part"] (spPt K C CP more EE fun S q => .str (S.out (S.root q))) := by
  refine fn_in F0 sc_Fates_fate (fun vs H Q E h => ?_) (fun cdv A outer s H vs Q E hr hG h => ?_)
  · obtain ⟨a, x, d, S, F, rfl, _⟩ := h
    rfl
  · obtain ⟨a, x, d, S, F, rfl, hA, hx, wf, tr, e, q⟩ := h
    have hu := hu_of hr
    refine ⟨_, (pss_one (ps_ret (pe_fld (pe_ix ix_list (pe_fld (pv 0) rfl) (pe_op op_sub (pe_cm M_Fates_root (hr.mono (by decide)) hG (pv 0) (pa_cons (pv 1) pa_nil) (passes_call (takes_of rfl rfl rfl rfl) (fun _ _ _ _ h => h))) pe_int) (fun _ _ => rfl)) rfl))), ?_⟩
    obtain ⟨ad, hf, hF⟩ := id hA
    obtain ⟨dx, lk⟩ := hf.look
    refine ⟨_, rfl, a, C, dx, _, _, rfl, lk.o, FCC.cls, FCC.n5, rfl, _, rfl, a, dx, _, rfl, lk.o, mo.free (by decide +kernel), _, rfl, a, x, d, S, F, rfl, hA, hx, wf, tr, e, fun j0 ej hj0 H1 s1 => ?_⟩
    subst ej
    have hf1 := hf.same s1
    obtain ⟨dx1, lk1⟩ := hf1.look
    obtain ⟨i, er, hi⟩ := root_is tr (j0 + 1) j0 (Nat.lt_succ_self _) hj0
    have z := q j0 rfl hj0 H1 s1
    dsimp only at z
    rw [er] at z
    rw [out_at hi] at z
    dsimp only
    rw [er]
    have hp := List.getElem?_eq_getElem hi
    obtain ⟨dp, hd⟩ := hf1.prt hp
    refine ⟨_, _, rfl, rfl, ad .parts, _, _, .ref (ad (.part i)), rfl, rfl, .inl (.inl lk1.p), refs_atI hi, ?_⟩
    exact ⟨_, CP, dp, _, _, rfl, hd, PCC.cls, PCC.n4, rfl, z⟩
end
end K25F

set_option maxRecDepth 100000
set_option maxHeartbeats 4000000
namespace K25
open PySem PySem.Spec L2 Rm K25F
open PyProof.Rows hiding St
def top (i : Nat) : Stmt := PySem.Challenge.pw_rowmarks_k25_versions_that_there_are_non.main.body.getD i (.Pass ⟨0, 0, 0, 0⟩)
abbrev s__wall : Stmt := top 0
abbrev s_UnknownTransaction___init__ : Stmt := inClass (top 3) 0
abbrev s_UnknownPart___init__ : Stmt := inClass (top 4) 0
abbrev s_UnknownVersion___init__ : Stmt := inClass (top 5) 0
abbrev s_Ended___init__ : Stmt := inClass (top 6) 0
abbrev s_Prepared___init__ : Stmt := inClass (top 7) 0
abbrev s_FirstPart___init__ : Stmt := inClass (top 8) 0
abbrev s_TooMany___init__ : Stmt := inClass (top 9) 0
abbrev s_is_whole : Stmt := top 11
abbrev s_is_within : Stmt := top 12
abbrev s_Row___init__ : Stmt := inClass (top 14) 0
abbrev s_Row_make : Stmt := inClass (top 14) 1
abbrev s_Row_standing : Stmt := inClass (top 14) 2
abbrev s_Row_base : Stmt := inClass (top 14) 3
abbrev s_Row_newest : Stmt := inClass (top 14) 4
abbrev s_Row_changer : Stmt := inClass (top 14) 5
abbrev s_Row_kept : Stmt := inClass (top 14) 6
abbrev s_Row_mark : Stmt := inClass (top 14) 7
abbrev s_Row_set_mark : Stmt := inClass (top 14) 8
abbrev s_Row_remove : Stmt := inClass (top 14) 9
abbrev s_Row__check_left : Stmt := inClass (top 14) 10
abbrev s_Row__fate : Stmt := inClass (top 14) 11
abbrev s_Row___getitem__ : Stmt := inClass (top 14) 12
abbrev s_Row___iter__ : Stmt := inClass (top 14) 13
abbrev s_Part___init__ : Stmt := inClass (top 17) 0
abbrev s_Fates___init__ : Stmt := inClass (top 18) 0
abbrev s_Fates_begin : Stmt := inClass (top 18) 1
abbrev s_Fates_save : Stmt := inClass (top 18) 2
abbrev s_Fates_release : Stmt := inClass (top 18) 3
abbrev s_Fates_back : Stmt := inClass (top 18) 4
abbrev s_Fates_prepare : Stmt := inClass (top 18) 5
abbrev s_Fates_commit : Stmt := inClass (top 18) 6
abbrev s_Fates_abort : Stmt := inClass (top 18) 7
abbrev s_Fates_crash : Stmt := inClass (top 18) 8
abbrev s_Fates_operations : Stmt := inClass (top 18) 9
abbrev s_Fates_moment : Stmt := inClass (top 18) 10
abbrev s_Fates_running : Stmt := inClass (top 18) 11
abbrev s_Fates_state : Stmt := inClass (top 18) 12
abbrev s_Fates_parts : Stmt := inClass (top 18) 13
abbrev s_Fates_is_transaction : Stmt := inClass (top 18) 14
abbrev s_Fates_is_part : Stmt := inClass (top 18) 15
abbrev s_Fates_root : Stmt := inClass (top 18) 16
abbrev s_Fates_owner : Stmt := inClass (top 18) 17
abbrev s_Fates_fate : Stmt := inClass (top 18) 18
abbrev s_Fates_transaction : Stmt := inClass (top 18) 19
abbrev s_Fates_around : Stmt := inClass (top 18) 20
abbrev s_Fates_joined_at : Stmt := inClass (top 18) 21
abbrev s_Fates_ended_at : Stmt := inClass (top 18) 22
abbrev s_Fates__count_operation : Stmt := inClass (top 18) 23
abbrev s_Fates__check_known : Stmt := inClass (top 18) 24
abbrev s_Fates__check_running : Stmt := inClass (top 18) 25
abbrev s_Fates__check_free : Stmt := inClass (top 18) 26
abbrev s_Fates__check_part : Stmt := inClass (top 18) 27
abbrev s_Fates__open_part : Stmt := inClass (top 18) 28
abbrev s_Fates__take_innermost : Stmt := inClass (top 18) 29
abbrev s_Fates__end_part : Stmt := inClass (top 18) 30
abbrev s_Fates__end_transaction : Stmt := inClass (top 18) 31
abbrev s__law_tape : Stmt := top 20
abbrev s__law_pick : Stmt := top 21
abbrev s__law_one_of : Stmt := top 22
abbrev s__law_any : Stmt := top 23
abbrev s__law_asked : Stmt := top 24
abbrev s__law_refused : Stmt := top 25
abbrev s__law_named_right : Stmt := top 26
abbrev s_law : Stmt := top 27
/-- the names that are built-in still -/
structure Bl (mg : Str → Option Value) : Prop where
  n_int : mg "int" = none
  n_len : mg "len" = none
  n_isinstance : mg "isinstance" = none
  n_str : mg "str" = none
  n_range : mg "range" = none
  n_max : mg "max" = none
  n_min : mg "min" = none
  n_list : mg "list" = none
  n_repr : mg "repr" = none
  n_enumerate : mg "enumerate" = none
  n_tuple : mg "tuple" = none
  n_sorted : mg "sorted" = none
  n_bool : mg "bool" = none
  n_dict : mg "dict" = none
  n_set : mg "set" = none
  n_ValueError : mg "ValueError" = none
section
variable {P : Program} {w : World} {K : PySem.W.Frag} {mg : Str → Option Value} {base : Heap}
theorem sc__law_pick : FnScope ["_law_tape_here", "_law_many", "_law_found", "_law_once"] ["_law_tape_here", "_law_many"] (defScope s__law_pick) :=
  ⟨rfl, rfl, rfl, by decide +kernel, rfl, by decide +kernel, by decide +kernel⟩
theorem ok_pick {f : Addr} {fd : FuncData} (F : Fun K "_law_pick" "_law_pick" s__law_pick f fd) (B : Bl mg) :
    FnG P w K mg base CX0 1 f fd ["_law_tape_here", "_law_many"] spPick := by
  refine fn_q F sc__law_pick (fun vs H Q E h => ?_) (fun cdv A outer s H vs Q E hr hG h => ?_)
  · obtain ⟨t, o, n, rfl, _⟩ := h
    rfl
  · obtain ⟨t, o, n, rfl, ht, ⟨dg, mx, rfl, ok⟩, h1, h2, k⟩ := h
    have hu := hu_of hr
    obtain ⟨hd0, hm0, hm1⟩ := ok
    refine ⟨_, (pss_cons (ps_if (pt_cmpR op_ge (pe_dget hu (pv 0) pe_str (fun _ _ => rfl)) (pv 1) (nomark _)) (pss_cons (ps_set (i := 2) sc__law_pick.nd rfl (Or.inl rfl) (pe_op op_modN (pe_callTy call_int1 (by rfl) B.n_int (by decide +kernel) (pa_cons (pe_dget hu (pv 0) pe_str (fun _ _ => rfl)) pa_nil)) (pv 1)))
      (pss_cons (ps_dput hu (pv 0) pe_str (pe_op op_fdivN (pe_dget hu (pv 0) pe_str (fun _ _ => rfl)) (pv 1)) rfl)
      (pss_one (ps_ret (pv 2))))) pss_nil)
      (pss_cons (ps_dput hu (pv 0) pe_str (pe_op op_mod (pe_callTy call_int1 (by rfl) B.n_int (by decide +kernel) (pa_cons (pe_op op_add (pe_op op_mulX (pe_dget hu (pv 0) pe_str (fun _ _ => rfl)) pe_int) pe_int) pa_nil)) pe_int) rfl)
      (pss_cons (ps_set (i := 3) sc__law_pick.nd rfl (Or.inl rfl) (pe_op op_mod (pe_callTy call_int1 (by rfl) B.n_int (by decide +kernel) (pa_cons (pe_op op_powX (pe_dget hu (pv 0) pe_str (fun _ _ => rfl)) pe_int) pa_nil)) pe_int))
      (pss_one (ps_ret (pe_op op_modN (pe_callTy call_int1 (by rfl) B.n_int (by decide +kernel) (pa_cons (pe_op op_fdiv (pe_op op_mod (pe_callTy call_int1 (by rfl) B.n_int (by decide +kernel) (pa_cons (pe_op op_powX (pv 3) pe_int) pa_nil)) pe_int) pe_int) pa_nil)) (pv 1))))))), ?_⟩
    refine ⟨_, rfl, _, _, rfl, tape_dg ht, _, rfl, _, _, rfl, rfl, _, rfl, ite2 (fun c => ?_) fun c => ?_⟩
    · have hn : n ≠ 0 := by omega
      refine ⟨_, rfl, _, _, rfl, tape_dg ht, .inl ⟨_, rfl, _, rfl, _, _, rfl, rfl, hn, ?_⟩⟩
      refine ⟨_, rfl, _, _, rfl, tape_dg ht, _, rfl, _, _, rfl, rfl, ⟨hn, by omega⟩, _, rfl, _, _, rfl, tape_pd ht, ?_⟩
      refine ⟨_, rfl, k _ _ ?_ ?_ ⟨_, _, rfl, ?_, hm0, hm1⟩⟩
      · exact Int.fmod_nonneg_of_pos _ (by omega)
      · exact Int.fmod_lt_of_pos _ (by omega)
      · exact Int.fdiv_nonneg hd0 (by omega)
    · have e1 : CMulX mx 40014 := mulx_ok (a := 32) (b := 32) (by omega) (by decide) (by decide)
      refine ⟨_, rfl, _, _, rfl, tape_mx ht, _, _, rfl, rfl, e1, _, _, rfl, rfl, .inl ⟨_, rfl, _, _, rfl, rfl, ?_, _, rfl, _, _, rfl, tape_pm ht, ?_⟩⟩
      · show (0 : Int) < 2147483563
        decide
      have m0 : 0 ≤ (mx * 40014 + 1017) % 2147483563 := Int.emod_nonneg _ (by decide)
      have m1 : (mx * 40014 + 1017) % 2147483563 < 2147483563 := Int.emod_lt_of_pos _ (by decide)
      have o0 : 0 ≤ ((mx * 40014 + 1017) % 2147483563) ^ (2 : Int).toNat % 2147483399 := Int.emod_nonneg _ (by decide)
      have o1 : ((mx * 40014 + 1017) % 2147483563) ^ (2 : Int).toNat % 2147483399 < 2147483399 := Int.emod_lt_of_pos _ (by decide)
      refine ⟨_, rfl, _, _, rfl, tape_mx upd_same, _, _, rfl, rfl, pow32 m0 (by omega) (by decide) (by decide), .inl ⟨_, rfl, _, _, rfl, rfl, ?_, ?_⟩⟩
      · show (0 : Int) < 2147483399
        decide
      refine ⟨_, rfl, _, _, rfl, rfl, pow32 o0 (by omega) (by decide) (by decide), .inl ⟨_, rfl, _, _, rfl, rfl, ?_, _, _, rfl, rfl, ?_, .inl ⟨_, rfl, _, rfl, _, _, rfl, rfl, (show n ≠ 0 by omega), ?_⟩⟩⟩
      · show (0 : Int) < 998244353
        decide
      · exact ⟨by decide, by decide⟩
      exact k _ _ (Int.fmod_nonneg_of_pos _ (by omega)) (Int.fmod_lt_of_pos _ (by omega)) ⟨_, _, rfl, hd0, m0, by omega⟩
theorem sc__law_one_of : FnScope ["_law_tape_here", "_law_items"] ["_law_tape_here", "_law_items"] (defScope s__law_one_of) :=
  ⟨rfl, rfl, rfl, by decide +kernel, rfl, by decide +kernel, by decide +kernel⟩
theorem ok_one {f : Addr} {fd : FuncData} (F : Fun K "_law_one_of" "_law_one_of" s__law_one_of f fd) (B : Bl mg)
    (D__law_pick : Ce P w K mg base CX0 1 "_law_pick" ["_law_tape_here", "_law_many"] spPick) :
    FnG P w K mg base CX0 2 f fd ["_law_tape_here", "_law_items"] (spOne K) := by
  refine fn_q F sc__law_one_of (fun vs H Q E h => ?_) (fun cdv A outer s H vs Q E hr hG h => ?_)
  · obtain ⟨t, l, o, xs, rfl, _⟩ := h
    rfl
  · obtain ⟨t, l, o, xs, rfl, ht, ho, hl, h1, h2, k⟩ := h
    have hu := hu_of hr
    refine ⟨_, (pss_one (ps_ret (pe_ix ix_list (pv 1) (pe_ce D__law_pick (hr.mono (by decide)) hG (pa_cons (pv 0) (pa_cons (pe_callB call_len_seq (by rfl) B.n_len (by decide +kernel) (pa_cons (pv 1) pa_nil)) pa_nil)) pass0) (fun _ _ => rfl)))), ?_⟩
    refine ⟨_, rfl, _, rfl, _, rfl, _, _, rfl, .inl hl, t, o, _, rfl, ht, ho, by omega, by omega, fun n o' n0 n1 ho' => ?_⟩
    have hb : n.toNat < xs.length := by omega
    refine ⟨_, _, _, _, rfl, rfl, sq_tape hl ht ho, ?_, k n.toNat _ _ (List.getElem?_eq_getElem hb) ho'⟩
    have e := atI_nat (xs := xs) (j := n.toNat) (v := xs[n.toNat]) (List.getElem?_eq_getElem hb)
    rw [Int.toNat_of_nonneg n0] at e
    exact e
theorem sc__law_tape : FnScope ["_law_script", "_law_start", "_law_mixed", "_law_cell", "_law_digits"] ["_law_script", "_law_start"] (defScope s__law_tape) :=
  ⟨rfl, rfl, rfl, by decide +kernel, rfl, by decide +kernel, by decide +kernel⟩
theorem ok_tape {f : Addr} {fd : FuncData} (F : Fun K "_law_tape" "_law_tape" s__law_tape f fd) (B : Bl mg) :
    FnG P w K mg base CX0 1 f fd ["_law_script", "_law_start"] (spTape K) := by
  refine fn_q F sc__law_tape (fun vs H Q E h => ?_) (fun cdv A outer s H vs Q E hr hG h => ?_)
  · obtain ⟨a, ns, z, rfl, _⟩ := h
    rfl
  · obtain ⟨a, ns, z, rfl, hl, hn, hbits, z0, z1, k⟩ := h
    have hu := hu_of hr
    refine ⟨_, (pss_cons (ps_set (i := 2) sc__law_tape.nd rfl (Or.inl rfl) (pe_op op_add pe_int (pe_op op_mulX (pv 1) pe_int)))
      (pss_cons (ps_for PassesOwn.never rfl (pi_list (pv 0)) (pg_name (i := 3) sc__law_tape.nd rfl (Or.inl rfl)) (pss_one (ps_set (i := 2) sc__law_tape.nd rfl (Or.inl rfl) (pe_op op_add (pe_op op_mod (pe_callTy call_int1 (by rfl) B.n_int (by decide +kernel) (pa_cons (pe_op op_powX (pe_op op_add (pe_op op_add (pe_op op_mulX (pv 2) pe_int) (pe_op op_mulX (pv 3) (pv 3))) pe_int) pe_int) pa_nil)) pe_int) pe_int))))
      (pss_cons (ps_set (i := 4) sc__law_tape.nd rfl (Or.inl rfl) (pe_ifExp (PW.pt (pw_and (pt_cmpR op_lt (pv 1) (pe_callB call_len_seq (by rfl) B.n_len (by decide +kernel) (pa_cons (pv 0) pa_nil)) (nomark _)) (pw_and1 (pt_cmpR op_ge (pe_ix ix_list (pv 0) (pv 1) (fun _ _ => rfl)) (pe_op op_powX pe_int pe_int) (nomark _))))) (pe_op op_sub (pe_ix ix_list (pv 0) (pv 1) (fun _ _ => rfl)) (pe_op op_powX pe_int pe_int)) pe_int))
      (pss_one (ps_ret (pe_disp (pps_cons pe_str (pv 4) (pps_cons pe_str (pv 2) pps_nil)) (by rfl) (by rfl) (fun z => by cases z) (by decide))))))), ?_⟩
    refine ⟨_, rfl, _, _, rfl, rfl, mulx_ok (a := 32) (b := 32) (by omega) (by decide) (by decide), _, _, rfl, rfl, ?_⟩
    refine ⟨_, rfl, a, rfl, ⟨_, hl⟩, for_list (xs := ns.map V.int) (fun i σ H' => H' = H ∧ ∃ m c, σ = [some (.ref a), some (.int z), some (.int m), c, none] ∧ 0 ≤ m ∧ m < 4294967296) ⟨rfl, _, _, rfl, by omega, by omega⟩ (fun i σ H' hi e => by rw [e.1]; exact hl) ?_ ?_⟩
    · rintro i x σ H' hx ⟨rfl, m, c, rfl, m0, m1⟩
      obtain ⟨y, hy, rfl⟩ : ∃ y, y ∈ ns ∧ x = V.int y := by
        rw [List.getElem?_map] at hx
        cases e : ns[i]? with
        | none => rw [e] at hx; cases hx
        | some y => rw [e] at hx; cases hx; exact ⟨y, List.mem_of_getElem? e, rfl⟩
      obtain ⟨c1, c2, c3⟩ := mix_pow m0 m1 (hbits y hy)
      refine ⟨_, rfl, _, _, rfl, rfl, c1, _, rfl, _, rfl, _, _, rfl, rfl, c2, _, _, rfl, rfl, _, _, rfl, rfl, _, _, rfl, rfl, c3, .inl ⟨_, rfl, _, _, rfl, rfl, ?_, _, _, rfl, rfl, rfl, _, _, rfl, ?_, ?_⟩⟩
      · show (0 : Int) < 2147483563
        decide
      · have := Int.emod_nonneg ((m * 30013 + y * y + 11) ^ (2 : Int).toNat) (show (2147483563 : Int) ≠ 0 by decide)
        omega
      · have := Int.emod_lt_of_pos ((m * 30013 + y * y + 11) ^ (2 : Int).toNat) (show (0 : Int) < 2147483563 by decide)
        omega
    · rintro σ H' ⟨rfl, m, c, rfl, m0, m1⟩
      have fin : ∀ d : Int, 0 ≤ d → ∀ p, H' p = none → Q (.ref p) (upd (upd H' p (.dK [])) p (tapeO d m)) := fun d d0 p hp => by
        rw [upd_upd]
        exact k p _ hp ⟨d, m, rfl, d0, m0, m1⟩
      have ends : ∀ d : Int, 0 ≤ d → (tRet (tDisp [((tC (V.str "digits")), tVar 4), ((tC (V.str "mixed")), tVar 2)])) { nx := fun _ H' => Q .non H', rt := Q } [some (.ref a), some (.int z), some (.int m), c, some (.int d)] H' := fun d d0 p hp => by
        have e : mergeK [] [((Sum.inr "digits" : Key), V.int d), (Sum.inr "mixed", V.int m)] = [((Sum.inr "digits" : Key), V.int d), (Sum.inr "mixed", V.int m)] := by
          simp [mergeK, putK, s_dm]
        refine ⟨_, rfl, _, rfl, upd_same, [(Sum.inr "digits", V.int d), (Sum.inr "mixed", V.int m)], rfl, by show 2 ≤ 15; decide, ?_⟩
        rw [e]
        exact fin d d0 p hp
      refine ⟨_, rfl, _, rfl, _, _, rfl, .inl hl, _, _, rfl, rfl, _, rfl, ite2 (fun c => ?_) fun c => ?_⟩
      · rw [List.length_map] at c
        have hb : z.toNat < ns.length := by
          have := of_decide_eq_true c
          omega
        have at_ : atI (ns.map V.int) z = some (V.int ns[z.toNat]) := by
          have e := atI_nat (xs := ns.map V.int) (j := z.toNat) (v := V.int ns[z.toNat]) (by rw [List.getElem?_map, List.getElem?_eq_getElem hb]; rfl)
          rw [Int.toNat_of_nonneg z0] at e
          exact e
        have p18 : CPowX 10 18 := pow32 (by decide) (by decide) (by decide) (by decide)
        refine ⟨_, rfl, _, rfl, _, _, _, _, rfl, rfl, hl, at_, _, _, rfl, rfl, p18, _, _, rfl, rfl, _, rfl, ite2 (fun c => ?_) fun c => ?_⟩
        · refine ⟨_, rfl, _, rfl, _, _, _, _, rfl, rfl, hl, at_, _, _, rfl, rfl, p18, _, _, rfl, rfl, ends _ ?_⟩
          have := of_decide_eq_true c
          omega
        · exact ends 0 (by decide)
      · exact ends 0 (by decide)
theorem sc__law_any : FnScope ["_law_tape_here", "_law_some"] ["_law_tape_here"] (defScope s__law_any) :=
  ⟨rfl, rfl, rfl, by decide +kernel, rfl, by decide +kernel, by decide +kernel⟩
theorem ok_any {f : Addr} {fd : FuncData} (F : Fun K "_law_any" "_law_any" s__law_any f fd)
    (D__law_one_of : Ce P w K mg base CX0 2 "_law_one_of" ["_law_tape_here", "_law_items"] (spOne K)) :
    FnG P w K mg base CX0 3 f fd ["_law_tape_here"] (spAnyN K) := by
  refine fn_q F sc__law_any (fun vs H Q E h => ?_) (fun cdv A outer s H vs Q E hr hG h => ?_)
  · obtain ⟨t, o, rfl, _⟩ := h
    rfl
  · obtain ⟨t, o, rfl, ht, ho, q⟩ := h
    have hu := hu_of hr
    refine ⟨_, (pss_cons (ps_set (i := 1) sc__law_any.nd rfl (Or.inl rfl) (pe_lst (pa_cons pe_non (pa_cons pe_bl (pa_cons pe_bl (pa_cons pe_int (pa_cons pe_int (pa_cons pe_int (pa_cons pe_int (pa_cons (pe_op op_sub pe_int pe_int) (pa_cons (pe_op op_powX pe_int pe_int) (pa_cons pe_str (pa_cons pe_str (pa_cons pe_str (pa_cons pe_str (pa_cons pe_str (pa_cons pe_str (pa_cons pe_str pa_nil))))))))))))))))))
      (pss_cons (ps_set (i := 1) sc__law_any.nd rfl (Or.inl rfl) (pe_op op_cat (pv 1) (pe_lst (pa_cons pe_str (pa_cons (pe_tup pa_nil) (pa_cons (pe_lst pa_nil) (pa_cons pe_dnewK (pa_cons (pe_tup (pa_cons pe_int pa_nil)) (pa_cons (pe_lst (pa_cons pe_int pa_nil)) (pa_cons (pe_disp (pps_cons pe_str pe_int pps_nil) (by rfl) (by rfl) (fun z => by cases z) (by decide)) (pa_cons (pe_tup (pa_cons pe_int (pa_cons pe_str (pa_cons pe_str pa_nil)))) (pa_cons (pe_tup (pa_cons pe_str pa_nil)) (pa_cons (pe_lst (pa_cons pe_str pa_nil)) (pa_cons pe_str pa_nil))))))))))))))
      (pss_one (ps_ret (pe_ce D__law_one_of (hr.mono (by decide)) hG (pa_cons (pv 0) (pa_cons (pv 1) pa_nil)) pass0))))), ?_⟩
    let x1 : List V := [.non, .bl true, .bl false, .int 0, .int 1, .int 2, .int 7, .int (0 - 1), .int (10 ^ (40 : Int).toNat), .str "", .str "a", .str "x",
      .str "hold", .str "locks", .str "Hold", .str "change "]
    have l16 : 16 ≤ sizeLine := by decide
    have lz : ∀ n, n ≤ 16 → n ≤ sizeLine := fun n h => Nat.le_trans h l16
    refine ⟨0, 1, rfl, rfl, 10, 40, rfl, rfl, ⟨by decide, by decide⟩, l16, fun p1 n1 => ?_⟩
    have N1 := new_at (.lst x1) n1 ht
    refine ⟨_, rfl, lz 0 (by decide), fun p2 n2 => ?_⟩
    have N2 := new_at (.tup []) n2 N1.th
    refine ⟨lz 0 (by decide), fun p3 n3 => ?_⟩
    have N3 := new_at (.lst []) n3 N2.th
    refine fun p4 n4 => ?_
    have N4 := new_at (.dK []) n4 N3.th
    refine ⟨lz 1 (by decide), fun p5 n5 => ?_⟩
    have N5 := new_at (.tup [.int 1]) n5 N4.th
    refine ⟨lz 1 (by decide), fun p6 n6 => ?_⟩
    have N6 := new_at (.lst [.int 1]) n6 N5.th
    refine fun p7 n7 => ⟨upd_same, [(.inr "x", .int 1)], rfl, by show 1 ≤ 15; decide, ?_⟩
    rw [upd_upd]
    have N7 := new_at (.dK [(.inr "x", .int 1)]) n7 N6.th
    refine ⟨lz 3 (by decide), fun p8 n8 => ?_⟩
    have N8 := new_at (.tup [.int 1, .str "locks", .str "hold"]) n8 N7.th
    refine ⟨lz 1 (by decide), fun p9 n9 => ?_⟩
    have N9 := new_at (.tup [.str "hold"]) n9 N8.th
    refine ⟨lz 1 (by decide), fun p10 n10 => ?_⟩
    have N10 := new_at (.lst [.str "hold"]) n10 N9.th
    refine ⟨lz 11 (by decide), fun p11 n11 => ?_⟩
    let x2 : List V := [.str "abcdefg", .ref p2, .ref p3, .ref p4, .ref p5, .ref p6, .ref p7, .ref p8, .ref p9, .ref p10, .str "1"]
    have N11 := new_at (.lst x2) n11 N10.th
    have S1 := ((((((((N2.s.trans N3.s).trans N4.s).trans N5.s).trans N6.s).trans N7.s).trans N8.s).trans N9.s).trans N10.s).trans N11.s
    refine ⟨p1, p11, x1, x2, rfl, rfl, S1 _ _ upd_same, upd_same, (show 27 ≤ sizeLine by decide), fun p12 n12 => ?_⟩
    have N12 := new_at (.lst (x1 ++ x2)) n12 N11.th
    refine ⟨_, rfl, _, rfl, t, p12, o, x1 ++ x2, rfl, N12.th, ho, .inl (.inl upd_same), (show 1 ≤ 27 by decide), (show 27 ≤ 1000000 by decide), fun i v o' hv ho' => ?_⟩
    let ds : List PyData := [.none, .bool true, .bool false, .int 0, .int 1, .int 2, .int 7, .int (0 - 1), .int (10 ^ (40 : Int).toNat), .str "", .str "a", .str "x",
      .str "hold", .str "locks", .str "Hold", .str "change ", .str "abcdefg", .tuple [], .list [], .dict [], .tuple [.int 1], .list [.int 1],
      .dict [(.str "x", .int 1)], .tuple [.int 1, .str "locks", .str "hold"], .tuple [.str "hold"], .list [.str "hold"], .str "1"]
    have t2 := N1.s
    have t3 := t2.trans N2.s
    have t4 := t3.trans N3.s
    have t5 := t4.trans N4.s
    have t6 := t5.trans N5.s
    have t7 := t6.trans N6.s
    have t8 := t7.trans N7.s
    have t9 := t8.trans N8.s
    have t10 := t9.trans N9.s
    have g12 := N12.s
    have g11 := N11.s.trans g12
    have g10 := N10.s.trans g11
    have g9 := N9.s.trans g10
    have g8 := N8.s.trans g9
    have g7 := N7.s.trans g8
    have g6 := N6.s.trans g7
    have g5 := N5.s.trans g6
    have g4 := N4.s.trans g5
    have g3 := N3.s.trans g4
    have hd : ∃ d, ds[i]? = some d ∧ Dx K _ v d := DxAll.get (H := _) (vs := x1 ++ x2) (ds := ds)
      (.cons .non <| .cons (.bl _) <| .cons (.bl _) <| .cons (.int _) <| .cons (.int _) <| .cons (.int _) <| .cons (.int _) <| .cons (.int _) <| .cons (.int _) <|
        .cons (.str _) <| .cons (.str _) <| .cons (.str _) <| .cons (.str _) <| .cons (.str _) <| .cons (.str _) <| .cons (.str _) <| .cons (.str _) <|
        .cons (.tup (.inl (.inl (nw_at (o' := o') ht (none_of t2 n2) (g3 _ _ upd_same)))) .nil) <| .cons (.lst (.inl (.inl (nw_at (o' := o') ht (none_of t3 n3) (g4 _ _ upd_same)))) .nil) <| .cons (.dic (.inl (nw_at (o' := o') ht (none_of t4 n4) (g5 _ _ upd_same))) .nil) <|
        .cons (.tup (.inl (.inl (nw_at (o' := o') ht (none_of t5 n5) (g6 _ _ upd_same)))) (.cons (.int _) .nil)) <| .cons (.lst (.inl (.inl (nw_at (o' := o') ht (none_of t6 n6) (g7 _ _ upd_same)))) (.cons (.int _) .nil)) <|
        .cons (.dic (.inl (nw_at (o' := o') ht (none_of t7 n7) (g8 _ _ upd_same))) (.cons (k := .inr "x") (.int _) .nil)) <|
        .cons (.tup (.inl (.inl (nw_at (o' := o') ht (none_of t8 n8) (g9 _ _ upd_same)))) (.cons (.int _) (.cons (.str _) (.cons (.str _) .nil)))) <|
        .cons (.tup (.inl (.inl (nw_at (o' := o') ht (none_of t9 n9) (g10 _ _ upd_same)))) (.cons (.str _) .nil)) <| .cons (.lst (.inl (.inl (nw_at (o' := o') ht (none_of t10 n10) (g11 _ _ upd_same)))) (.cons (.str _) .nil)) <|
        .cons (.str _) .nil) hv
    obtain ⟨d, h1, h2⟩ := hd
    refine q v d _ h2 (Sv.all (ds := ds) (by decide +kernel) h1) ⟨fun b u hb ne => ?_, _, upd_same, ho'⟩
    rw [upd_ne ne]
    exact N12.s _ _ (S1 _ _ (N1.s _ _ hb))

/-! ### a row -/
structure RwC (K : PySem.W.Frag) (C : Addr) : Prop where
  oc : OwnC K C
  v : NoAttr K C "_versions"
  m : NoAttr K C "_marks"
  n : NoAttr K C "_made"
def rowO (C dx v m : Addr) (n : Int) : HO := .ins C dx [("_versions", .ref v), ("_marks", .ref m), ("_made", .int n)]
def spNewR (C : Addr) : Sp := fun vs H Q _ => ∃ a dx x, vs = [.ref a, x] ∧ H a = some (.ins C dx []) ∧ ∀ v m tp H', H v = none → H m = none → v ≠ m → v ≠ a → m ≠ a → H' tp = some (.tup [x, .non, .non]) → H' v = some (.dK (enV [(0, .ref tp)])) → H' m = some (.dK (enV [(0, .non)])) → H' a = some (rowO C dx v m 1) →
  (∀ b u, H b = some u → b ≠ a → H' b = some u) → Q .non H'
theorem sc_Row___init__ : FnScope ["self", "value"] ["self", "value"] (defScope s_Row___init__) :=
  ⟨rfl, rfl, rfl, by decide +kernel, rfl, by decide +kernel, by decide +kernel⟩
theorem ok_new {f CM : Addr} {fd : FuncData} (F : Fun K "__init__" "Row.__init__" s_Row___init__ f fd) (MC : RwC K CM) :
    FnG P w K mg base CX0 1 f fd ["self", "value"] (spNewR CM) := by
  refine fn_q F sc_Row___init__ (fun vs H Q E h => ?_) (fun cdv A outer s H vs Q E hr hG h => ?_)
  · obtain ⟨a, dx, x, rfl, _⟩ := h
    rfl
  · obtain ⟨a, dx, x, rfl, ha, q⟩ := h
    have hu := hu_of hr
    refine ⟨_, (pss_cons (ps_fld (pv 0) (pe_disp (pps_cons pe_int (pe_tup (pa_cons (pv 1) (pa_cons pe_non (pa_cons pe_non pa_nil)))) pps_nil) (by rfl) (by rfl) (fun z => by cases z) (by decide)) rfl)
      (pss_cons (ps_fld (pv 0) (pe_disp (pps_cons pe_int pe_non pps_nil) (by rfl) (by rfl) (fun z => by cases z) (by decide)) rfl)
      (pss_one (ps_fld (pv 0) pe_int rfl)))), ?_⟩
    refine fun p np => ?_
    have pa : p ≠ a := fun e => by rw [e, ha] at np; cases np
    refine ⟨_, rfl, (show 3 ≤ sizeLine by decide), fun tp ntp => ?_⟩
    have tpp : tp ≠ p := fun e => by rw [e, upd_same] at ntp; cases ntp
    have tpa : tp ≠ a := fun e => by rw [e, upd_ne (Ne.symm pa), ha] at ntp; cases ntp
    have ntp0 : H tp = none := by rwa [upd_ne tpp] at ntp
    refine ⟨(upd_ne (Ne.symm tpp)).trans upd_same, [(Sum.inl 0, .ref tp)], rfl, by show 1 ≤ 15; decide, ?_⟩
    have em : ∀ y : V, mergeK [] [((Sum.inl 0 : Key), y)] = enV [(0, y)] := fun y => by simp [mergeK, putK, enV]
    rw [em]
    have s2 : Same H (upd (upd (upd H p (.dK [])) tp (.tup [x, .non, .non])) p (.dK (enV [(0, .ref tp)]))) := fun b u h =>
      (upd_ne fun e => by rw [e, np] at h; cases h).trans ((upd_ne fun e => by rw [e, ntp0] at h; cases h).trans ((upd_ne fun e => by rw [e, np] at h; cases h).trans h))
    have htp := (upd_ne (o := .dK (enV [(0, .ref tp)])) tpp).trans (upd_same (H := upd H p (.dK [])) (a := tp) (o := .tup [x, .non, .non]))
    have hp := upd_same (H := upd (upd H p (.dK [])) tp (.tup [x, .non, .non])) (a := p) (o := .dK (enV [(0, .ref tp)]))
    generalize upd (upd (upd H p (.dK [])) tp (.tup [x, .non, .non])) p (.dK (enV [(0, .ref tp)])) = H2 at s2 htp hp ⊢
    refine ⟨_, rfl, a, _, _, _, rfl, s2 _ _ ha, MC.oc.cls, MC.v, by decide, ?_⟩
    have ha3 := upd_same (H := H2) (a := a) (o := .ins CM dx [("_versions", .ref p)])
    have s3 : ∀ b u, H2 b = some u → b ≠ a → upd H2 a (.ins CM dx [("_versions", .ref p)]) b = some u := fun b u h ne => (upd_ne ne).trans h
    refine fun p2 np2 => ?_
    have p2a : p2 ≠ a := fun e => by rw [e, upd_same] at np2; cases np2
    have np20 : H2 p2 = none := by rwa [upd_ne p2a] at np2
    refine ⟨upd_same, [(Sum.inl 0, .non)], rfl, by show 1 ≤ 15; decide, ?_⟩
    rw [em, upd_upd]
    refine ⟨_, rfl, a, _, _, _, rfl, (upd_ne (Ne.symm p2a)).trans upd_same, MC.oc.cls, MC.m, (show 1 < 1000 by decide), ?_⟩
    refine ⟨_, rfl, a, _, _, _, rfl, upd_same, MC.oc.cls, MC.n, (show 2 < 1000 by decide), ?_⟩
    have pp2 : p ≠ p2 := fun e => by rw [← e, hp] at np20; cases np20
    have tp2 : tp ≠ p2 := fun e => by rw [← e, htp] at np20; cases np20
    rw [upd_upd]
    refine q p p2 tp _ np (none_of s2 np20) pp2 pa p2a ((upd_ne tpa).trans ((upd_ne tp2).trans ((upd_ne tpa).trans htp))) ((upd_ne pa).trans ((upd_ne pp2).trans ((upd_ne pa).trans hp))) ((upd_ne p2a).trans upd_same) upd_same fun b u h ne => ?_
    have h2 := s2 _ _ h
    exact (upd_ne ne).trans ((upd_ne fun e => by rw [e, np20] at h2; cases h2).trans ((upd_ne ne).trans h2))
def IsRow (C : Addr) (H : Hp) (r v m : Addr) (n : Int) : Prop := ∃ dx, H r = some (rowO C dx v m n)
def spLeftX (K : PySem.W.Frag) (C UC : Addr) : Sp := fun vs H Q E => ∃ r v m n D x d, vs = [.ref r, x] ∧ IsRow C H r v m n ∧ H v = some (.dK (enV D)) ∧ Dx K H x d ∧ (hasD D d = true → Q .non H) ∧
  (hasD D d = false → ∀ e, H e = none → E (.ref UC) (some e) (upd H e (.xd [("value", x)])))
theorem sc_Row__check_left : FnScope ["self", "number"] ["self", "number"] (defScope s_Row__check_left) :=
  ⟨rfl, rfl, rfl, by decide +kernel, rfl, by decide +kernel, by decide +kernel⟩
theorem ok_left {f CM UC : Addr} {fd : FuncData} (F : Fun K "_check_left" "Row._check_left" s_Row__check_left f fd) (MC : RwC K CM) (X_UnknownVersion : Er P w K mg base "UnknownVersion" UC "value")
    (D_is_whole : Ce P w K mg base CX0 1 "is_whole" ["value"] (fun vs H Q _ => ∃ x d, vs = [x] ∧ Dx K H x d ∧ Q (.bl (isI d)) H)) :
    FnG P w K mg base (L2.CX P w) 5 f fd ["self", "number"] (spLeftX K CM UC) := by
  refine fn_in F sc_Row__check_left (fun vs H Q E h => ?_) (fun cdv A outer s H vs Q E hr hG h => ?_)
  · obtain ⟨r, v, m, n, D, x, d, rfl, _⟩ := h
    rfl
  · obtain ⟨r, v, m, n, D, x, d, rfl, ⟨dx, hr'⟩, hv, hx, q, e⟩ := h
    have hu := hu_of hr
    refine ⟨_, (pss_one (ps_if (PW.pt (pw_or (pt_not (pt_val (pe_ce D_is_whole (hr.mono (by decide)) hG (pa_cons (pv 1) pa_nil) pass0))) (pw_or1 (pt_cmp (pc_dnotin hu (pv 1) (pe_fld (pv 0) rfl)))))) (pss_one (ps_raise rfl (takes_of rfl rfl rfl rfl) (pmk_er X_UnknownVersion (hr.mono (by decide)) hG (pv 1)))) pss_nil)), ?_⟩
    refine ⟨_, rfl, x, d, rfl, hx, _, rfl, ?_⟩
    cases d with
    | int i =>
      cases hx
      refine ite2 (fun c => by cases c) fun _ => ?_
      refine ⟨_, rfl, _, rfl, r, _, _, _, _, rfl, hr', MC.oc.cls, MC.v, rfl, v, _, rfl, .inl ⟨_, Sum.inl i, .inl hv, rfl, rfl⟩, ?_⟩
      rw [en_val]
      cases c : (valD D i).isSome with
      | true =>
        refine ⟨_, rfl, ite2 (fun c => by cases c) fun _ => ?_⟩
        exact q c
      | false =>
        refine ⟨_, rfl, ite2 (fun _ => ?_) fun c => absurd rfl c⟩
        exact ⟨_, rfl, _, rfl, fun e' he => e c e' he⟩
    | _ => exact ⟨_, rfl, _, rfl, fun e' he => e rfl e' he⟩
def spGetX (K : PySem.W.Frag) (C UC : Addr) : Sp := fun vs H Q E => ∃ r v m n D x d, vs = [.ref r, x] ∧ IsRow C H r v m n ∧ H v = some (.dK (enV D)) ∧ Dx K H x d ∧ (∀ i y, d = .int i → valD D i = some y → Q y H) ∧
  (hasD D d = false → ∀ e, H e = none → E (.ref UC) (some e) (upd H e (.xd [("value", x)])))
theorem sc_Row___getitem__ : FnScope ["self", "number"] ["self", "number"] (defScope s_Row___getitem__) :=
  ⟨rfl, rfl, rfl, by decide +kernel, rfl, by decide +kernel, by decide +kernel⟩
theorem ok_get {f CM UC : Addr} {fd : FuncData} (F : Fun K "__getitem__" "Row.__getitem__" s_Row___getitem__ f fd) (MC : RwC K CM)
    (M_Row__check_left : Cm P w K mg base (L2.CX P w) 5 CM "_check_left" ["self", "number"] (spLeftX K CM UC)) :
    FnG P w K mg base (L2.CX P w) 6 f fd ["self", "number"] (spGetX K CM UC) := by
  refine fn_in F sc_Row___getitem__ (fun vs H Q E h => ?_) (fun cdv A outer s H vs Q E hr hG h => ?_)
  · obtain ⟨r, v, m, n, D, x, d, rfl, _⟩ := h
    rfl
  · obtain ⟨r, v, m, n, D, x, d, rfl, hb, hv, hx, q, e⟩ := h
    have hu := hu_of hr
    refine ⟨_, (pss_cons (ps_expr (pe_cm M_Row__check_left (hr.mono (by decide)) hG (pv 0) (pa_cons (pv 1) pa_nil) (passes_call (takes_of rfl rfl rfl rfl) (fun _ _ _ _ h => h))))
      (pss_one (ps_ret (pe_dget hu (pe_fld (pv 0) rfl) (pv 1) (fun _ _ => rfl))))), ?_⟩
    obtain ⟨dx, hr'⟩ := id hb
    refine ⟨_, rfl, r, dx, _, rfl, hr', rfl, _, rfl, r, v, m, n, D, x, d, rfl, hb, hv, hx, fun c => ?_, e⟩
    obtain ⟨i, y, rfl, hy⟩ := has_is c
    cases hx
    refine ⟨_, rfl, r, _, _, _, _, rfl, hr', MC.oc.cls, MC.v, rfl, _, rfl, v, y, rfl, .inl ⟨_, Sum.inl i, .inl hv, rfl, ?_⟩, q i y rfl hy⟩
    rw [en_val]
    exact hy.symm
def spMarkX (K : PySem.W.Frag) (C UC : Addr) : Sp := fun vs H Q E => ∃ r v m n D M x d, vs = [.ref r, x] ∧ IsRow C H r v m n ∧ H v = some (.dK (enV D)) ∧ H m = some (.dK (enV M)) ∧ Dx K H x d ∧ (∀ i, d = .int i → (valD D i).isSome = true → ∃ y, valD M i = some y ∧ Q y H) ∧
  (hasD D d = false → ∀ e, H e = none → E (.ref UC) (some e) (upd H e (.xd [("value", x)])))
theorem sc_Row_mark : FnScope ["self", "number"] ["self", "number"] (defScope s_Row_mark) :=
  ⟨rfl, rfl, rfl, by decide +kernel, rfl, by decide +kernel, by decide +kernel⟩
theorem ok_mark {f CM UC : Addr} {fd : FuncData} (F : Fun K "mark" "Row.mark" s_Row_mark f fd) (MC : RwC K CM)
    (M_Row__check_left : Cm P w K mg base (L2.CX P w) 5 CM "_check_left" ["self", "number"] (spLeftX K CM UC)) :
    FnG P w K mg base (L2.CX P w) 6 f fd ["self", "number"] (spMarkX K CM UC) := by
  refine fn_in F sc_Row_mark (fun vs H Q E h => ?_) (fun cdv A outer s H vs Q E hr hG h => ?_)
  · obtain ⟨r, v, m, n, D, M, x, d, rfl, _⟩ := h
    rfl
  · obtain ⟨r, v, m, n, D, M, x, d, rfl, hb, hv, hm, hx, q, e⟩ := h
    have hu := hu_of hr
    refine ⟨_, (pss_cons (ps_expr (pe_cm M_Row__check_left (hr.mono (by decide)) hG (pv 0) (pa_cons (pv 1) pa_nil) (passes_call (takes_of rfl rfl rfl rfl) (fun _ _ _ _ h => h))))
      (pss_one (ps_ret (pe_dget hu (pe_fld (pv 0) rfl) (pv 1) (fun _ _ => rfl))))), ?_⟩
    obtain ⟨dx, hr'⟩ := id hb
    refine ⟨_, rfl, r, dx, _, rfl, hr', rfl, _, rfl, r, v, m, n, D, x, d, rfl, hb, hv, hx, fun c => ?_, e⟩
    obtain ⟨i, _, rfl, hi⟩ := has_is c
    obtain ⟨y, hy, q⟩ := q i rfl (by rw [hi]; rfl)
    cases hx
    refine ⟨_, rfl, r, _, _, _, _, rfl, hr', MC.oc.cls, MC.m, rfl, _, rfl, m, y, rfl, .inl ⟨_, Sum.inl i, .inl hm, rfl, ?_⟩, q⟩
    rw [en_val]
    exact hy.symm
def spSetX (K : PySem.W.Frag) (C UC : Addr) : Sp := fun vs H Q E => ∃ r v m n D M x d y, vs = [.ref r, x, y] ∧ IsRow C H r v m n ∧ H v = some (.dK (enV D)) ∧ H m = some (.dK (enV M)) ∧ M.length < 100 ∧ Dx K H x d ∧ (∀ i, d = .int i → (valD D i).isSome = true → (valD M i).isSome = true ∧ Q .non (upd H m (.dK (enV (setD M i y))))) ∧
  (hasD D d = false → ∀ e, H e = none → E (.ref UC) (some e) (upd H e (.xd [("value", x)])))
theorem sc_Row_set_mark : FnScope ["self", "number", "mark"] ["self", "number", "mark"] (defScope s_Row_set_mark) :=
  ⟨rfl, rfl, rfl, by decide +kernel, rfl, by decide +kernel, by decide +kernel⟩
theorem ok_set {f CM UC : Addr} {fd : FuncData} (F : Fun K "set_mark" "Row.set_mark" s_Row_set_mark f fd) (MC : RwC K CM)
    (M_Row__check_left : Cm P w K mg base (L2.CX P w) 5 CM "_check_left" ["self", "number"] (spLeftX K CM UC)) :
    FnG P w K mg base (L2.CX P w) 6 f fd ["self", "number", "mark"] (spSetX K CM UC) := by
  refine fn_in F sc_Row_set_mark (fun vs H Q E h => ?_) (fun cdv A outer s H vs Q E hr hG h => ?_)
  · obtain ⟨r, v, m, n, D, M, x, d, y, rfl, _⟩ := h
    rfl
  · obtain ⟨r, v, m, n, D, M, x, d, y, rfl, hb, hv, hm, lm, hx, q, e⟩ := h
    have hu := hu_of hr
    refine ⟨_, (pss_cons (ps_expr (pe_cm M_Row__check_left (hr.mono (by decide)) hG (pv 0) (pa_cons (pv 1) pa_nil) (passes_call (takes_of rfl rfl rfl rfl) (fun _ _ _ _ h => h))))
      (pss_one (ps_dput hu (pe_fld (pv 0) rfl) (pv 1) (pv 2) rfl))), ?_⟩
    obtain ⟨dx, hr'⟩ := id hb
    refine ⟨_, rfl, r, dx, _, rfl, hr', rfl, _, rfl, r, v, m, n, D, x, d, rfl, hb, hv, hx, fun c => ?_, e⟩
    obtain ⟨i, _, rfl, hi⟩ := has_is c
    obtain ⟨hy, q⟩ := q i rfl (by rw [hi]; rfl)
    cases hx
    refine ⟨_, rfl, _, rfl, r, _, _, _, _, rfl, hr', MC.oc.cls, MC.m, rfl, _, rfl, m, _, rfl, .inl ⟨_, Sum.inl i, hm, rfl, by rw [en_len]; exact Nat.lt_trans lm (by decide), rfl⟩, ?_⟩
    rw [en_set hy]
    exact q
end
end K25

set_option maxRecDepth 100000
set_option maxHeartbeats 4000000
namespace K25
open PySem PySem.Spec L2 Rm K25F
open PyProof.Rows hiding St
section
variable {P : Program} {w : World} {K : PySem.W.Frag} {mg : Str → Option Value} {base : Heap}
def spRemX (K : PySem.W.Frag) (C UC : Addr) : Sp := fun vs H Q E => ∃ r v m n D M x d, vs = [.ref r, x] ∧ IsRow C H r v m n ∧ v ≠ m ∧ H v = some (.dK (enV D)) ∧ H m = some (.dK (enV M)) ∧ Dx K H x d ∧ (∀ i, d = .int i → (valD D i).isSome = true → (valD M i).isSome = true ∧ Q .non (upd (upd H v (.dK (enV (dropD D i)))) m (.dK (enV (dropD M i))))) ∧
  (hasD D d = false → ∀ e, H e = none → E (.ref UC) (some e) (upd H e (.xd [("value", x)])))
theorem sc_Row_remove : FnScope ["self", "number"] ["self", "number"] (defScope s_Row_remove) :=
  ⟨rfl, rfl, rfl, by decide +kernel, rfl, by decide +kernel, by decide +kernel⟩
theorem ok_rem {f CM UC : Addr} {fd : FuncData} (F : Fun K "remove" "Row.remove" s_Row_remove f fd) (MC : RwC K CM)
    (M_Row__check_left : Cm P w K mg base (L2.CX P w) 5 CM "_check_left" ["self", "number"] (spLeftX K CM UC)) :
    FnG P w K mg base (L2.CX P w) 6 f fd ["self", "number"] (spRemX K CM UC) := by
  refine fn_in F sc_Row_remove (fun vs H Q E h => ?_) (fun cdv A outer s H vs Q E hr hG h => ?_)
  · obtain ⟨r, v, m, n, D, M, x, d, rfl, _⟩ := h
    rfl
  · obtain ⟨r, v, m, n, D, M, x, d, rfl, hb, vm, hv, hm, hx, q, e⟩ := h
    have hu := hu_of hr
    refine ⟨_, (pss_cons (ps_expr (pe_cm M_Row__check_left (hr.mono (by decide)) hG (pv 0) (pa_cons (pv 1) pa_nil) (passes_call (takes_of rfl rfl rfl rfl) (fun _ _ _ _ h => h))))
      (pss_one (ps_ddel2 (pe_fld (pv 0) rfl) (pv 1) (pe_fld (pv 0) rfl) (pv 1)))), ?_⟩
    obtain ⟨dx, hr'⟩ := id hb
    refine ⟨_, rfl, r, dx, _, rfl, hr', rfl, _, rfl, r, v, m, n, D, x, d, rfl, hb, hv, hx, fun c => ?_, e⟩
    obtain ⟨i, _, rfl, hi⟩ := has_is c
    have hi' : (valD D i).isSome = true := by rw [hi]; rfl
    obtain ⟨hy, q⟩ := q i rfl hi'
    cases hx
    have rv : r ≠ v := fun e => by rw [e, hv] at hr'; cases hr'
    refine ⟨_, rfl, r, _, _, _, _, rfl, hr', MC.oc.cls, MC.v, rfl, _, rfl, v, _, Sum.inl i, rfl, hv, rfl, by rw [en_val]; exact hi', ?_⟩
    rw [en_drop]
    refine ⟨_, rfl, r, _, _, _, _, rfl, (upd_ne rv).trans hr', MC.oc.cls, MC.m, rfl, _, rfl, m, _, Sum.inl i, rfl, (upd_ne (Ne.symm vm)).trans hm, rfl, by rw [en_val]; exact hy, ?_⟩
    rw [en_drop]
    exact q
def spMake (K : PySem.W.Frag) (C : Addr) : Sp := fun vs H Q _ => ∃ r v m n D M x y z, vs = [.ref r, x, y, z] ∧ IsRow C H r v m n ∧ v ≠ m ∧ H v = some (.dK (enV D)) ∧ H m = some (.dK (enV M)) ∧ valD D n = none ∧ valD M n = none ∧ D.length < 100 ∧ M.length < 100 ∧
  ∀ tp H', H tp = none → H' tp = some (.tup [x, y, z]) → IsRow C H' r v m (n + 1) → H' v = some (.dK (enV (D ++ [(n, .ref tp)]))) → H' m = some (.dK (enV (M ++ [(n, .non)]))) → (∀ b u, H b = some u → b ≠ r → b ≠ v → b ≠ m → H' b = some u) → Q (.int n) H'
theorem sc_Row_make : FnScope ["self", "value", "part", "mode", "number"] ["self", "value", "part", "mode"] (defScope s_Row_make) :=
  ⟨rfl, rfl, rfl, by decide +kernel, rfl, by decide +kernel, by decide +kernel⟩
theorem ok_make {f CM : Addr} {fd : FuncData} (F : Fun K "make" "Row.make" s_Row_make f fd) (MC : RwC K CM) :
    FnG P w K mg base CX0 1 f fd ["self", "value", "part", "mode"] (spMake K CM) := by
  refine fn_q F sc_Row_make (fun vs H Q E h => ?_) (fun cdv A outer s H vs Q E hr hG h => ?_)
  · obtain ⟨r, v, m, n, D, M, x, y, z, rfl, _⟩ := h
    rfl
  · obtain ⟨r, v, m, n, D, M, x, y, z, rfl, ⟨dx, hb⟩, vm, hv, hm, nD, nM, lD, lM, q⟩ := h
    have hu := hu_of hr
    refine ⟨_, (pss_cons (ps_set (i := 4) sc_Row_make.nd rfl (Or.inl rfl) (pe_fld (pv 0) rfl))
      (pss_cons (ps_fldaug (pv 0) pe_int in_add)
      (pss_cons (ps_dput hu (pe_fld (pv 0) rfl) (pv 4) (pe_tup (pa_cons (pv 1) (pa_cons (pv 2) (pa_cons (pv 3) pa_nil)))) rfl)
      (pss_cons (ps_dput hu (pe_fld (pv 0) rfl) (pv 4) pe_non rfl)
      (pss_one (ps_ret (pv 4))))))), ?_⟩
    have rv : r ≠ v := fun e => by rw [e, hv] at hb; cases hb
    have rm : r ≠ m := fun e => by rw [e, hm] at hb; cases hb
    refine ⟨_, rfl, r, _, _, _, _, rfl, hb, MC.oc.cls, MC.n, rfl, ?_⟩
    refine ⟨_, rfl, r, _, _, _, _, rfl, hb, MC.oc.cls, MC.n, rfl, ?_⟩
    refine ⟨_, _, rfl, rfl, dx, _, hb, (show 3 < 1000 by decide), ?_⟩
    have hr1 := upd_same (H := H) (a := r) (o := rowO CM dx v m (n + 1))
    have eR : upd H r (.ins CM dx (putF "_made" (.int (n + 1)) [("_versions", .ref v), ("_marks", .ref m), ("_made", .int n)])) = upd H r (rowO CM dx v m (n + 1)) := rfl
    rw [eR]
    have hv1 := (upd_ne (o := rowO CM dx v m (n + 1)) (Ne.symm rv)).trans hv
    have hm1 := (upd_ne (o := rowO CM dx v m (n + 1)) (Ne.symm rm)).trans hm
    have k1 : ∀ b u, H b = some u → b ≠ r → upd H r (rowO CM dx v m (n + 1)) b = some u := fun b u h ne => (upd_ne ne).trans h
    have k2 : ∀ p, upd H r (rowO CM dx v m (n + 1)) p = none → H p = none := fun p h => by
      by_cases e : p = r
      · rw [e, upd_same] at h; cases h
      · rwa [upd_ne e] at h
    generalize upd H r (rowO CM dx v m (n + 1)) = H1 at hr1 hv1 hm1 k1 k2 ⊢
    refine ⟨_, rfl, _, rfl, _, rfl, (show 3 ≤ sizeLine by decide), fun tp ntp => ?_⟩
    have s2 := same_new (o := .tup [x, y, z]) ntp
    have htp := upd_same (H := H1) (a := tp) (o := .tup [x, y, z])
    have vt : v ≠ tp := fun e => by rw [← e, hv1] at ntp; cases ntp
    have mt : m ≠ tp := fun e => by rw [← e, hm1] at ntp; cases ntp
    refine ⟨_, rfl, r, _, _, _, _, rfl, s2 _ _ hr1, MC.oc.cls, MC.v, rfl, _, rfl, v, _, rfl, .inl ⟨_, Sum.inl n, s2 _ _ hv1, rfl, by rw [en_len]; exact Nat.lt_trans lD (by decide), rfl⟩, ?_⟩
    rw [en_put nD]
    refine ⟨_, rfl, r, _, _, _, _, rfl, (upd_ne rv).trans (s2 _ _ hr1), MC.oc.cls, MC.m, rfl, _, rfl, m, _, rfl, .inl ⟨_, Sum.inl n, (upd_ne (Ne.symm vm)).trans (s2 _ _ hm1), rfl, by rw [en_len]; exact Nat.lt_trans lM (by decide), rfl⟩, ?_⟩
    rw [en_put nM]
    refine ⟨_, rfl, q tp _ (k2 _ ntp) ((upd_ne (Ne.symm mt)).trans ((upd_ne (Ne.symm vt)).trans htp)) ⟨dx, (upd_ne rm).trans ((upd_ne rv).trans (s2 _ _ hr1))⟩ ((upd_ne vm).trans upd_same) upd_same fun b u h h1 h2 h3 => ?_⟩
    exact (upd_ne h3).trans ((upd_ne h2).trans (s2 _ _ (k1 _ _ h h1)))
def spKept (C : Addr) : Sp := fun vs H Q _ => ∃ r v m n D, vs = [.ref r] ∧ IsRow C H r v m n ∧ H v = some (.dK (enV D)) ∧ ∀ p, H p = none → Q (.ref p) (upd H p (.lst (D.map fun e => V.int e.1)))
theorem sc_Row_kept : FnScope ["self"] ["self"] (defScope s_Row_kept) :=
  ⟨rfl, rfl, rfl, by decide +kernel, rfl, by decide +kernel, by decide +kernel⟩
theorem ok_kept {f CM : Addr} {fd : FuncData} (F : Fun K "kept" "Row.kept" s_Row_kept f fd) (B : Bl mg) (MC : RwC K CM) :
    FnG P w K mg base CX0 1 f fd ["self"] (spKept CM) := by
  refine fn_q F sc_Row_kept (fun vs H Q E h => ?_) (fun cdv A outer s H vs Q E hr hG h => ?_)
  · obtain ⟨r, v, m, n, D, rfl, _⟩ := h
    rfl
  · obtain ⟨r, v, m, n, D, rfl, ⟨dx, hb⟩, hv, q⟩ := h
    have hu := hu_of hr
    refine ⟨_, (pss_one (ps_ret (pe_callTy (call_list_dK rfl) (by rfl) B.n_list (by decide +kernel) (pa_cons (pe_fld (pv 0) rfl) pa_nil)))), ?_⟩
    refine ⟨_, rfl, r, _, _, _, _, rfl, hb, MC.oc.cls, MC.v, rfl, v, _, rfl, hv, fun p np => ?_⟩
    have e : (enV D).map (fun kv => kV kv.1) = D.map fun e => V.int e.1 := by
      unfold enV
      rw [List.map_map]
      rfl
    rw [e]
    exact q p np
end
end K25

set_option maxRecDepth 100000
set_option maxHeartbeats 4000000
namespace K25
open PySem PySem.Spec L2 Rm K25F
open PyProof.Rows hiding St
section
variable {P : Program} {w : World} {K : PySem.W.Frag} {mg : Str → Option Value} {base : Heap}
def spAskX (K : PySem.W.Frag) (C UC : Addr) : Sp := fun vs H Q E => ∃ r v m n D M k x d, vs = [.ref r, .int k, x] ∧ IsRow C H r v m n ∧ v ≠ m ∧ H v = some (.dK (enV D)) ∧ H m = some (.dK (enV M)) ∧ M.length < 100 ∧ Dx K H x d ∧ hasD D d = false ∧
  ∀ e, H e = none → E (.ref UC) (some e) (upd H e (.xd [("value", x)]))
theorem sc__law_asked : FnScope ["_law_row", "_law_at", "_law_item"] ["_law_row", "_law_at", "_law_item"] (defScope s__law_asked) :=
  ⟨rfl, rfl, rfl, by decide +kernel, rfl, by decide +kernel, by decide +kernel⟩
theorem ok_ask {f CM UC : Addr} {fd : FuncData} (F : Fun K "_law_asked" "_law_asked" s__law_asked f fd)
    (GET_Row : OwnM P w K mg base (L2.CX P w) 6 CM "__getitem__" ["self", "number"] (spGetX K CM UC))
    (M_Row_mark : Cm P w K mg base (L2.CX P w) 6 CM "mark" ["self", "number"] (spMarkX K CM UC))
    (M_Row_set_mark : Cm P w K mg base (L2.CX P w) 6 CM "set_mark" ["self", "number", "mark"] (spSetX K CM UC))
    (M_Row_remove : Cm P w K mg base (L2.CX P w) 6 CM "remove" ["self", "number"] (spRemX K CM UC)) :
    FnG P w K mg base (L2.CX P w) 8 f fd ["_law_row", "_law_at", "_law_item"] (spAskX K CM UC) := by
  refine fn_in F sc__law_asked (fun vs H Q E h => ?_) (fun cdv A outer s H vs Q E hr hG h => ?_)
  · obtain ⟨r, v, m, n, D, M, k, x, d, rfl, _⟩ := h
    rfl
  · obtain ⟨r, v, m, n, D, M, k, x, d, rfl, hb, vm, hv, hm, lm, hx, hn, e⟩ := h
    have hu := hu_of hr
    refine ⟨_, (pss_cons (ps_if (pt_cmpR op_eq (pv 1) pe_int (nomark _)) (pss_one (ps_ret (pe_ixOwn GET_Row (hr.mono (by decide)) hG (E := fun _ => _) (fun σ pins H s e s2 I h => (passes_call (takes_of rfl rfl rfl rfl) (fun _ _ _ _ h => h)) pins σ H s e s2 I h) (pv 0) (pv 2)))) pss_nil)
      (pss_cons (ps_if (pt_cmpR op_eq (pv 1) pe_int (nomark _)) (pss_one (ps_ret (pe_cm M_Row_mark (hr.mono (by decide)) hG (pv 0) (pa_cons (pv 2) pa_nil) (passes_call (takes_of rfl rfl rfl rfl) (fun _ _ _ _ h => h))))) pss_nil)
      (pss_one (ps_ret (pe_ifExp (pt_cmpR op_eq (pv 1) pe_int (nomark _)) (pe_cm M_Row_set_mark (hr.mono (by decide)) hG (pv 0) (pa_cons (pv 2) (pa_cons pe_int pa_nil)) (passes_call (takes_of rfl rfl rfl rfl) (fun _ _ _ _ h => h))) (pe_cm M_Row_remove (hr.mono (by decide)) hG (pv 0) (pa_cons (pv 2) pa_nil) (passes_call (takes_of rfl rfl rfl rfl) (fun _ _ _ _ h => h)))))))), ?_⟩
    obtain ⟨dx, hr'⟩ := id hb
    have no : ∀ i y, d = .int i → valD D i = some y → False := fun i y ei hy => by
      subst ei
      have hn : (valD D i).isSome = false := hn
      rw [hy] at hn
      cases hn
    have nos : ∀ i, d = .int i → (valD D i).isSome = true → False := fun i ei hy => by
      subst ei
      have hn : (valD D i).isSome = false := hn
      rw [hy] at hn
      cases hn
    refine ⟨_, rfl, rfl, _, rfl, ite2 (fun _ => ?_) fun _ => ?_⟩
    · exact ⟨_, rfl, _, rfl, r, dx, _, rfl, hr', r, v, m, n, D, x, d, rfl, hb, hv, hx, fun i y a b => (no i y a b).elim, fun _ => e⟩
    refine ⟨_, rfl, rfl, _, rfl, ite2 (fun _ => ?_) fun _ => ?_⟩
    · exact ⟨_, rfl, r, dx, _, rfl, hr', rfl, _, rfl, r, v, m, n, D, M, x, d, rfl, hb, hv, hm, hx, fun i a b => (nos i a b).elim, fun _ => e⟩
    refine ⟨_, rfl, rfl, _, rfl, ite2 (fun _ => ?_) fun _ => ?_⟩
    · exact ⟨_, rfl, r, dx, _, rfl, hr', rfl, _, rfl, r, v, m, n, D, M, x, d, _, rfl, hb, hv, hm, lm, hx, fun i a b => (nos i a b).elim, fun _ => e⟩
    · exact ⟨_, rfl, r, dx, _, rfl, hr', rfl, _, rfl, r, v, m, n, D, M, x, d, rfl, hb, vm, hv, hm, hx, fun i a b => (nos i a b).elim, fun _ => e⟩
def spRef (K : PySem.W.Frag) (C : Addr) : Sp := fun vs H Q _ => ∃ r v m n D M k x d, vs = [.ref r, .int k, x] ∧ IsRow C H r v m n ∧ v ≠ m ∧ H v = some (.dK (enV D)) ∧ H m = some (.dK (enV M)) ∧ M.length < 100 ∧ Dx K H x d ∧ hasD D d = false ∧
  ∀ p H', Same H H' → Dx K H' (.ref p) (.list [d]) → Q (.ref p) H'
theorem sc__law_refused : FnScope ["_law_row", "_law_at", "_law_item", "e"] ["_law_row", "_law_at", "_law_item"] (defScope s__law_refused) :=
  ⟨rfl, rfl, rfl, by decide +kernel, rfl, by decide +kernel, by decide +kernel⟩
theorem ok_ref {f UC CM : Addr} {fd : FuncData} (F : Fun K "_law_refused" "_law_refused" s__law_refused f fd) (g_UnknownVersion : mg "UnknownVersion" = some (.ref UC))
    (D__law_asked : Ce P w K mg base (L2.CX P w) 8 "_law_asked" ["_law_row", "_law_at", "_law_item"] (spAskX K CM UC))
    (XF_UnknownVersion : XfC K UC) (no_UnknownVersion_value : PySem.W.findIn K (.ref UC) "value" = some none) (em : PySem.W.exmOne K (.ref UC) (.ref UC) = some true) :
    FnG P w K mg base CX0 9 f fd ["_law_row", "_law_at", "_law_item"] (spRef K CM) := by
  refine fn_q F sc__law_refused (fun vs H Q E h => ?_) (fun cdv A outer s H vs Q E hr hG h => ?_)
  · obtain ⟨r, v, m, n, D, M, k, x, d, rfl, _⟩ := h
    rfl
  · obtain ⟨r, v, m, n, D, M, k, x, d, rfl, hb, vm, hv, hm, lm, hx, hn, q⟩ := h
    have N_UnknownVersion : Names (cxOf CX0 P w K mg base ["_law_row", "_law_at", "_law_item", "e"] "_law_refused" (defScope s__law_refused) f cdv A outer s H E).nox "UnknownVersion" (.ref UC) :=
      ⟨rfl, by decide, .inl g_UnknownVersion⟩
    refine ⟨_, (pss_cons (ps_try_as (i := 3) rfl rfl sc__law_refused.nd rfl rfl N_UnknownVersion takes0 (fun W pn xe tk po => (pss_one (ps_expr (pe_ceE D__law_asked (hr.mono (by decide)) hG (pa_cons (pv 0) (pa_cons (pv 1) (pa_cons (pv 2) pa_nil))) (fun σ => passAt tk σ)))))
      (fun a oe cls d pn hz hf => (pss_one (ps_ret (pe_lst (pa_cons (pe_xf XF_UnknownVersion no_UnknownVersion_value hz hf (pv 3)) pa_nil))))))
      (pss_one (ps_ret pe_non))), ?_⟩
    refine ⟨_, rfl, _, rfl, _, rfl, r, v, m, n, D, M, k, x, d, rfl, hb, vm, hv, hm, lm, hx, hn, fun e he => ?_⟩
    refine ⟨true, em, fun _ a na => ?_, fun z => by cases z⟩
    refine ⟨_, rfl, rfl, rfl, e, _, x, rfl, upd_same, rfl, (show 1 ≤ sizeLine by decide), fun p np => ?_⟩
    have s1 := (same_new (o := .xd [("value", x)]) he).trans (same_new (o := .lst [x]) np)
    exact q p _ s1 (.lst (.inl (.inl upd_same)) (.cons (hx.upR (.of s1)) .nil))
end
end K25

set_option maxRecDepth 100000
set_option maxHeartbeats 4000000
namespace K25
open PySem PySem.Spec L2 Rm K25F
open PyProof.Rows hiding St
section
variable {P : Program} {w : World} {K : PySem.W.Frag} {mg : Str → Option Value} {base : Heap} {C CP : Addr} {EE : EA}
theorem kp_ok {S : FS} {q : Int} (h1 : 1 ≤ q) (h2 : q ≤ (S.parts.length : Int)) : S.kp (.int q) = none := by
  unfold FS.kp
  rw [if_pos]
  unfold isW
  rw [Bool.and_eq_true]
  exact ⟨decide_eq_true h1, decide_eq_true h2⟩
/-- fates and a row that they are asked of -/
def spFateR (C CP CM : Addr) : Sp := fun vs H Q _ => ∃ r v m n D i tp x o z fa S F, vs = [.ref r, .int i, .ref fa] ∧ IsRow CM H r v m n ∧ H v = some (.dK (enV D)) ∧ valD D i = some (.ref tp) ∧ H tp = some (.tup [x, oI o, z]) ∧
  FsA C CP [] H fa S F ∧ S.Wf ∧ S.Tree ∧ (∀ q, o = some q → 1 ≤ q ∧ q ≤ (S.parts.length : Int)) ∧ ∀ H', Same H H' → Q (.str (S.ftO o)) H'
theorem sc_Row__fate : FnScope ["self", "number", "fates", "maker"] ["self", "number", "fates"] (defScope s_Row__fate) :=
  ⟨rfl, rfl, rfl, by decide +kernel, rfl, by decide +kernel, by decide +kernel⟩
theorem ok_rfate {f CM : Addr} {fd : FuncData} (F0 : Fun K "_fate" "Row._fate" s_Row__fate f fd) (MC : RwC K CM)
    (M_Fates_fate : Cm P w K mg base (L2.CX P w) 7 C "fate" ["self", "part"] (spPt K C CP [] EE fun S q => .str (S.out (S.root q)))) :
    FnG P w K mg base (L2.CX P w) 8 f fd ["self", "number", "fates"] (spFateR C CP CM) := by
  refine fn_in F0 sc_Row__fate (fun vs H Q E h => ?_) (fun cdv A outer s H vs Q E hr hG h => ?_)
  · obtain ⟨r, v, m, n, D, i, tp, x, o, z, fa, S, F, rfl, _⟩ := h
    rfl
  · obtain ⟨r, v, m, n, D, i, tp, x, o, z, fa, S, F, rfl, ⟨dx, hb⟩, hv, hi, ht, hA, wf, tr, kn, q⟩ := h
    have hu := hu_of hr
    refine ⟨_, (pss_cons (ps_set (i := 3) sc_Row__fate.nd rfl (Or.inl rfl) (pe_ix ix_tup (pe_dget hu (pe_fld (pv 0) rfl) (pv 1) (fun _ _ => rfl)) pe_int (fun _ _ => rfl)))
      (pss_one (ps_ret (pe_ifExp (pt_cmpR op_isN (pv 3) pe_non (nomark _)) pe_str (pe_cm M_Fates_fate (hr.mono (by decide)) hG (pv 2) (pa_cons (pv 3) pa_nil) (passes_call (takes_of rfl rfl rfl rfl) (fun _ _ _ _ h => h))))))), ?_⟩
    refine ⟨_, rfl, r, _, _, _, _, rfl, hb, MC.oc.cls, MC.v, rfl, _, rfl, v, .ref tp, rfl, .inl ⟨_, Sum.inl i, .inl hv, rfl, by rw [en_val]; exact hi.symm⟩, ?_⟩
    refine ⟨tp, _, 1, oI o, rfl, rfl, .inl (.inl ht), rfl, ?_⟩
    refine ⟨_, rfl, rfl, _, rfl, ?_⟩
    cases o with
    | none =>
      refine ite2 (fun _ => ?_) fun c => absurd rfl c
      exact q H (.refl _)
    | some p =>
      refine ite2 (fun c => by cases c) fun _ => ?_
      obtain ⟨p1, p2⟩ := kn p rfl
      obtain ⟨j, rfl⟩ : ∃ j : Nat, p = (j : Int) + 1 := ⟨(p - 1).toNat, by omega⟩
      obtain ⟨ad, hf, hF⟩ := id hA
      obtain ⟨dx2, lk⟩ := hf.look
      refine ⟨_, rfl, fa, dx2, _, rfl, lk.o, rfl, _, rfl, fa, _, .int ((j : Int) + 1), S, F, rfl, hA, .int _, wf, tr, fun k hk => ?_, fun i' ei hi' => ?_⟩
      · rw [kp_ok p1 p2] at hk
        cases hk
      · intro H' s'
        have e : (j : Int) + 1 = (i' : Int) + 1 := by injection ei
        dsimp only
        rw [← e]
        exact q H' s'
theorem quietX {k : Nat} {f : Addr} {fd : FuncData} {ps : List Str} {sp : Sp} (F : FnG P w K mg base (L2.CX P w) k f fd ps sp) : FnG P w K mg base CX0 k f fd ps (fun vs H Q _ => sp vs H Q E0) :=
  ⟨fun vs H Q E h => F.len vs H Q E0 h, fun A outer s H ar us vs Q E hr hG e0 hb hv h => codeAny_mono (F.run A outer s H ar us vs Q E0 hr hG e0 hb hv h) fun r s' q => by
    match r, q with
    | .error e, q =>
      obtain ⟨_, _, _, _, _, _, _, _, _, _, _, _, z⟩ := q
      exact z.elim
    | .ok (.ret u), q => exact q
    | .ok .next, q => exact q
    | .ok .brk, q => exact q
    | .ok .cont, q => exact q⟩
/-- a row and fates: what is asked of both -/
structure RF (C CP CM : Addr) (H : Hp) (r fa v m : Addr) (n : Int) (D : List (Int × V)) (L : List RV) (S : FS) (F : Addr → Prop) : Prop where
  b : IsRow CM H r v m n
  hv : H v = some (.dK (enV D))
  at_ : VsAt H D L
  fs : FsA C CP [] H fa S F
  wf : S.Wf
  tr : S.Tree
  kn : PKn S L
theorem RF.same {C CP CM r fa v m : Addr} {H H' : Hp} {n : Int} {D : List (Int × V)} {L : List RV} {S : FS} {F : Addr → Prop} (h : RF C CP CM H r fa v m n D L S F) (s : Same H H') : RF C CP CM H' r fa v m n D L S F := by
  obtain ⟨⟨dx, b⟩, hv, a, f, w, t, k⟩ := h
  exact ⟨⟨dx, s _ _ b⟩, s _ _ hv, a.same fun b xs e => s _ _ e, f.same s, w, t, k⟩
def spRF (C CP CM : Addr) (Z : (V → Hp → Prop) → Hp → List RV → FS → Prop) : Sp := fun vs H Q _ => ∃ r fa v m n D L S F, vs = [.ref r, .ref fa] ∧ RF C CP CM H r fa v m n D L S F ∧ L.length ≤ 900 ∧ Z Q H L S
def zStd : (V → Hp → Prop) → Hp → List RV → FS → Prop := fun Q H L S => ∀ p H', H p = none → H' p = some (.lst ((S.stdL L).map V.int)) → Same H H' → Q (.ref p) H'
def zInt (g : FS → List RV → V) : (V → Hp → Prop) → Hp → List RV → FS → Prop := fun Q H L S => ∀ H', Same H H' → Q (g S L) H'
theorem std_next {S : FS} {L : List RV} {k : Nat} {r : RV} (e : L[k]? = some r) : S.stdL (L.take (k + 1)) = S.stdL (L.take k) ++ if S.ftO r.part = "rolled back" then [] else [r.num] := by
  unfold FS.stdL
  rw [List.take_succ, e, List.filter_append, List.map_append]
  congr 1
  by_cases c : S.ftO r.part = "rolled back"
  · simp [c]
  · simp [c]
theorem std_len {S : FS} {L : List RV} {k : Nat} : (S.stdL (L.take k)).length ≤ L.length := by
  unfold FS.stdL
  rw [List.length_map]
  exact Nat.le_trans (List.length_filter_le ..) (by rw [List.length_take]; omega)
theorem bse_next {S : FS} {L : List RV} {k : Nat} {r : RV} (e : L[k]? = some r) : S.bseL (L.take (k + 1)) = S.bseL (L.take k) ++ if S.ftO r.part = "committed" then [r.num] else [] := by
  unfold FS.bseL
  rw [List.take_succ, e, List.filter_append, List.map_append]
  congr 1
  by_cases c : S.ftO r.part = "committed"
  · simp [c]
  · simp [c]
theorem bse_len {S : FS} {L : List RV} {k : Nat} : (S.bseL (L.take k)).length ≤ L.length := by
  unfold FS.bseL
  rw [List.length_map]
  exact Nat.le_trans (List.length_filter_le ..) (by rw [List.length_take]; omega)
theorem sc_Row_standing : FnScope ["self", "fates", "number"] ["self", "fates"] (defScope s_Row_standing) :=
  ⟨rfl, rfl, rfl, by decide +kernel, rfl, by decide +kernel, by decide +kernel⟩
theorem ok_stand {f CM : Addr} {fd : FuncData} (F0 : Fun K "standing" "Row.standing" s_Row_standing f fd)
    (M_Row_kept : Cm P w K mg base CX0 1 CM "kept" ["self"] (spKept CM))
    (M_Row__fate : Cm P w K mg base CX0 8 CM "_fate" ["self", "number", "fates"] (spFateR C CP CM)) :
    FnG P w K mg base CX0 9 f fd ["self", "fates"] (spRF C CP CM zStd) := by
  refine fn_q F0 sc_Row_standing (fun vs H Q E h => ?_) (fun cdv A outer s H vs Q E hr hG h => ?_)
  · obtain ⟨r, fa, v, m, n, D, L, S, F, rfl, _⟩ := h
    rfl
  · obtain ⟨r, fa, v, m, n, D, L, S, F, rfl, R, lL, q⟩ := h
    have hu := hu_of hr
    refine ⟨_, (pss_one (ps_ret (pe_lc (own := [("number", 2)]) (by rfl) sc_Row_standing.nd (pi_list (pe_cm0 M_Row_kept (hr.mono (by decide)) hG (pv 0) pass0)) (blkOk_by (own := [("number", 2)]) (N := ["self", "fates", "number"]) (sc := defScope s_Row_standing) (by decide +kernel))
        (fun _ _ _ _ _ => (pg_name (i := 2) sc_Row_standing.nd rfl (Or.inl rfl))) (fun _ _ _ _ _ => (pts_one (pt_cmpR op_ne (pe_cm M_Row__fate (hr.mono (by decide)) hG (pv 0) (pa_cons (pv 2) (pa_cons (pv 1) pa_nil)) pass0) pe_str (nomark _)))) (fun _ _ _ _ _ => (pv 2))))), ?_⟩
    obtain ⟨dx, hb⟩ := id R.b
    have eD : D.map (fun e => V.int e.1) = L.map fun r => V.int r.num := by
      have := congrArg (List.map V.int) R.at_.1
      rwa [List.map_map, List.map_map] at this
    refine ⟨_, rfl, r, dx, _, rfl, hb, rfl, r, v, m, n, D, rfl, R.b, R.hv, fun p np => ?_⟩
    rw [eD]
    have s1 := same_new (o := .lst (L.map fun r => V.int r.num)) np
    have hp := upd_same (H := H) (a := p) (o := .lst (L.map fun r => V.int r.num))
    generalize upd H p (.lst (L.map fun r => V.int r.num)) = H1 at s1 hp ⊢
    refine ⟨p, rfl, ⟨_, .inl (.inl hp)⟩, fun A nA => lc_list (xs := L.map fun r => V.int r.num) (fun k H' => Same H1 H' ∧ H' A = some (.lst ((S.stdL (L.take k)).map V.int))) ⟨same_new nA, upd_same⟩ (fun n H' _ e => .inl (.inl (e.1 _ _ hp))) ?_ ?_⟩
    · rintro k x H2 hx ⟨s2, hA⟩
      rw [List.getElem?_map] at hx
      obtain ⟨rv, hrv, rfl⟩ := Option.map_eq_some_iff.mp hx
      have R2 := R.same (s1.trans s2)
      obtain ⟨dx2, hb2⟩ := id R2.b
      obtain ⟨tp, t1, t2⟩ := R2.at_.2 rv (List.mem_of_getElem? hrv)
      refine ⟨rfl, ?_⟩
      refine ⟨_, rfl, r, dx2, _, rfl, hb2, rfl, _, rfl, _, rfl, r, v, m, n, D, rv.num, tp, rv.val, rv.part, rv.mode, fa, S, F, rfl, R2.b, R2.hv, t1, t2, R2.fs, R2.wf, R2.tr, R2.kn rv (List.mem_of_getElem? hrv), fun H3 s3 => ?_⟩
      have hA3 := s3 _ _ hA
      refine ⟨rfl, _, rfl, ite2 (fun c => ?_) fun c => ?_⟩
      · have c' : ¬ S.ftO rv.part = "rolled back" := fun e => by rw [e] at c; revert c; decide
        refine ⟨_, rfl, _, hA3, ?_, same_tape nA (s2.trans s3), ?_⟩
        · rw [List.length_map]
          exact sz1000 (Nat.le_trans std_len (by omega))
        · rw [upd_same, std_next hrv, if_neg c', List.map_append]
          rfl
      · have c' : S.ftO rv.part = "rolled back" := Classical.byContradiction fun z => c (by simp [z])
        refine ⟨s2.trans s3, ?_⟩
        rw [hA3, std_next hrv, if_pos c', List.append_nil]
    · rintro H2 ⟨s2, hA⟩
      rw [List.length_map, List.take_length] at hA
      exact q A H2 (none_of s1 nA) hA (s1.trans s2)
theorem sc_Row_base : FnScope ["self", "fates", "number"] ["self", "fates"] (defScope s_Row_base) :=
  ⟨rfl, rfl, rfl, by decide +kernel, rfl, by decide +kernel, by decide +kernel⟩
theorem ok_base {f CM : Addr} {fd : FuncData} (F0 : Fun K "base" "Row.base" s_Row_base f fd) (B : Bl mg)
    (M_Row_kept : Cm P w K mg base CX0 1 CM "kept" ["self"] (spKept CM))
    (M_Row__fate : Cm P w K mg base CX0 8 CM "_fate" ["self", "number", "fates"] (spFateR C CP CM)) :
    FnG P w K mg base CX0 9 f fd ["self", "fates"] (spRF C CP CM (zInt fun S L => .int (S.bse L))) := by
  refine fn_q F0 sc_Row_base (fun vs H Q E h => ?_) (fun cdv A outer s H vs Q E hr hG h => ?_)
  · obtain ⟨r, fa, v, m, n, D, L, S, F, rfl, _⟩ := h
    rfl
  · obtain ⟨r, fa, v, m, n, D, L, S, F, rfl, R, lL, q⟩ := h
    have hu := hu_of hr
    refine ⟨_, (pss_one (ps_ret (pe_callBK (call_maxDf rfl (hr.mono (by decide))) (by rfl) B.n_max (by decide +kernel) (pa_cons (pe_lc (own := [("number", 2)]) (by rfl) sc_Row_base.nd (pi_list (pe_cm0 M_Row_kept (hr.mono (by decide)) hG (pv 0) pass0)) (blkOk_by (own := [("number", 2)]) (N := ["self", "fates", "number"]) (sc := defScope s_Row_base) (by decide +kernel))
        (fun _ _ _ _ _ => (pg_name (i := 2) sc_Row_base.nd rfl (Or.inl rfl))) (fun _ _ _ _ _ => (pts_one (pt_cmpR op_eq (pe_cm M_Row__fate (hr.mono (by decide)) hG (pv 0) (pa_cons (pv 2) (pa_cons (pv 1) pa_nil)) pass0) pe_str (nomark _)))) (fun _ _ _ _ _ => (pv 2))) pa_nil) (pk_cons pe_int pk_nil)))), ?_⟩
    obtain ⟨dx, hb⟩ := id R.b
    have eD : D.map (fun e => V.int e.1) = L.map fun r => V.int r.num := by
      have := congrArg (List.map V.int) R.at_.1
      rwa [List.map_map, List.map_map] at this
    refine ⟨_, rfl, r, dx, _, rfl, hb, rfl, r, v, m, n, D, rfl, R.b, R.hv, fun p np => ?_⟩
    rw [eD]
    have s1 := same_new (o := .lst (L.map fun r => V.int r.num)) np
    have hp := upd_same (H := H) (a := p) (o := .lst (L.map fun r => V.int r.num))
    generalize upd H p (.lst (L.map fun r => V.int r.num)) = H1 at s1 hp ⊢
    refine ⟨p, rfl, ⟨_, .inl (.inl hp)⟩, fun A nA => lc_list (xs := L.map fun r => V.int r.num) (fun k H' => Same H1 H' ∧ H' A = some (.lst ((S.bseL (L.take k)).map V.int))) ⟨same_new nA, upd_same⟩ (fun n H' _ e => .inl (.inl (e.1 _ _ hp))) ?_ ?_⟩
    · rintro k x H2 hx ⟨s2, hA⟩
      rw [List.getElem?_map] at hx
      obtain ⟨rv, hrv, rfl⟩ := Option.map_eq_some_iff.mp hx
      have R2 := R.same (s1.trans s2)
      obtain ⟨dx2, hb2⟩ := id R2.b
      obtain ⟨tp, t1, t2⟩ := R2.at_.2 rv (List.mem_of_getElem? hrv)
      refine ⟨rfl, ?_⟩
      refine ⟨_, rfl, r, dx2, _, rfl, hb2, rfl, _, rfl, _, rfl, r, v, m, n, D, rv.num, tp, rv.val, rv.part, rv.mode, fa, S, F, rfl, R2.b, R2.hv, t1, t2, R2.fs, R2.wf, R2.tr, R2.kn rv (List.mem_of_getElem? hrv), fun H3 s3 => ?_⟩
      have hA3 := s3 _ _ hA
      refine ⟨rfl, _, rfl, ite2 (fun c => ?_) fun c => ?_⟩
      · have c' : S.ftO rv.part = "committed" := V.str.inj (of_decide_eq_true c)
        refine ⟨_, rfl, _, hA3, ?_, same_tape nA (s2.trans s3), ?_⟩
        · rw [List.length_map]
          exact sz1000 (Nat.le_trans bse_len (by omega))
        · rw [upd_same, bse_next hrv, if_pos c', List.map_append]
          rfl
      · have c' : ¬ S.ftO rv.part = "committed" := fun e => c (by simp [e])
        refine ⟨s2.trans s3, ?_⟩
        rw [hA3, bse_next hrv, if_neg c', List.append_nil]
    · rintro H2 ⟨s2, hA⟩
      rw [List.length_map, List.take_length] at hA
      exact ⟨A, _, 0, rfl, rfl, .inl (.inl hA), q H2 (s1.trans s2)⟩
theorem sc_Row_newest : FnScope ["self", "fates"] ["self", "fates"] (defScope s_Row_newest) :=
  ⟨rfl, rfl, rfl, by decide +kernel, rfl, by decide +kernel, by decide +kernel⟩
theorem ok_newest {f CM : Addr} {fd : FuncData} (F0 : Fun K "newest" "Row.newest" s_Row_newest f fd) (B : Bl mg)
    (M_Row_standing : Cm P w K mg base CX0 9 CM "standing" ["self", "fates"] (spRF C CP CM zStd)) :
    FnG P w K mg base CX0 10 f fd ["self", "fates"] (spRF C CP CM (zInt fun S L => .int (S.nwst L))) := by
  refine fn_q F0 sc_Row_newest (fun vs H Q E h => ?_) (fun cdv A outer s H vs Q E hr hG h => ?_)
  · obtain ⟨r, fa, v, m, n, D, L, S, F, rfl, _⟩ := h
    rfl
  · obtain ⟨r, fa, v, m, n, D, L, S, F, rfl, R, lL, q⟩ := h
    have hu := hu_of hr
    refine ⟨_, (pss_one (ps_ret (pe_callBK (call_maxDf rfl (hr.mono (by decide))) (by rfl) B.n_max (by decide +kernel) (pa_cons (pe_cm M_Row_standing (hr.mono (by decide)) hG (pv 0) (pa_cons (pv 1) pa_nil) pass0) pa_nil) (pk_cons pe_int pk_nil)))), ?_⟩
    obtain ⟨dx, hb⟩ := id R.b
    refine ⟨_, rfl, r, dx, _, rfl, hb, rfl, _, rfl, r, fa, v, m, n, D, L, S, F, rfl, R, lL, fun p H1 np hp s1 => ?_⟩
    exact ⟨p, _, 0, rfl, rfl, .inl (.inl hp), q H1 s1⟩
theorem sc_Row_changer : FnScope ["self", "fates", "newest"] ["self", "fates"] (defScope s_Row_changer) :=
  ⟨rfl, rfl, rfl, by decide +kernel, rfl, by decide +kernel, by decide +kernel⟩
theorem ok_chg {f CM : Addr} {fd : FuncData} (F0 : Fun K "changer" "Row.changer" s_Row_changer f fd) (MC : RwC K CM)
    (M_Row_newest : Cm P w K mg base CX0 10 CM "newest" ["self", "fates"] (spRF C CP CM (zInt fun S L => .int (S.nwst L))))
    (M_Row_base : Cm P w K mg base CX0 9 CM "base" ["self", "fates"] (spRF C CP CM (zInt fun S L => .int (S.bse L))))
    (M_Fates_transaction : Cm P w K mg base (L2.CX P w) 5 C "transaction" ["self", "part"] (spPt K C CP [] EE fun S q => .int (S.hld q))) :
    FnG P w K mg base (L2.CX P w) 11 f fd ["self", "fates"] (spRF C CP CM (zInt FS.chg)) := by
  refine fn_in F0 sc_Row_changer (fun vs H Q E h => ?_) (fun cdv A outer s H vs Q E hr hG h => ?_)
  · obtain ⟨r, fa, v, m, n, D, L, S, F, rfl, _⟩ := h
    rfl
  · obtain ⟨r, fa, v, m, n, D, L, S, F, rfl, R, lL, q⟩ := h
    have hu := hu_of hr
    refine ⟨_, (pss_cons (ps_set (i := 2) sc_Row_changer.nd rfl (Or.inl rfl) (pe_cm M_Row_newest (hr.mono (by decide)) hG (pv 0) (pa_cons (pv 1) pa_nil) pass0))
      (pss_cons (ps_if (pt_cmpR op_eq (pv 2) (pe_cm M_Row_base (hr.mono (by decide)) hG (pv 0) (pa_cons (pv 1) pa_nil) pass0) (nomark _)) (pss_one (ps_ret pe_non)) pss_nil)
      (pss_one (ps_ret (pe_cm M_Fates_transaction (hr.mono (by decide)) hG (pv 1) (pa_cons (pe_ix ix_tup (pe_dget hu (pe_fld (pv 0) rfl) (pv 2) (fun _ _ => rfl)) pe_int (fun _ _ => rfl)) pa_nil) (passes_call (takes_of rfl rfl rfl rfl) (fun _ _ _ _ h => h))))))), ?_⟩
    obtain ⟨dx, hb⟩ := id R.b
    refine ⟨_, rfl, r, dx, _, rfl, hb, rfl, _, rfl, r, fa, v, m, n, D, L, S, F, rfl, R, lL, fun H1 s1 => ?_⟩
    have R1 := R.same s1
    obtain ⟨dx1, hb1⟩ := id R1.b
    refine ⟨_, rfl, _, rfl, r, dx1, _, rfl, hb1, rfl, _, rfl, r, fa, v, m, n, D, L, S, F, rfl, R1, lL, fun H2 s2 => ?_⟩
    have q : ∀ H', Same H H' → Q (FS.chg S L) H' := q
    refine ⟨rfl, _, rfl, ite2 (fun c => ?_) fun c => ?_⟩
    · have c' : S.nwst L = S.bse L := V.int.inj (of_decide_eq_true c)
      have e : FS.chg S L = .non := if_pos c'
      rw [e] at q
      exact q H2 (s1.trans s2)
    · have c' : ¬ S.nwst L = S.bse L := fun e => c (by simp [e])
      obtain ⟨r1, m1, n1, p, hp⟩ := newest_part c'
      obtain ⟨tp, t1, t2⟩ := R1.at_.2 r1 m1
      have hq := R1.kn r1 m1 p hp
      rw [n1] at t1
      have e : FS.chg S L = .int (S.hld p) := by
        show (if _ then _ else _) = _
        rw [if_neg c']
        cases e0 : L.find? fun r => decide (r.num = S.nwst L) with
        | none =>
          have := List.find?_eq_none.mp e0 r1 m1
          exact absurd (decide_eq_true n1) this
        | some r0 =>
          have m0 := List.mem_of_find?_eq_some e0
          have n0 : r0.num = S.nwst L := of_decide_eq_true (List.find?_some (p := fun r : RV => decide (r.num = S.nwst L)) e0)
          obtain ⟨tp0, t01, t02⟩ := R1.at_.2 r0 m0
          rw [n0, t1] at t01
          injection (Option.some.inj t01) with e1
          subst e1
          rw [t2] at t02
          simp only [Option.some.injEq, HO.tup.injEq, List.cons.injEq] at t02
          obtain ⟨_, e2, _⟩ := t02
          rw [hp] at e2
          cases e3 : r0.part with
          | none => rw [e3] at e2; cases e2
          | some p0 =>
            rw [e3] at e2
            injection e2 with e2
            dsimp only
            rw [e3, ← e2]
            rfl
      rw [e] at q
      have R2 := R1.same s2
      obtain ⟨dx2, hb2⟩ := id R2.b
      obtain ⟨ad, hf, hF⟩ := id R2.fs
      obtain ⟨dx3, lk⟩ := hf.look
      obtain ⟨j, rfl⟩ : ∃ j : Nat, p = (j : Int) + 1 := ⟨(p - 1).toNat, by omega⟩
      refine ⟨_, rfl, fa, dx3, _, rfl, lk.o, rfl, _, rfl, r, _, _, _, _, rfl, hb2, MC.oc.cls, MC.v, rfl, _, rfl, v, .ref tp, rfl, .inl ⟨_, Sum.inl _, .inl R2.hv, rfl, by rw [en_val]; exact t1.symm⟩, ?_⟩
      refine ⟨tp, _, 1, oI r1.part, rfl, rfl, .inl (.inl (s2 _ _ t2)), rfl, ?_⟩
      rw [hp]
      refine ⟨fa, _, .int ((j : Int) + 1), S, F, rfl, R2.fs, .int _, R2.wf, R2.tr, fun k hk => ?_, fun i' ei hi' H' s' => ?_⟩
      · rw [kp_ok hq.1 hq.2] at hk
        cases hk
      · have e : (j : Int) + 1 = (i' : Int) + 1 := by injection ei
        dsimp only
        rw [← e]
        exact q _ ((s1.trans s2).trans s')
end
end K25

set_option maxRecDepth 100000
set_option maxHeartbeats 4000000
namespace K25
open PySem PySem.Spec L2 Rm K25F
open PyProof.Rows hiding St
section
variable {P : Program} {w : World} {K : PySem.W.Frag} {mg : Str → Option Value} {base : Heap} {C CP CM UC : Addr} {EE : EA}
/-! ### a row and fates side by side -/
theorem fs_notup {more : List (Str × V)} {H : Hp} {a : Addr} {S : FS} {F : Addr → Prop} (h : FsA C CP more H a S F) {b : Addr} {xs : List V} (e : H b = some (.tup xs)) : ¬ F b := by
  intro hb
  obtain ⟨ad, ⟨_, _, dx, dp, h3⟩, hF⟩ := h
  obtain ⟨r, hr, rfl⟩ := (hF b).mp hb
  rw [h3 r hr] at e
  cases r with
  | part i =>
    have e : (match S.parts[i]? with | some p => partO CP (dp i) p | none => HO.lst []) = .tup xs := Option.some.inj e
    split at e <;> cases e
  | _ => cases e
structure Nm (C CP CM : Addr) (H : Hp) (r fa v m : Addr) (n : Int) (D M : List (Int × V)) (L : List RV) (S : FS) (F : Addr → Prop) : Prop where
  rf : RF C CP CM H r fa v m n D L S F
  hm : H m = some (.dK (enV M))
  vm : v ≠ m
  dj : ∀ b, F b → b ≠ r ∧ b ≠ v ∧ b ≠ m
def Rw (r v m : Addr) : Addr → Prop := fun b => b = r ∨ b = v ∨ b = m
def Zs (F : Addr → Prop) (r v m : Addr) : Addr → Prop := fun b => F b ∨ Rw r v m b
section
variable {H H' : Hp} {r fa v m : Addr} {n n' : Int} {D M D' M' : List (Int × V)} {L L' : List RV} {S S' : FS} {F F' : Addr → Prop}
theorem Nm.same (h : Nm C CP CM H r fa v m n D M L S F) (s : Same H H') : Nm C CP CM H' r fa v m n D M L S F :=
  ⟨h.rf.same s, s _ _ h.hm, h.vm, h.dj⟩
theorem Nm.on (h : Nm C CP CM H r fa v m n D M L S F) {b : Addr} (z : Zs F r v m b) : ∃ u, H b = some u := by
  rcases z with z | rfl | rfl | rfl
  · exact h.rf.fs.on b z
  · obtain ⟨dx, e⟩ := h.rf.b
    exact ⟨_, e⟩
  · exact ⟨_, h.rf.hv⟩
  · exact ⟨_, h.hm⟩
theorem Nm.free (h : Nm C CP CM H r fa v m n D M L S F) {p : Addr} (np : H p = none) : ¬ Zs F r v m p := fun z => by
  obtain ⟨u, e⟩ := h.on z
  rw [np] at e
  cases e
theorem Nm.ntp (h : Nm C CP CM H r fa v m n D M L S F) {p : Addr} {xs : List V} (e : H p = some (.tup xs)) : ¬ Zs F r v m p := by
  rintro (z | rfl | rfl | rfl)
  · exact fs_notup h.rf.fs e z
  · obtain ⟨dx, e'⟩ := h.rf.b
    rw [e] at e'
    cases e'
  · rw [h.rf.hv] at e; cases e
  · rw [h.hm] at e; cases e
theorem Nm.fates (h : Nm C CP CM H r fa v m n D M L S F) (hA : FsA C CP [] H' fa S' F') (fr : Fr F H H') (gr : Grow F F' H) (wf : S'.Wf) (tr : S'.Tree) (kn : PKn S' L) : Nm C CP CM H' r fa v m n D M L S' F' := by
  obtain ⟨⟨⟨dx, b⟩, hv, a, f, _, _, _⟩, hm, vm, dj⟩ := id h
  have nr : ¬ F r := fun z => (dj _ z).1 rfl
  have nv : ¬ F v := fun z => (dj _ z).2.1 rfl
  have nm : ¬ F m := fun z => (dj _ z).2.2 rfl
  refine ⟨⟨⟨dx, fr _ _ b nr⟩, fr _ _ hv nv, a.same fun b xs e => fr _ _ e (fs_notup f e), hA, wf, tr, kn⟩, fr _ _ hm nm, vm, fun y z => ?_⟩
  rcases gr y z with z | z
  · exact dj y z
  · exact ⟨fun e => (by rw [e, b] at z; cases z), fun e => (by rw [e, hv] at z; cases z), fun e => (by rw [e, hm] at z; cases z)⟩
theorem Nm.row (h : Nm C CP CM H r fa v m n D M L S F) (fr : Fr (Rw r v m) H H') (b : IsRow CM H' r v m n') (hv : H' v = some (.dK (enV D'))) (hm : H' m = some (.dK (enV M'))) (at_ : VsAt H' D' L') (kn : PKn S L') : Nm C CP CM H' r fa v m n' D' M' L' S F := by
  obtain ⟨⟨_, _, _, f, wf, tr, _⟩, _, vm, dj⟩ := id h
  exact ⟨⟨b, hv, at_, f.frame fr fun b z => fun y => by
    obtain ⟨h1, h2, h3⟩ := dj b z
    rcases y with y | y | y
    · exact h1 y
    · exact h2 y
    · exact h3 y, wf, tr, kn⟩, hm, vm, dj⟩
theorem fr_left (fr : Fr F H H') : Fr (Zs F r v m) H H' := fun b u e z => fr b u e fun y => z (.inl y)
theorem fr_right (fr : Fr (Rw r v m) H H') : Fr (Zs F r v m) H H' := fun b u e z => fr b u e fun y => z (.inr y)
theorem gr_left (gr : Grow F F' H) : Grow (Zs F r v m) (Zs F' r v m) H := fun b z => by
  rcases z with z | z
  · exact (gr b z).imp .inl id
  · exact .inl (.inr z)
/-- a thing that nobody of ours writes -/
def Kp (H : Hp) (Z : Addr → Prop) (p : Addr) (o : HO) : Prop := H p = some o ∧ ¬ Z p
theorem Kp.step {Z Z' : Addr → Prop} {p : Addr} {o : HO} (k : Kp H Z p o) (fr : Fr Z H H') (gr : Grow Z Z' H) : Kp H' Z' p o :=
  ⟨fr _ _ k.1 k.2, fun z => (gr p z).elim k.2 fun e => by rw [k.1] at e; cases e⟩
theorem Kp.same {Z : Addr → Prop} {p : Addr} {o : HO} (k : Kp H Z p o) (s : Same H H') : Kp H' Z p o := ⟨s _ _ k.1, k.2⟩
theorem Kp.row {Z : Addr → Prop} {p : Addr} {o : HO} (k : Kp H Z p o) (fr : Fr Z H H') : Kp H' Z p o := k.step fr .refl
theorem val_app {D : List (Int × V)} {n i : Int} {x y : V} (h : valD D i = some y) : valD (D ++ [(n, x)]) i = some y := by
  unfold valD at h ⊢
  rw [List.find?_append]
  cases e : D.find? fun e => decide (e.1 = i) with
  | none => rw [e] at h; cases h
  | some z => rw [e] at h; exact h
theorem val_end {D : List (Int × V)} {n : Int} {x : V} (h : valD D n = none) : valD (D ++ [(n, x)]) n = some x := by
  unfold valD at h ⊢
  rw [List.find?_append]
  cases e : D.find? fun e => decide (e.1 = n) with
  | none => simp
  | some z => rw [e] at h; cases h
theorem at_add {tp : Addr} {x z : V} {o : Option Int} (h : VsAt H D L) (nn : valD D n = none) (s : ∀ b xs, H b = some (.tup xs) → H' b = some (.tup xs)) (ht : H' tp = some (.tup [x, oI o, z])) : VsAt H' (D ++ [(n, .ref tp)]) (L ++ [⟨n, x, o, z⟩]) := by
  refine ⟨by rw [List.map_append, List.map_append, h.1]; rfl, fun r hr => ?_⟩
  rcases List.mem_append.mp hr with hr | hr
  · obtain ⟨t, t1, t2⟩ := h.2 r hr
    exact ⟨t, val_app t1, s _ _ t2⟩
  · rw [List.mem_singleton.mp hr]
    exact ⟨tp, val_end nn, ht⟩
def offL (L : List RV) (i : Int) : List RV := L.filter fun r => decide (r.num ≠ i)
theorem at_off {i : Int} (h : VsAt H D L) (s : ∀ b xs, H b = some (.tup xs) → H' b = some (.tup xs)) : VsAt H' (dropD D i) (offL L i) := by
  refine ⟨?_, fun r hr => ?_⟩
  · unfold dropD offL
    have e1 : (D.filter fun e => decide (e.1 ≠ i)).map (·.1) = (D.map (·.1)).filter fun k => decide (k ≠ i) := by
      rw [List.filter_map]
      rfl
    have e2 : (L.filter fun r => decide (r.num ≠ i)).map RV.num = (L.map RV.num).filter fun k => decide (k ≠ i) := by
      rw [List.filter_map]
      rfl
    rw [e1, e2, h.1]
  · obtain ⟨h1, h2⟩ := List.mem_filter.mp hr
    obtain ⟨t, t1, t2⟩ := h.2 r h1
    exact ⟨t, (val_drop (of_decide_eq_true h2)).trans t1, s _ _ t2⟩
/-- what make did -/
theorem Nm.make {tp : Addr} {x z : V} {o : Option Int} (h : Nm C CP CM H r fa v m n D M L S F) (nn : valD D n = none) (nt : H tp = none) (ht : H' tp = some (.tup [x, oI o, z])) (b : IsRow CM H' r v m (n + 1)) (hv : H' v = some (.dK (enV (D ++ [(n, .ref tp)])))) (hm : H' m = some (.dK (enV (M ++ [(n, .non)]))))
    (k : ∀ b u, H b = some u → b ≠ r → b ≠ v → b ≠ m → H' b = some u) (ko : ∀ q, o = some q → 1 ≤ q ∧ q ≤ (S.parts.length : Int)) :
    Nm C CP CM H' r fa v m (n + 1) (D ++ [(n, .ref tp)]) (M ++ [(n, .non)]) (L ++ [⟨n, x, o, z⟩]) S F ∧ Fr (Zs F r v m) H H' := by
  have fr : Fr (Rw r v m) H H' := fun b u e z => k b u e (fun y => z (.inl y)) (fun y => z (.inr (.inl y))) fun y => z (.inr (.inr y))
  refine ⟨h.row fr b hv hm (at_add h.rf.at_ nn (fun b xs e => fr _ _ e fun y => h.ntp e (.inr y)) ht) fun rv hrv q e => ?_, fr_right fr⟩
  rcases List.mem_append.mp hrv with hr | hr
  · exact h.rf.kn rv hr q e
  · rw [List.mem_singleton.mp hr] at e
    exact ko q e
theorem Nm.mark (h : Nm C CP CM H r fa v m n D M L S F) : Nm C CP CM (upd H m (.dK (enV M'))) r fa v m n D M' L S F ∧ Fr (Zs F r v m) H (upd H m (.dK (enV M'))) := by
  have fr : Fr (Rw r v m) H (upd H m (.dK (enV M'))) := fun b u e z => (upd_ne fun y => z (.inr (.inr y))).trans e
  obtain ⟨dx, b⟩ := id h.rf.b
  refine ⟨h.row fr ⟨dx, (upd_ne fun y => by rw [y, h.hm] at b; cases b).trans b⟩ ((upd_ne h.vm).trans h.rf.hv) upd_same (h.rf.at_.same fun b xs e => fr _ _ e fun y => h.ntp e (.inr y)) h.rf.kn, fr_right fr⟩
theorem Nm.rem {i : Int} (h : Nm C CP CM H r fa v m n D M L S F) : Nm C CP CM (upd (upd H v (.dK (enV (dropD D i)))) m (.dK (enV (dropD M i)))) r fa v m n (dropD D i) (dropD M i) (offL L i) S F ∧ Fr (Zs F r v m) H (upd (upd H v (.dK (enV (dropD D i)))) m (.dK (enV (dropD M i)))) := by
  have fr : Fr (Rw r v m) H (upd (upd H v (.dK (enV (dropD D i)))) m (.dK (enV (dropD M i)))) := fun b u e z => (upd_ne fun y => z (.inr (.inr y))).trans ((upd_ne fun y => z (.inr (.inl y))).trans e)
  obtain ⟨dx, b⟩ := id h.rf.b
  refine ⟨h.row fr ⟨dx, (upd_ne fun y => by rw [y, h.hm] at b; cases b).trans ((upd_ne fun y => by rw [y, h.rf.hv] at b; cases b).trans b)⟩ ((upd_ne h.vm).trans upd_same) upd_same (at_off h.rf.at_ fun b xs e => fr _ _ e fun y => h.ntp e (.inr y)) (fun rv hr => h.rf.kn rv (List.mem_filter.mp hr).1), fr_right fr⟩
end
/-! ### two states of fates -/
def S1 : FS := ⟨1, 0, [1], ["running"], [[1]], [⟨1, none, none, none, "open"⟩]⟩
def S2 : FS := ⟨2, 0, [], ["aborted"], [[]], [⟨1, none, none, some 2, "rolled back"⟩]⟩
theorem s1_is : FS.zero.beg = S1 := rfl
theorem s2_is : S1.abo 0 = S2 := rfl
theorem wf0 : FS.zero.Wf := by
  refine ⟨rfl, by decide, by decide, ?_, by decide, ?_, ?_, ?_, by decide, ?_⟩ <;> simp [FS.zero]
theorem wf1 : S1.Wf := by
  refine ⟨rfl, by decide, by decide, by decide, by decide, fun i z l h1 h2 h3 => ?_, by decide, fun i z h1 h2 => ?_, by decide, by decide⟩
  · match i, h3 with
    | 0, h3 => cases h3; decide
  · match i, h1 with
    | 0, _ => decide
theorem wf2 : S2.Wf := by
  refine ⟨rfl, by decide, by decide, by decide, by decide, fun i z l h1 h2 h3 => ?_, by decide, fun i z h1 h2 => ?_, by decide, by decide⟩
  · match i, h1 with
    | 0, h1 => cases h1; exact absurd (.inr rfl) h2
  · match i, h1 with
    | 0, h1 => cases h1; exact absurd (.inr rfl) h2
theorem tr_one {S : FS} {p : PI} (e : S.parts = [p]) (h1 : p.outer = none) (h2 : p.released = none) : S.Tree := by
  refine ⟨fun j p' q h => ?_, fun j p' h => ?_⟩ <;> rw [e] at h
  · match j, h with
    | 0, h => cases h; intro z; rw [h1] at z; cases z
  · match j, h with
    | 0, h => cases h; intro z; rw [h2] at z; cases z
theorem tr0 : FS.zero.Tree := ⟨fun j p q h => by simp [FS.zero] at h, fun j p h => by simp [FS.zero] at h⟩
theorem tr1 : S1.Tree := tr_one rfl rfl rfl
theorem tr2 : S2.Tree := tr_one rfl rfl rfl
end
end K25

set_option maxRecDepth 100000
set_option maxHeartbeats 4000000
namespace K25
open PySem PySem.Spec L2 Rm K25F
open PyProof.Rows hiding St
section
variable {P : Program} {w : World} {K : PySem.W.Frag} {mg : Str → Option Value} {base : Heap} {C CP CM UC : Addr} {EE : EA}
theorem sc__law_named_right : FnScope ["_law_lots", "_law_row", "_law_heard", "_law_due"] [] (defScope s__law_named_right) :=
  ⟨rfl, rfl, rfl, by decide +kernel, rfl, by decide +kernel, by decide +kernel⟩
theorem ok_named {f : Addr} {fd : FuncData} (F0 : Fun K "_law_named_right" "_law_named_right" s__law_named_right f fd) (B : Bl mg) (MC : RwC K CM)
    (D_Fates : Cn P w K mg base CX0 1 "Fates" C ["self"] (spFInit C CP)) (K_Row : CnK P w K mg base CX0 1 "Row" CM ["self", "value"] "value" (spNewR CM))
    (M_Fates_begin : Cm P w K mg base (L2.CX P w) 5 C "begin" ["self"] (spBegin C CP [] EE))
    (M_Fates_abort : Cm P w K mg base (L2.CX P w) 6 C "abort" ["self", "number"] (spNum K C CP [] EE FS.ru FS.abo fun _ _ => .non))
    (KS_Row_make : CmKs P w K mg base CX0 1 CM "make" ["self", "value", "part", "mode"] ["value", "part", "mode"] (spMake K CM))
    (M_Row_make : Cm P w K mg base CX0 1 CM "make" ["self", "value", "part", "mode"] (spMake K CM))
    (KS_Row_set_mark : CmKs P w K mg base (L2.CX P w) 6 CM "set_mark" ["self", "number", "mark"] ["number", "mark"] (spSetX K CM UC))
    (K_Row_mark : CmK P w K mg base (L2.CX P w) 6 CM "mark" ["self", "number"] "number" (spMarkX K CM UC))
    (GET_Row : OwnM P w K mg base (L2.CX P w) 6 CM "__getitem__" ["self", "number"] (spGetX K CM UC))
    (K_Row_standing : CmK P w K mg base CX0 9 CM "standing" ["self", "fates"] "fates" (spRF C CP CM zStd))
    (M_Row_standing : Cm P w K mg base CX0 9 CM "standing" ["self", "fates"] (spRF C CP CM zStd))
    (K_Row_base : CmK P w K mg base CX0 9 CM "base" ["self", "fates"] "fates" (spRF C CP CM (zInt fun S L => .int (S.bse L))))
    (K_Row_newest : CmK P w K mg base CX0 10 CM "newest" ["self", "fates"] "fates" (spRF C CP CM (zInt fun S L => .int (S.nwst L))))
    (K_Row_changer : CmK P w K mg base CX0 11 CM "changer" ["self", "fates"] "fates" (spRF C CP CM (zInt FS.chg)))
    (M_Row_changer : Cm P w K mg base CX0 11 CM "changer" ["self", "fates"] (spRF C CP CM (zInt FS.chg)))
    (M_Row_remove : Cm P w K mg base (L2.CX P w) 6 CM "remove" ["self", "number"] (spRemX K CM UC))
    (M_Row_kept : Cm P w K mg base CX0 1 CM "kept" ["self"] (spKept CM)) :
    FnG P w K mg base CX0 12 f fd [] (fun vs H Q _ => vs = [] ∧ ∀ H', Q (.bl true) H') := by
  refine fn_q F0 sc__law_named_right (fun vs H Q E h => ?_) (fun cdv A outer s H vs Q E hr hG h => ?_)
  · obtain ⟨rfl, _⟩ := h
    rfl
  · obtain ⟨rfl, q⟩ := h
    have hu := hu_of hr
    refine ⟨_, (pss_cons (ps_par (i := 0) (j := 1) (by rfl) sc__law_named_right.nd rfl rfl (by decide) rfl rfl (pa_cons (pe_cn0 D_Fates (hr.mono (by decide)) hG pass0) (pa_cons (pe_cnK K_Row (hr.mono (by decide)) hG pe_int pass0) pa_nil)) (by rfl))
      (pss_cons (ps_set (i := 2) sc__law_named_right.nd rfl (Or.inl rfl) (pe_lst (pa_cons (pe_cm0 M_Fates_begin (hr.mono (by decide)) hG (pv 0) passL) (pa_cons (pe_cmKs KS_Row_make (hr.mono (by decide)) hG (pv 1) (pk_cons pe_int (pk_cons pe_int (pk_cons pe_str pk_nil))) pass0) (pa_cons (pe_cmKs KS_Row_set_mark (hr.mono (by decide)) hG (pv 1) (pk_cons pe_int (pk_cons pe_int pk_nil)) passL) pa_nil)))))
      (pss_cons (ps_set (i := 2) sc__law_named_right.nd rfl (Or.inl rfl) (pe_op op_cat (pv 2) (pe_lst (pa_cons (pe_cmK K_Row_mark (hr.mono (by decide)) hG (pv 1) pe_int passL) (pa_cons (pe_ixOwn GET_Row (hr.mono (by decide)) hG (E := fun _ => _) (fun σ pins H s e s2 I h => passL pins σ H s e s2 I h) (pv 1) pe_int) (pa_cons (pe_cmK K_Row_standing (hr.mono (by decide)) hG (pv 1) (pv 0) pass0) (pa_cons (pe_cmK K_Row_base (hr.mono (by decide)) hG (pv 1) (pv 0) pass0) pa_nil)))))))
      (pss_cons (ps_set (i := 2) sc__law_named_right.nd rfl (Or.inl rfl) (pe_op op_cat (pv 2) (pe_lst (pa_cons (pe_cmK K_Row_newest (hr.mono (by decide)) hG (pv 1) (pv 0) pass0) (pa_cons (pe_cmK K_Row_changer (hr.mono (by decide)) hG (pv 1) (pv 0) pass0) (pa_cons (pe_cm M_Fates_abort (hr.mono (by decide)) hG (pv 0) (pa_cons pe_int pa_nil) passL) (pa_cons (pe_cm M_Row_changer (hr.mono (by decide)) hG (pv 1) (pa_cons (pv 0) pa_nil) pass0) pa_nil)))))))
      (pss_cons (ps_set (i := 2) sc__law_named_right.nd rfl (Or.inl rfl) (pe_op op_cat (pv 2) (pe_lst (pa_cons (pe_cm M_Row_remove (hr.mono (by decide)) hG (pv 1) (pa_cons pe_int pa_nil) passL) (pa_cons (pe_cm0 M_Row_kept (hr.mono (by decide)) hG (pv 1) pass0) (pa_cons (pe_cm M_Row_make (hr.mono (by decide)) hG (pv 1) (pa_cons pe_int (pa_cons pe_int (pa_cons pe_str pa_nil))) pass0) (pa_cons (pe_cm0 M_Row_kept (hr.mono (by decide)) hG (pv 1) pass0) (pa_cons (pe_cm M_Row_standing (hr.mono (by decide)) hG (pv 1) (pa_cons (pv 0) pa_nil) pass0) pa_nil))))))))
      (pss_cons (ps_set (i := 3) sc__law_named_right.nd rfl (Or.inl rfl) (pe_lst (pa_cons pe_int (pa_cons pe_int (pa_cons pe_non (pa_cons pe_int (pa_cons (pe_tup (pa_cons pe_int (pa_cons pe_int (pa_cons pe_str pa_nil)))) (pa_cons (pe_lst (pa_cons pe_int (pa_cons pe_int pa_nil))) (pa_cons pe_int (pa_cons pe_int (pa_cons pe_int (pa_cons pe_non (pa_cons pe_non (pa_cons pe_non (pa_cons (pe_lst (pa_cons pe_int pa_nil)) (pa_cons pe_int (pa_cons (pe_lst (pa_cons pe_int (pa_cons pe_int pa_nil))) (pa_cons (pe_lst (pa_cons pe_int pa_nil)) pa_nil))))))))))))))))))
      (pss_one (ps_ret (pe_cmpR (op_eqD hr.units) (pv 2) (pv 3) (nomark _)))))))))), ?_⟩
    refine fun fa dxf nf nd ne => ⟨fa, dxf, rfl, upd_same, fun H1 F hA fr1 gr1 => ⟨rfl, ?_⟩⟩
    refine fun r dxr nr ndr ner => ⟨r, dxr, .int 4, rfl, upd_same, fun v m tp H2 nv nm vm vr mr ht hv hm hr2 fr2 => ⟨rfl, _, _, rfl, ?_⟩⟩
    have s1 := same_two (o := .own r) (o' := .ins CM dxr []) ndr nr ner
    have nf1 : ∀ b, F b → ∃ u, H1 b = some u := hA.on
    have N0 : Nm C CP CM H2 r fa v m 1 [(0, .ref tp)] [(0, .non)] [⟨0, .int 4, none, .non⟩] .zero F := by
      refine ⟨⟨⟨dxr, hr2⟩, hv, ⟨rfl, fun rv hrv => ?_⟩, hA.frame (G := fun b => b = r) (fun b u e z => fr2 b u (s1 _ _ e) z) fun b z e => ?_, wf0, tr0, fun rv hrv q e => ?_⟩, hm, vm, fun b z => ?_⟩
      · rw [List.mem_singleton.mp hrv]
        exact ⟨tp, rfl, ht⟩
      · obtain ⟨u, hu⟩ := nf1 b z
        rw [e, nr] at hu
        cases hu
      · rw [List.mem_singleton.mp hrv] at e
        cases e
      · obtain ⟨u, hu⟩ := nf1 b z
        refine ⟨fun e => ?_, fun e => ?_, fun e => ?_⟩
        · rw [e, nr] at hu; cases hu
        · have := s1 _ _ hu
          rw [e, nv] at this; cases this
        · have := s1 _ _ hu
          rw [e, nm] at this; cases this
    clear hv hm ht hr2 fr2 s1 nf1 vr mr nv nm nf nd ne nr ndr ner vm gr1 fr1 hA
    -- begin
    obtain ⟨ad, hf, hF⟩ := id N0.rf.fs
    obtain ⟨dx0, lk⟩ := hf.look
    refine ⟨_, rfl, fa, dx0, _, rfl, lk.o, rfl, fa, .zero, F, rfl, N0.rf.fs, wf0, fun _ H3 F3 hA3 fr3 gr3 => ?_, fun z => absurd z (by decide)⟩
    have N3 : Nm C CP CM H3 r fa v m 1 [(0, .ref tp)] [(0, .non)] [⟨0, .int 4, none, .non⟩] S1 F3 := N0.fates hA3 fr3 gr3 wf1 tr1 fun rv hrv q e => by
      rw [List.mem_singleton.mp hrv] at e
      cases e
    clear N0 fr3 gr3 hA3 hf hF lk
    obtain ⟨dx3, b3⟩ := id N3.rf.b
    refine ⟨_, rfl, r, dx3, _, rfl, b3, rfl, rfl, r, v, m, 1, _, _, .int 5, .int 1, .str "replace", rfl, N3.rf.b, N3.vm, N3.rf.hv, N3.hm, rfl, rfl, (show 1 < 100 by decide), (show 1 < 100 by decide), fun tp1 H4 nt1 ht1 b4 hv4 hm4 k4 => ?_⟩
    obtain ⟨N4, fr4⟩ := N3.make rfl nt1 (o := some 1) ht1 b4 hv4 hm4 k4 fun q e => by cases e; exact ⟨by decide, by decide⟩
    clear N3 fr4 b3 b4 hv4 hm4 k4 nt1 ht1 H3
    obtain ⟨L, eL⟩ : ∃ L : List RV, L = [⟨0, .int 4, none, .non⟩] ++ [⟨1, .int 5, some 1, .str "replace"⟩] := ⟨_, rfl⟩
    rw [← eL] at N4
    have q1 : S1.stdL L = [0, 1] := by rw [eL]; decide +kernel
    have q2 : S1.bse L = 0 := by rw [eL]; decide +kernel
    have q3 : S1.nwst L = 1 := by rw [eL]; decide +kernel
    have q4 : FS.chg S1 L = .int 1 := by rw [eL]; rfl
    have q5 : FS.chg S2 L = .non := by rw [eL]; rfl
    have q6 : L.length ≤ 900 := by rw [eL]; decide
    obtain ⟨dx4, b4⟩ := id N4.rf.b
    refine ⟨_, rfl, r, dx4, _, rfl, b4, rfl, rfl, r, v, m, _, _, _, .int 0, .int 0, .int 3, rfl, N4.rf.b, N4.rf.hv, N4.hm, (show 2 < 100 by decide), .int _, fun i ei hs => ⟨by cases ei; rfl, ?_⟩, fun hn => by cases hn⟩
    cases ei
    obtain ⟨N5, fr5⟩ := N4.mark (M' := setD ([(0, .non)] ++ [(1, .non)]) 0 (.int 3))
    generalize upd H4 m (.dK (enV (setD ([(0, .non)] ++ [(1, .non)]) 0 (.int 3)))) = H5 at N5 fr5 ⊢
    clear fr5 b4 N4 hs
    refine ⟨(show 3 ≤ sizeLine by decide), fun p1 np1 => ?_⟩
    have s6 := same_new (o := .lst [.int ((FS.zero.states.length : Int) + 1), .int 1, .non]) np1
    have k1 : Kp (upd H5 p1 (.lst [.int ((FS.zero.states.length : Int) + 1), .int 1, .non])) (Zs F3 r v m) p1 (.lst [.int ((FS.zero.states.length : Int) + 1), .int 1, .non]) := ⟨upd_same, N5.free np1⟩
    have N6 := N5.same s6
    generalize upd H5 p1 (.lst [.int ((FS.zero.states.length : Int) + 1), .int 1, .non]) = H6 at k1 N6 ⊢
    have k1 : Kp H6 (Zs F3 r v m) p1 (.lst [.int 1, .int 1, .non]) := k1
    clear s6 N5 np1 H5
    -- mark, [..], standing, base
    obtain ⟨dx6, b6⟩ := id N6.rf.b
    have t6 : Kp H6 (Zs F3 r v m) tp1 (.tup [.int 5, .int 1, .str "replace"]) := by
      obtain ⟨t, e1, e2⟩ := N6.rf.at_.2 ⟨1, .int 5, some 1, .str "replace"⟩ (by simp [eL])
      have e1 : some (V.ref tp1) = some (.ref t) := e1
      injection e1 with e1
      injection e1 with e1
      subst e1
      exact ⟨e2, N6.ntp e2⟩
    refine ⟨_, rfl, _, rfl, r, dx6, _, rfl, b6, rfl, r, v, m, _, _, _, .int 0, .int 0, rfl, N6.rf.b, N6.rf.hv, N6.hm, .int _, fun i ei hs => ⟨.int 3, by cases ei; rfl, ?_⟩, fun hn => by cases hn⟩
    refine ⟨_, rfl, r, dx6, _, rfl, b6, r, v, m, _, _, .int 1, .int 1, rfl, N6.rf.b, N6.rf.hv, .int _, fun i y ei hy => ?_, fun hn => by cases hn⟩
    have ey : y = .ref tp1 := by
      cases ei
      exact (Option.some.inj hy).symm
    subst ey
    refine ⟨_, rfl, r, dx6, _, rfl, b6, rfl, _, rfl, r, fa, v, m, _, _, _, _, _, rfl, N6.rf, q6, fun p2 H7 np2 hp2 s7 => ?_⟩
    rw [q1] at hp2
    have k2 : Kp H7 (Zs F3 r v m) p2 (.lst [.int 0, .int 1]) := ⟨hp2, N6.free np2⟩
    have N7 := N6.same s7
    have k1 := k1.same s7
    have t7 := t6.same s7
    obtain ⟨dx7, b7⟩ := id N7.rf.b
    refine ⟨_, rfl, r, dx7, _, rfl, b7, rfl, _, rfl, r, fa, v, m, _, _, _, _, _, rfl, N7.rf, q6, fun H8 s8 => ?_⟩
    have N8 := N7.same s8
    have k1 := k1.same s8
    have k2 := k2.same s8
    have t8 := t7.same s8
    clear hs ei hy N6 t6 b6 N7 b7 t7 s7 s8 np2 hp2
    refine ⟨(show 4 ≤ sizeLine by decide), fun p3 np3 => ?_⟩
    dsimp only [q2]
    rw [q2]
    refine ⟨p1, p3, _, _, rfl, rfl, (same_new np3) _ _ k1.1, upd_same, (show 7 ≤ sizeLine by decide), fun p4 np4 => ?_⟩
    have s9 := (same_new np3).trans (same_new (o := .lst ([.int 1, .int 1, .non] ++ [.int 3, .ref tp1, .ref p2, .int 0])) np4)
    have k4 : Kp (upd (upd H8 p3 (.lst [.int 3, .ref tp1, .ref p2, .int 0])) p4 (.lst ([.int 1, .int 1, .non] ++ [.int 3, .ref tp1, .ref p2, .int 0]))) (Zs F3 r v m) p4 (.lst ([.int 1, .int 1, .non] ++ [.int 3, .ref tp1, .ref p2, .int 0])) :=
      ⟨upd_same, (N8.same (same_new np3)).free np4⟩
    have N9 := N8.same s9
    have k2 := k2.same s9
    have t9 := t8.same s9
    generalize upd (upd H8 p3 (.lst [.int 3, .ref tp1, .ref p2, .int 0])) p4 (.lst ([.int 1, .int 1, .non] ++ [.int 3, .ref tp1, .ref p2, .int 0])) = H9 at k4 k2 t9 N9 ⊢
    have k4 : Kp H9 (Zs F3 r v m) p4 (.lst [.int 1, .int 1, .non, .int 3, .ref tp1, .ref p2, .int 0]) := k4
    clear s9 np4 np3 k1 t8 N8
    -- newest, changer, abort, changer
    obtain ⟨dx9, b9⟩ := id N9.rf.b
    refine ⟨_, rfl, _, rfl, r, dx9, _, rfl, b9, rfl, _, rfl, r, fa, v, m, _, _, _, _, _, rfl, N9.rf, q6, fun Ha sa => ?_⟩
    have Na := N9.same sa
    have k4 := k4.same sa
    have k2 := k2.same sa
    have ta := t9.same sa
    obtain ⟨dxa, ba⟩ := id Na.rf.b
    clear N9 b9 t9 sa
    refine ⟨_, rfl, r, dxa, _, rfl, ba, rfl, _, rfl, r, fa, v, m, _, _, _, _, _, rfl, Na.rf, q6, fun Hb sb => ?_⟩
    have Nb := Na.same sb
    have k4 := k4.same sb
    have k2 := k2.same sb
    have tb := ta.same sb
    clear Na ba ta sb
    obtain ⟨ad, hf, hF⟩ := id Nb.rf.fs
    obtain ⟨dx0, lk⟩ := hf.look
    refine ⟨_, rfl, fa, dx0, _, rfl, lk.o, rfl, fa, .int 1, .int 1, S1, F3, rfl, Nb.rf.fs, .int _, wf1, fun k hk => (by cases hk), fun i ei hi hn Hc Fc hAc frc grc => ?_⟩
    have ei : (1 : Int) = (i : Int) + 1 := by injection ei
    have ei : i = 0 := by omega
    subst ei
    have hAc : FsA C CP [] Hc fa S2 Fc := hAc
    have Nc : Nm C CP CM Hc r fa v m _ _ _ L S2 Fc := Nb.fates hAc frc grc wf2 tr2 fun rv hrv q e => Nb.rf.kn rv hrv q e
    have k4 := k4.step (fr_left frc) (gr_left grc)
    have k2 := k2.step (fr_left frc) (gr_left grc)
    have tc := tb.step (fr_left frc) (gr_left grc)
    clear Nb hAc frc grc hf hF lk hn hi tb
    obtain ⟨dxc, bc⟩ := id Nc.rf.b
    refine ⟨_, rfl, r, dxc, _, rfl, bc, rfl, _, rfl, r, fa, v, m, _, _, _, _, _, rfl, Nc.rf, q6, fun Hd sd => ?_⟩
    have Nd := Nc.same sd
    have k4 := k4.same sd
    have k2 := k2.same sd
    have td := tc.same sd
    clear Nc bc tc sd
    refine ⟨(show 4 ≤ sizeLine by decide), fun p5 np5 => ?_⟩
    dsimp only [q3, q4, q5]
    rw [q3, q4, q5]
    refine ⟨p4, p5, _, _, rfl, rfl, (same_new np5) _ _ k4.1, upd_same, (show 11 ≤ sizeLine by decide), fun p6 np6 => ?_⟩
    have se := (same_new np5).trans (same_new (o := .lst ([.int 1, .int 1, .non, .int 3, .ref tp1, .ref p2, .int 0] ++ [.int 1, .int 1, .non, .non])) np6)
    have k6 : Kp (upd (upd Hd p5 (.lst [.int 1, .int 1, .non, .non])) p6 (.lst ([.int 1, .int 1, .non, .int 3, .ref tp1, .ref p2, .int 0] ++ [.int 1, .int 1, .non, .non]))) (Zs Fc r v m) p6 (.lst ([.int 1, .int 1, .non, .int 3, .ref tp1, .ref p2, .int 0] ++ [.int 1, .int 1, .non, .non])) :=
      ⟨upd_same, (Nd.same (same_new np5)).free np6⟩
    have Ne := Nd.same se
    have k2 := k2.same se
    have te := td.same se
    generalize upd (upd Hd p5 (.lst [.int 1, .int 1, .non, .non])) p6 (.lst ([.int 1, .int 1, .non, .int 3, .ref tp1, .ref p2, .int 0] ++ [.int 1, .int 1, .non, .non])) = He at k6 k2 te Ne ⊢
    have k6 : Kp He (Zs Fc r v m) p6 (.lst [.int 1, .int 1, .non, .int 3, .ref tp1, .ref p2, .int 0, .int 1, .int 1, .non, .non]) := k6
    clear se np6 np5 k4 td Nd
    -- remove, kept, make, kept, standing
    obtain ⟨dxe, be⟩ := id Ne.rf.b
    refine ⟨_, rfl, _, rfl, r, dxe, _, rfl, be, rfl, r, v, m, _, _, _, .int 1, .int 1, rfl, Ne.rf.b, Ne.vm, Ne.rf.hv, Ne.hm, .int _, fun i ei hs => ?_, fun hn => by cases hn⟩
    cases ei
    refine ⟨rfl, ?_⟩
    obtain ⟨Nf, frf⟩ := Ne.rem (i := 1)
    have k6 := k6.row frf
    have k2 := k2.row frf
    have tf := te.row frf
    generalize upd (upd He v (.dK (enV (dropD ([(0, V.ref tp)] ++ [(1, .ref tp1)]) 1)))) m _ = Hf at Nf k6 k2 tf ⊢
    clear Ne be te frf hs
    obtain ⟨dxf', bf⟩ := id Nf.rf.b
    refine ⟨_, rfl, r, dxf', _, rfl, bf, rfl, r, v, m, _, _, rfl, Nf.rf.b, Nf.rf.hv, fun p7 np7 => ?_⟩
    have k7 : Kp (upd Hf p7 (.lst ((dropD ([(0, V.ref tp)] ++ [(1, .ref tp1)]) 1).map fun e => V.int e.1))) (Zs Fc r v m) p7 (.lst [.int 0]) := ⟨upd_same, Nf.free np7⟩
    have sg := same_new (o := .lst ((dropD ([(0, V.ref tp)] ++ [(1, .ref tp1)]) 1).map fun e => V.int e.1)) np7
    have Ng := Nf.same sg
    have k6 := k6.same sg
    have k2 := k2.same sg
    have tg := tf.same sg
    generalize upd Hf p7 (.lst ((dropD ([(0, V.ref tp)] ++ [(1, .ref tp1)]) 1).map fun e => V.int e.1)) = Hg at k7 Ng k6 k2 tg ⊢
    clear sg Nf bf np7 tf
    obtain ⟨dxg, bg⟩ := id Ng.rf.b
    refine ⟨_, rfl, r, dxg, _, rfl, bg, rfl, r, v, m, _, _, _, .int 6, .int 1, .str "change", rfl, Ng.rf.b, Ng.vm, Ng.rf.hv, Ng.hm, rfl, rfl, (show 1 < 100 by decide), (show 1 < 100 by decide), fun tp2 Hh nt2 ht2 bh hvh hmh kh => ?_⟩
    obtain ⟨Nh, frh⟩ := Ng.make rfl nt2 (o := some 1) ht2 bh hvh hmh kh fun q e => by cases e; exact ⟨by decide, by decide⟩
    have k6 := k6.row frh
    have k2 := k2.row frh
    have k7 := k7.row frh
    have th := tg.row frh
    clear Ng bg frh bh hvh hmh kh ht2 nt2 tg
    obtain ⟨L2', eL2⟩ : ∃ L2 : List RV, L2 = offL L 1 ++ [⟨1 + 1, .int 6, some 1, .str "change"⟩] := ⟨_, rfl⟩
    rw [← eL2] at Nh
    have q7 : S2.stdL L2' = [0] := by rw [eL2, eL]; decide +kernel
    have q8 : L2'.length ≤ 900 := by rw [eL2, eL]; decide
    obtain ⟨dxh, bh⟩ := id Nh.rf.b
    refine ⟨_, rfl, r, dxh, _, rfl, bh, rfl, r, v, m, _, _, rfl, Nh.rf.b, Nh.rf.hv, fun p8 np8 => ?_⟩
    have k8 : Kp (upd Hh p8 (.lst ((dropD ([(0, V.ref tp)] ++ [(1, .ref tp1)]) 1 ++ [((1 + 1 : Int), V.ref tp2)]).map fun e => V.int e.1))) (Zs Fc r v m) p8 (.lst [.int 0, .int 2]) := ⟨upd_same, Nh.free np8⟩
    have si := same_new (o := .lst ((dropD ([(0, V.ref tp)] ++ [(1, .ref tp1)]) 1 ++ [((1 + 1 : Int), V.ref tp2)]).map fun e => V.int e.1)) np8
    have Ni := Nh.same si
    have k6 := k6.same si
    have k2 := k2.same si
    have k7 := k7.same si
    have ti := th.same si
    generalize upd Hh p8 (.lst ((dropD ([(0, V.ref tp)] ++ [(1, .ref tp1)]) 1 ++ [((1 + 1 : Int), V.ref tp2)]).map fun e => V.int e.1)) = Hi at k8 Ni k6 k2 k7 ti ⊢
    clear si Nh bh np8 th
    obtain ⟨dxi, bi⟩ := id Ni.rf.b
    refine ⟨_, rfl, r, dxi, _, rfl, bi, rfl, _, rfl, r, fa, v, m, _, _, _, _, _, rfl, Ni.rf, q8, fun p9 Hj np9 hp9 sj => ?_⟩
    rw [q7] at hp9
    have k6 := sj _ _ k6.1
    have k2 := sj _ _ k2.1
    have k7 := sj _ _ k7.1
    have k8 := sj _ _ k8.1
    have tj := sj _ _ ti.1
    clear sj Ni bi ti np9
    refine ⟨(show 5 ≤ sizeLine by decide), fun p10 np10 => ?_⟩
    refine ⟨p6, p10, _, _, rfl, rfl, (same_new np10) _ _ k6, upd_same, (show 16 ≤ sizeLine by decide), fun p11 np11 => ?_⟩
    have sk := (same_new np10).trans (same_new (o := .lst ([.int 1, .int 1, .non, .int 3, .ref tp1, .ref p2, .int 0, .int 1, .int 1, .non, .non] ++ [.non, .ref p7, .int (1 + 1), .ref p8, .ref p9])) np11)
    have k11 : (upd (upd Hj p10 (.lst [.non, .ref p7, .int (1 + 1), .ref p8, .ref p9])) p11 (.lst ([.int 1, .int 1, .non, .int 3, .ref tp1, .ref p2, .int 0, .int 1, .int 1, .non, .non] ++ [.non, .ref p7, .int (1 + 1), .ref p8, .ref p9]))) p11 = some (.lst ([.int 1, .int 1, .non, .int 3, .ref tp1, .ref p2, .int 0, .int 1, .int 1, .non, .non] ++ [.non, .ref p7, .int (1 + 1), .ref p8, .ref p9])) := upd_same
    have hd : Dx K (upd (upd Hj p10 (.lst [.non, .ref p7, .int (1 + 1), .ref p8, .ref p9])) p11 (.lst ([.int 1, .int 1, .non, .int 3, .ref tp1, .ref p2, .int 0, .int 1, .int 1, .non, .non] ++ [.non, .ref p7, .int (1 + 1), .ref p8, .ref p9]))) (.ref p11)
        (.list [.int 1, .int 1, .none, .int 3, .tuple [.int 5, .int 1, .str "replace"], .list [.int 0, .int 1], .int 0, .int 1, .int 1, .none, .none, .none, .list [.int 0], .int 2, .list [.int 0, .int 2], .list [.int 0]]) := by
      refine .lst (.inl (.inl k11)) ?_
      have i2 : ∀ {p : Addr} {a b : Int}, Hj p = some (.lst [.int a, .int b]) → Dx K _ (.ref p) (.list [.int a, .int b]) := fun h => .lst (.inl (.inl (sk _ _ h))) (.cons (.int _) (.cons (.int _) .nil))
      have i1 : ∀ {p : Addr} {a : Int}, Hj p = some (.lst [.int a]) → Dx K _ (.ref p) (.list [.int a]) := fun h => .lst (.inl (.inl (sk _ _ h))) (.cons (.int _) .nil)
      refine .cons (.int _) (.cons (.int _) (.cons .non (.cons (.int _) (.cons (.tup (.inl (.inl (sk _ _ tj))) (.cons (.int _) (.cons (.int _) (.cons (.str _) .nil)))) (.cons (i2 k2) (.cons (.int _) (.cons (.int _) (.cons (.int _) (.cons .non (.cons .non (.cons .non (.cons (i1 k7) (.cons (.int _) (.cons (i2 k8) (.cons (i1 hp9) .nil)))))))))))))))
    generalize upd (upd Hj p10 (.lst [.non, .ref p7, .int (1 + 1), .ref p8, .ref p9])) p11 (.lst ([.int 1, .int 1, .non, .int 3, .ref tp1, .ref p2, .int 0, .int 1, .int 1, .non, .non] ++ [.non, .ref p7, .int (1 + 1), .ref p8, .ref p9])) = Hk at hd ⊢
    clear k6 k2 k7 k8 tj sk k11 hp9 np10 np11
    refine ⟨(show 3 ≤ sizeLine by decide), fun ta nta => ?_⟩
    have s1 := same_new (o := .tup [.int 5, .int 1, .str "replace"]) nta
    have d1 : Dx K (upd Hk ta (.tup [.int 5, .int 1, .str "replace"])) (.ref ta) (.tuple [.int 5, .int 1, .str "replace"]) := .tup (.inl (.inl upd_same)) (.cons (.int _) (.cons (.int _) (.cons (.str _) .nil)))
    have hd := hd.upR (.of s1)
    generalize upd Hk ta (.tup [.int 5, .int 1, .str "replace"]) = H1 at d1 hd ⊢
    refine ⟨(show 2 ≤ sizeLine by decide), fun a2 n2 => ?_⟩
    have s2 := same_new (o := .lst [.int 0, .int 1]) n2
    have d2 : Dx K (upd H1 a2 (.lst [.int 0, .int 1])) (.ref a2) (.list [.int 0, .int 1]) := .lst (.inl (.inl upd_same)) (.cons (.int _) (.cons (.int _) .nil))
    have hd := hd.upR (.of s2)
    have d1 := d1.upR (.of s2)
    generalize upd H1 a2 (.lst [.int 0, .int 1]) = H2 at d1 d2 hd ⊢
    refine ⟨(show 1 ≤ sizeLine by decide), fun a3 n3 => ?_⟩
    have s3 := same_new (o := .lst [.int 0]) n3
    have d3 : Dx K (upd H2 a3 (.lst [.int 0])) (.ref a3) (.list [.int 0]) := .lst (.inl (.inl upd_same)) (.cons (.int _) .nil)
    have hd := hd.upR (.of s3)
    have d1 := d1.upR (.of s3)
    have d2 := d2.upR (.of s3)
    generalize upd H2 a3 (.lst [.int 0]) = H3 at d1 d2 d3 hd ⊢
    refine ⟨(show 2 ≤ sizeLine by decide), fun a4 n4 => ?_⟩
    have s4 := same_new (o := .lst [.int 0, .int 2]) n4
    have d4 : Dx K (upd H3 a4 (.lst [.int 0, .int 2])) (.ref a4) (.list [.int 0, .int 2]) := .lst (.inl (.inl upd_same)) (.cons (.int _) (.cons (.int _) .nil))
    have hd := hd.upR (.of s4)
    have d1 := d1.upR (.of s4)
    have d2 := d2.upR (.of s4)
    have d3 := d3.upR (.of s4)
    generalize upd H3 a4 (.lst [.int 0, .int 2]) = H4 at d1 d2 d3 d4 hd ⊢
    refine ⟨(show 1 ≤ sizeLine by decide), fun a5 n5 => ?_⟩
    have s5 := same_new (o := .lst [.int 0]) n5
    have d5 : Dx K (upd H4 a5 (.lst [.int 0])) (.ref a5) (.list [.int 0]) := .lst (.inl (.inl upd_same)) (.cons (.int _) .nil)
    have hd := hd.upR (.of s5)
    have d1 := d1.upR (.of s5)
    have d2 := d2.upR (.of s5)
    have d3 := d3.upR (.of s5)
    have d4 := d4.upR (.of s5)
    generalize upd H4 a5 (.lst [.int 0]) = H5 at d1 d2 d3 d4 d5 hd ⊢
    refine ⟨(show 16 ≤ sizeLine by decide), fun a6 n6 => ?_⟩
    have s6 := SameR.of (same_new (o := .lst [.int 1, .int 1, .non, .int 3, .ref ta, .ref a2, .int 0, .int 1, .int 1, .non, .non, .non, .ref a3, .int 2, .ref a4, .ref a5]) n6)
    have he : Dx K (upd H5 a6 (.lst [.int 1, .int 1, .non, .int 3, .ref ta, .ref a2, .int 0, .int 1, .int 1, .non, .non, .non, .ref a3, .int 2, .ref a4, .ref a5])) (.ref a6)
        (.list [.int 1, .int 1, .none, .int 3, .tuple [.int 5, .int 1, .str "replace"], .list [.int 0, .int 1], .int 0, .int 1, .int 1, .none, .none, .none, .list [.int 0], .int 2, .list [.int 0, .int 2], .list [.int 0]]) :=
      .lst (.inl (.inl upd_same)) (.cons (.int _) (.cons (.int _) (.cons .non (.cons (.int _) (.cons (d1.upR s6) (.cons (d2.upR s6) (.cons (.int _) (.cons (.int _) (.cons (.int _) (.cons .non (.cons .non (.cons .non (.cons (d3.upR s6) (.cons (.int _) (.cons (d4.upR s6) (.cons (d5.upR s6) .nil))))))))))))))))
    have hd := hd.upR s6
    generalize upd H5 a6 (.lst [.int 1, .int 1, .non, .int 3, .ref ta, .ref a2, .int 0, .int 1, .int 1, .non, .non, .non, .ref a3, .int 2, .ref a4, .ref a5]) = H6 at he hd ⊢
    refine ⟨_, rfl, _, rfl, _, _, dp_of (by decide +kernel) hd, dp_of (by decide +kernel) he, by decide +kernel, by decide +kernel, ?_⟩
    have e : PyData.eqv (.list [.int 1, .int 1, .none, .int 3, .tuple [.int 5, .int 1, .str "replace"], .list [.int 0, .int 1], .int 0, .int 1, .int 1, .none, .none, .none, .list [.int 0], .int 2, .list [.int 0, .int 2], .list [.int 0]])
      (.list [.int 1, .int 1, .none, .int 3, .tuple [.int 5, .int 1, .str "replace"], .list [.int 0, .int 1], .int 0, .int 1, .int 1, .none, .none, .none, .list [.int 0], .int 2, .list [.int 0, .int 2], .list [.int 0]]) = true := by decide +kernel
    rw [e]
    exact q _
end
end K25

set_option maxRecDepth 100000
set_option maxHeartbeats 4000000
namespace K25
open PySem PySem.Spec L2 Rm K25F
open PyProof.Rows hiding St
section
variable {P : Program} {w : World} {K : PySem.W.Frag} {mg : Str → Option Value} {base : Heap} {C CP CM UC : Addr} {EE : EA}
/-! ### what the law holds -/
def vf (i : Int) : RV := if i = 0 then ⟨0, .int 1, none, .non⟩ else ⟨i, .int i, some 1, .str "change"⟩
theorem vf_num (i : Int) : (vf i).num = i := by
  unfold vf
  by_cases c : i = 0
  · rw [if_pos c, c]
  · rw [if_neg c]
def mkM (ks : List Int) : List (Int × V) := ks.map fun i => (i, V.non)
def Mine (F : Addr → Prop) (r v m t k : Addr) : Addr → Prop := fun b => Zs F r v m b ∨ b = t ∨ b = k
theorem keys_val : ∀ {D : List (Int × V)} {i : Int}, (valD D i).isSome = (D.map (·.1)).contains i
  | [], i => rfl
  | (j, x) :: D, i => by
    have ih := keys_val (D := D) (i := i)
    unfold valD at ih ⊢
    by_cases c : j = i
    · simp [c]
    · have c2 : ¬ i = j := fun e => c e.symm
      simp only [List.find?_cons, c, decide_false, List.map_cons, List.contains_cons]
      rw [ih]
      simp [c2]
theorem at_keys {H : Hp} {D : List (Int × V)} {ks : List Int} (h : VsAt H D (ks.map vf)) : D.map (·.1) = ks := by
  rw [h.1, List.map_map]
  conv => rhs; rw [← List.map_id ks]
  exact List.map_congr_left fun i _ => vf_num i
theorem mk_keys (ks : List Int) : (mkM ks).map (·.1) = ks := by
  unfold mkM
  rw [List.map_map]
  conv => rhs; rw [← List.map_id ks]
  rfl
theorem off_vf (ks : List Int) (i : Int) : offL (ks.map vf) i = (ks.filter fun j => decide (j ≠ i)).map vf := by
  unfold offL
  rw [List.filter_map]
  congr 1
  refine List.filter_congr fun j _ => ?_
  show decide ((vf j).num ≠ i) = _
  rw [vf_num]
theorem off_mk (ks : List Int) (i : Int) : dropD (mkM ks) i = mkM (ks.filter fun j => decide (j ≠ i)) := by
  unfold dropD mkM
  rw [List.filter_map]
  rfl
theorem Nm.nxt {H H' : Hp} {r fa v m t : Addr} {n : Int} {D M : List (Int × V)} {L : List RV} {S : FS} {F : Addr → Prop} {o : HO} (h : Nm C CP CM H r fa v m n D M L S F) (nt : ¬ Zs F r v m t) (ht : H t = some o) (ho : IsTape o) (N : ∀ b u, H b = some u → b ≠ t → H' b = some u) : Nm C CP CM H' r fa v m n D M L S F := by
  obtain ⟨⟨⟨dx, b⟩, hv, a, f, wf, tr, kn⟩, hm, vm, dj⟩ := id h
  refine ⟨⟨⟨dx, N _ _ b fun e => nt (.inr (.inl e.symm))⟩, N _ _ hv fun e => nt (.inr (.inr (.inl e.symm))), a.same fun y xs e => N _ _ e fun z => ?_, f.frame (G := fun b => b = t) (fun y u e z => N _ _ e z) fun y z e => nt (.inl (by rw [← e]; exact z)), wf, tr, kn⟩, N _ _ hm fun e => nt (.inr (.inr (.inr e.symm))), vm, dj⟩
  rw [z, ht] at e
  obtain ⟨_, _, rfl, _⟩ := ho
  cases e
structure LS (C CP CM : Addr) (Hs H : Hp) (t r fa v m r2 v2 m2 k : Addr) (n : Int) (S : FS) (F : Addr → Prop) (ks : List Int) : Prop where
  tp : ∃ o, H t = some o ∧ IsTape o
  nm : ∃ D, Nm C CP CM H r fa v m n D (mkM ks) (ks.map vf) S F
  hk : H k = some (.lst (ks.map V.int))
  ot : ∃ dx tp2, H r2 = some (rowO CM dx v2 m2 1) ∧ H v2 = some (.dK (enV [(0, .ref tp2)])) ∧ H m2 = some (.dK (enV [(0, .non)])) ∧ H tp2 = some (.tup [.int 2, .non, .non])
  nd : ks.Nodup
  bd : ∀ i ∈ ks, 0 ≤ i ∧ i < n
  ln : ks.length ≤ 8
  sep : ∀ b, (b = r2 ∨ b = v2 ∨ b = m2) → ¬ Mine F r v m t k b
  tk : t ≠ k
  nt : ¬ Zs F r v m t
  nk : ¬ Zs F r v m k
  sm : Same Hs H
  fr : ∀ b, Mine F r v m t k b → Hs b = none
section
variable {Hs H H' : Hp} {t r fa v m r2 v2 m2 k : Addr} {n n' : Int} {S S' : FS} {F F' : Addr → Prop} {ks ks' : List Int}
theorem LS.tup (h : LS C CP CM Hs H t r fa v m r2 v2 m2 k n S F ks) {b : Addr} {xs : List V} (e : H b = some (.tup xs)) : ¬ Mine F r v m t k b := by
  obtain ⟨D, N⟩ := h.nm
  rintro (z | rfl | rfl)
  · exact N.ntp e z
  · obtain ⟨o, ht, _, _, rfl, _⟩ := h.tp
    rw [ht] at e
    cases e
  · rw [h.hk] at e
    cases e
theorem LS.step (h : LS C CP CM Hs H t r fa v m r2 v2 m2 k n S F ks) (fr : Fr (Mine F r v m t k) H H') (gr : Grow F F' H) (tp : ∃ o, H' t = some o ∧ IsTape o) (nm : ∃ D, Nm C CP CM H' r fa v m n' D (mkM ks') (ks'.map vf) S' F') (hk : H' k = some (.lst (ks'.map V.int)))
    (nd : ks'.Nodup) (bd : ∀ i ∈ ks', 0 ≤ i ∧ i < n') (ln : ks'.length ≤ 8) : LS C CP CM Hs H' t r fa v m r2 v2 m2 k n' S' F' ks' := by
  obtain ⟨dx, tp2, o1, o2, o3, o4⟩ := h.ot
  have g : Grow (Mine F r v m t k) (Mine F' r v m t k) H := fun b z => by
    rcases z with z | z
    · exact (gr_left gr b z).imp .inl id
    · exact .inl (.inr z)
  have ng : ∀ {b u}, H b = some u → ¬ Mine F r v m t k b → ¬ Mine F' r v m t k b := fun e nz z => (g _ z).elim nz fun y => by rw [e] at y; cases y
  obtain ⟨ot, ht, hot⟩ := id h.tp
  refine ⟨tp, nm, hk, ⟨dx, tp2, fr _ _ o1 (h.sep _ (.inl rfl)), fr _ _ o2 (h.sep _ (.inr (.inl rfl))), fr _ _ o3 (h.sep _ (.inr (.inr rfl))), fr _ _ o4 (h.tup o4)⟩, nd, bd, ln, ?_, h.tk, fun z => ?_, fun z => ?_, ?_, ?_⟩
  · rintro b (rfl | rfl | rfl)
    · exact ng o1 (h.sep _ (.inl rfl))
    · exact ng o2 (h.sep _ (.inr (.inl rfl)))
    · exact ng o3 (h.sep _ (.inr (.inr rfl)))
  · exact (gr_left gr _ z).elim h.nt fun y => by rw [ht] at y; cases y
  · exact (gr_left gr _ z).elim h.nk fun y => by rw [h.hk] at y; cases y
  · exact fun b u e => fr _ _ (h.sm _ _ e) fun z => by rw [h.fr _ z] at e; cases e
  · intro b z
    rcases g b z with z | z
    · exact h.fr _ z
    · exact none_of h.sm z
theorem LS.same (h : LS C CP CM Hs H t r fa v m r2 v2 m2 k n S F ks) (s : Same H H') : LS C CP CM Hs H' t r fa v m r2 v2 m2 k n S F ks := by
  obtain ⟨o, h1, h2⟩ := h.tp
  obtain ⟨D, N⟩ := h.nm
  exact h.step (fun b u e _ => s _ _ e) .refl ⟨o, s _ _ h1, h2⟩ ⟨D, N.same s⟩ (s _ _ h.hk) h.nd h.bd h.ln
theorem LS.nxt (h : LS C CP CM Hs H t r fa v m r2 v2 m2 k n S F ks) (N : Nxt t H H') : LS C CP CM Hs H' t r fa v m r2 v2 m2 k n S F ks := by
  obtain ⟨o, h1, h2⟩ := h.tp
  obtain ⟨D, M⟩ := h.nm
  exact h.step (fun b u e z => N.keep _ _ e fun y => z (.inr (.inl y))) .refl N.tape ⟨D, M.nxt h.nt h1 h2 N.keep⟩ (N.keep _ _ h.hk h.tk.symm) h.nd h.bd h.ln
theorem LS.turn (h : LS C CP CM Hs H t r fa v m r2 v2 m2 k n S F ks) {o : HO} (ho : IsTape o) : LS C CP CM Hs (upd H t o) t r fa v m r2 v2 m2 k n S F ks :=
  h.nxt ⟨fun b u e ne => (upd_ne ne).trans e, o, upd_same, ho⟩
theorem Nm.setk {D M : List (Int × V)} {L : List RV} {o' : HO} (h : Nm C CP CM H r fa v m n D M L S F) (nk : ¬ Zs F r v m k) (hk : H k = some (.lst o1)) : Nm C CP CM (upd H k o') r fa v m n D M L S F := by
  obtain ⟨⟨⟨dx, b⟩, hv, a, f, wf, tr, kn⟩, hm, vm, dj⟩ := id h
  refine ⟨⟨⟨dx, (upd_ne fun e => nk (.inr (.inl e.symm))).trans b⟩, (upd_ne fun e => nk (.inr (.inr (.inl e.symm)))).trans hv, a.same fun y xs e => (upd_ne fun z => ?_).trans e, f.frame (G := fun b => b = k) (fun y u e z => (upd_ne z).trans e) fun y z e => nk (.inl (by rw [← e]; exact z)), wf, tr, kn⟩, (upd_ne fun e => nk (.inr (.inr (.inr e.symm)))).trans hm, vm, dj⟩
  rw [z, hk] at e
  cases e
theorem no_key {D : List (Int × V)} {n : Int} (h : n ∉ D.map (·.1)) : valD D n = none := by
  cases e : valD D n with
  | none => rfl
  | some x =>
    have := keys_val (D := D) (i := n)
    rw [e] at this
    exact absurd (List.contains_iff_mem.mp this.symm) h
theorem has_key {D : List (Int × V)} {n : Int} (h : n ∈ D.map (·.1)) : (valD D n).isSome = true := by
  rw [keys_val]
  exact List.contains_iff_mem.mpr h
theorem LS.add (h : LS C CP CM Hs H t r fa v m r2 v2 m2 k n S F ks) (ln : ks.length ≤ 7) {D : List (Int × V)} {tp : Addr} {x z : V} {o : Option Int} (N : Nm C CP CM H r fa v m n D (mkM ks) (ks.map vf) S F)
    (n0 : 0 < n) (ev : vf n = ⟨n, x, o, z⟩) (nt : H tp = none) (ht : H' tp = some (.tup [x, oI o, z])) (b : IsRow CM H' r v m (n + 1)) (hv : H' v = some (.dK (enV (D ++ [(n, .ref tp)])))) (hm : H' m = some (.dK (enV (mkM ks ++ [(n, .non)]))))
    (kk : ∀ b u, H b = some u → b ≠ r → b ≠ v → b ≠ m → H' b = some u) (ko : ∀ q, o = some q → 1 ≤ q ∧ q ≤ (S.parts.length : Int)) :
    H' k = some (.lst (ks.map V.int)) ∧ LS C CP CM Hs (upd H' k (.lst (ks.map V.int ++ [.int n]))) t r fa v m r2 v2 m2 k (n + 1) S F (ks ++ [n]) := by
  have nn : n ∉ ks := fun e => by have := (h.bd n e).2; omega
  obtain ⟨N1, fr⟩ := N.make (no_key (by rw [at_keys N.rf.at_]; exact nn)) nt ht b hv hm kk ko
  have hk := fr _ _ h.hk h.nk
  obtain ⟨ot, t1, t2⟩ := h.tp
  refine ⟨hk, h.step (fun b u e nz => (upd_ne fun y => nz (.inr (.inr y))).trans (fr _ _ e fun z => nz (.inl z))) .refl ⟨ot, (upd_ne h.tk).trans (fr _ _ t1 h.nt), t2⟩ ⟨D ++ [(n, .ref tp)], ?_⟩ (upd_same.trans (by rw [List.map_append]; rfl)) ?_ ?_ (by rw [List.length_append]; show ks.length + 1 ≤ 8; omega)⟩
  · have N2 := N1.setk (o' := .lst (ks.map V.int ++ [.int n])) h.nk hk
    have e1 : mkM (ks ++ [n]) = mkM ks ++ [(n, .non)] := List.map_append
    have e2 : (ks ++ [n]).map vf = ks.map vf ++ [⟨n, x, o, z⟩] := by rw [List.map_append, List.map_cons, List.map_nil, ev]
    rw [e1, e2]
    exact N2
  · exact List.nodup_append.mpr ⟨h.nd, by simp, fun a ha b hb e => nn (by rw [List.mem_singleton.mp hb] at e; rw [← e]; exact ha)⟩
  · intro j hj
    rcases List.mem_append.mp hj with hj | hj
    · have := h.bd j hj
      omega
    · rw [List.mem_singleton.mp hj]
      omega
theorem LS.rem (h : LS C CP CM Hs H t r fa v m r2 v2 m2 k n S F ks) {D : List (Int × V)} {i : Int} (N : Nm C CP CM H r fa v m n D (mkM ks) (ks.map vf) S F) :
    (upd (upd H v (.dK (enV (dropD D i)))) m (.dK (enV (dropD (mkM ks) i)))) k = some (.lst (ks.map V.int)) ∧
    LS C CP CM Hs (upd (upd (upd H v (.dK (enV (dropD D i)))) m (.dK (enV (dropD (mkM ks) i)))) k (.lst ((ks.filter fun j => decide (j ≠ i)).map V.int))) t r fa v m r2 v2 m2 k n S F (ks.filter fun j => decide (j ≠ i)) := by
  obtain ⟨N1, fr⟩ := N.rem (i := i)
  have hk := fr _ _ h.hk h.nk
  obtain ⟨ot, t1, t2⟩ := h.tp
  refine ⟨hk, h.step (fun b u e nz => (upd_ne fun y => nz (.inr (.inr y))).trans (fr _ _ e fun z => nz (.inl z))) .refl ⟨ot, (upd_ne h.tk).trans (fr _ _ t1 h.nt), t2⟩ ⟨dropD D i, ?_⟩ upd_same (h.nd.filter _) (fun j hj => h.bd j (List.mem_filter.mp hj).1) (Nat.le_trans (List.length_filter_le ..) h.ln)⟩
  have N2 := N1.setk (o' := .lst ((ks.filter fun j => decide (j ≠ i)).map V.int)) h.nk hk
  rw [off_mk, off_vf] at N2
  rw [off_mk]
  exact N2
theorem LS.end_ (h : LS C CP CM Hs H t r fa v m r2 v2 m2 k n S F ks) (hA : FsA C CP [] H' fa S' F') (fr : Fr F H H') (gr : Grow F F' H) (wf : S'.Wf) (tr : S'.Tree) (kn : PKn S' (ks.map vf)) : LS C CP CM Hs H' t r fa v m r2 v2 m2 k n S' F' ks := by
  obtain ⟨D, N⟩ := h.nm
  obtain ⟨ot, t1, t2⟩ := h.tp
  exact h.step (fun b u e nz => fr _ _ e fun z => nz (.inl (.inl z))) gr ⟨ot, fr _ _ t1 fun z => h.nt (.inl z), t2⟩ ⟨D, N.fates hA fr gr wf tr kn⟩ (fr _ _ h.hk fun z => h.nk (.inl z)) h.nd h.bd h.ln
/-- the first of its kind is taken away -/
theorem erase_one {i : Int} : ∀ {ks : List Int}, ks.Nodup → i ∈ ks → ∃ j, ks[j]? = some i ∧ (∀ m : Nat, m < j → ks[m]? ≠ some i) ∧ ks.eraseIdx j = ks.filter fun j => decide (j ≠ i)
  | [], _, h => by cases h
  | a :: l, nd, h => by
    obtain ⟨na, nl⟩ := List.nodup_cons.mp nd
    by_cases e : a = i
    · subst e
      refine ⟨0, rfl, fun m hm => absurd hm (Nat.not_lt_zero _), ?_⟩
      rw [List.eraseIdx_cons_zero, List.filter_cons, if_neg (by simp)]
      exact (List.filter_eq_self.mpr fun b hb => by simpa using fun z : b = a => na (z ▸ hb)).symm
    · have hi : i ∈ l := (List.mem_cons.mp h).resolve_left fun z => e z.symm
      obtain ⟨j, h1, h2, h3⟩ := erase_one nl hi
      refine ⟨j + 1, h1, fun m hm => ?_, ?_⟩
      · cases m with
        | zero => exact fun z => e (Option.some.inj z)
        | succ m => exact h2 m (by omega)
      · rw [List.eraseIdx_cons_succ, List.filter_cons, if_pos (by simp [e]), h3]
end
end
end K25

set_option maxRecDepth 100000
set_option maxHeartbeats 4000000
namespace K25
open PySem PySem.Spec L2 Rm K25F
open PyProof.Rows hiding St
section
variable {P : Program} {w : World} {K : PySem.W.Frag} {mg : Str → Option Value} {base : Heap} {C CP CM UC : Addr} {EE : EA}
/-! ### what is seen of a row -/
def vD (i : Int) : PyData := if i = 0 then .tuple [.int 1, .none, .none] else .tuple [.int i, .int 1, .str "change"]
def seenD (i : Int) : PyData := .tuple [.int i, vD i, .none]
theorem tO_seen (i : Int) : tO (seenD i) = true := by
  unfold seenD vD
  by_cases c : i = 0
  · rw [if_pos c]; rfl
  · rw [if_neg c]; rfl
theorem tO_all : ∀ ks : List Int, tOA (ks.map seenD) = true
  | [] => rfl
  | i :: ks => by
    show (tO (seenD i) && tOA (ks.map seenD)) = true
    rw [tO_seen, tO_all ks]
    rfl
theorem LS.dx {Hs H : Hp} {t r fa v m r2 v2 m2 k : Addr} {n : Int} {S : FS} {F : Addr → Prop} {ks : List Int} (h : LS C CP CM Hs H t r fa v m r2 v2 m2 k n S F ks) {D : List (Int × V)} (N : Nm C CP CM H r fa v m n D (mkM ks) (ks.map vf) S F) {i : Int} (hi : i ∈ ks) {y : V} (hy : valD D i = some y) : Dx K H y (vD i) := by
  obtain ⟨tp, e1, e2⟩ := N.rf.at_.2 (vf i) (List.mem_map.mpr ⟨i, hi, rfl⟩)
  rw [vf_num, hy] at e1
  injection e1 with e1
  subst e1
  unfold vf at e2
  unfold vD
  by_cases c : i = 0
  · rw [if_pos c] at e2 ⊢
    exact .tup (.inl (.inl e2)) (.cons (.int _) (.cons .non (.cons .non .nil)))
  · rw [if_neg c] at e2 ⊢
    exact .tup (.inl (.inl e2)) (.cons (.int _) (.cons (.int _) (.cons (.str _) .nil)))
theorem mk_val {ks : List Int} {i : Int} (hi : i ∈ ks) : valD (mkM ks) i = some .non := by
  induction ks with
  | nil => cases hi
  | cons a l ih =>
    unfold valD mkM at ih ⊢
    by_cases c : a = i
    · simp [c]
    · rw [List.map_cons, List.find?_cons_of_neg (by simpa using c)]
      exact ih ((List.mem_cons.mp hi).resolve_left fun e => c e.symm)
theorem seen_run {Hs H : Hp} {t r fa v m r2 v2 m2 k : Addr} {n : Int} {S : FS} {F : Addr → Prop} {ks : List Int} (LS0 : LS C CP CM Hs H t r fa v m r2 v2 m2 k n S F ks)
    {c0 c1 c2 c3 c5 c7 c8 c9 c10 c11 c12 c13 c14 c15 : Option V} {Q : VK}
    (q : ∀ A xs H', H A = none → Same H H' → H' A = some (.lst xs) → DxAll K H' xs (ks.map seenD) → Q (.ref A) H') :
    tLc (iList K (tVar 6)) (gName 7) tYes (tTup (tCons (tVar 7) (tCons (tIxOwn CM (spGetX K CM UC) (fun _ => E0) (tVar 4) (tVar 7)) (tCons (tMeth CM "mark" (spMarkX K CM UC) [] E0 (tVar 4) (tCons (tVar 7) tNil)) tNil)))) [7]
      [c0, c1, c2, c3, some (.ref r), c5, some (.ref k), c7, c8, c9, c10, c11, c12, c13, c14, c15] H Q := by
  refine ⟨_, rfl, k, rfl, ⟨_, .inl (.inl LS0.hk)⟩, fun A nA => lc_list (xs := ks.map V.int) (fun n H' => Same H H' ∧ ∃ xs, H' A = some (.lst xs) ∧ xs.length ≤ n ∧ DxAll K H' xs ((ks.take n).map seenD)) ⟨same_new nA, [], upd_same, Nat.le_refl _, by rw [List.take_zero]; exact .nil⟩ (fun n H' _ e => .inl (.inl (e.1 _ _ LS0.hk))) ?_ ?_⟩
  · rintro j x H2 hx ⟨s2, xs, hA, hl, hd⟩
    rw [List.getElem?_map] at hx
    obtain ⟨i, hi, rfl⟩ := Option.map_eq_some_iff.mp hx
    have him := List.mem_of_getElem? hi
    have LS2 := LS0.same s2
    obtain ⟨D, N⟩ := id LS2.nm
    obtain ⟨dx, b⟩ := id N.rf.b
    have kD := at_keys N.rf.at_
    have hs : (valD D i).isSome = true := has_key (by rw [kD]; exact him)
    have jl : j < ks.length := (List.getElem?_eq_some_iff.mp hi).1
    refine ⟨rfl, ?_⟩
    refine ⟨_, rfl, _, rfl, _, rfl, r, dx, _, rfl, b, r, v, m, _, D, .int i, .int i, rfl, N.rf.b, N.rf.hv, .int _, fun i' y ei hy => ?_, fun hn => ?_⟩
    · cases ei
      refine ⟨_, rfl, r, dx, _, rfl, b, rfl, _, rfl, r, v, m, _, D, _, .int i, .int i, rfl, N.rf.b, N.rf.hv, N.hm, .int _, fun i' ei _ => ?_, fun hn => ?_⟩
      · cases ei
        refine ⟨.non, mk_val him, ?_⟩
        refine ⟨(show 3 ≤ sizeLine by decide), fun p np => ?_⟩
        have sp := same_new (o := .tup [.int i, y, .non]) np
        have hy' := (LS2.dx (K := K) N him hy).upR (.of sp)
        have ds : Dx K (upd H2 p (.tup [.int i, y, .non])) (.ref p) (seenD i) := .tup (.inl (.inl upd_same)) (.cons (.int _) (.cons hy' (.cons .non .nil)))
        have da := dxa_snoc (hd.upR (.of sp)) ds
        have hA' := sp _ _ hA
        refine ⟨xs, hA', sz1000 (by have := LS0.ln; omega), same_tape nA (s2.trans sp), xs ++ [.ref p], upd_same, by rw [List.length_append]; exact Nat.succ_le_succ hl, ?_⟩
        have e : (ks.take (j + 1)).map seenD = (ks.take j).map seenD ++ [seenD i] := by
          rw [List.take_succ, hi, List.map_append]
          rfl
        rw [e]
        refine dxa_keepT (TupK.put hA' (fun _ e => by cases e) fun _ _ e => by cases e) ?_ da
        rw [← e]
        exact tO_all _
      · have hn : (valD D i).isSome = false := hn
        rw [hs] at hn
        cases hn
    · have hn : (valD D i).isSome = false := hn
      rw [hs] at hn
      cases hn
  · rintro H2 ⟨s2, xs, hA, _, hd⟩
    rw [List.length_map, List.take_length] at hd
    exact q A xs H2 nA s2 hA hd
end
end K25

set_option maxRecDepth 100000
set_option maxHeartbeats 4000000
namespace K25
open PySem PySem.Spec L2 Rm K25F
open PyProof.Rows hiding St
section
variable {P : Program} {w : World} {K : PySem.W.Frag} {mg : Str → Option Value} {base : Heap} {C CP CM UC : Addr} {EE : EA}
theorem row_new {H H2 : Hp} {r dxr v m : Addr} {o : HO} (nr : H r = none) (ndr : H dxr = none) (ner : dxr ≠ r) (nv : upd (upd H dxr (.own r)) r o v = none) (nm : upd (upd H dxr (.own r)) r o m = none)
    (fr2 : ∀ b u, upd (upd H dxr (.own r)) r o b = some u → b ≠ r → H2 b = some u) : Same H H2 ∧ H v = none ∧ H m = none := by
  have s1 := same_two (o := .own r) (o' := o) ndr nr ner
  exact ⟨fun b u e => fr2 b u (s1 _ _ e) fun z => (by rw [z, nr] at e; cases e), none_of s1 nv, none_of s1 nm⟩
theorem nm_new {H2 : Hp} {r fa v m tp dx : Addr} {x : V} {F : Addr → Prop} (hA : FsA C CP [] H2 fa .zero F) (hv : H2 v = some (.dK (enV [(0, .ref tp)]))) (hm : H2 m = some (.dK (enV [(0, .non)]))) (ht : H2 tp = some (.tup [x, .non, .non])) (hr : H2 r = some (rowO CM dx v m 1)) (vm : v ≠ m)
    (dj : ∀ b, F b → b ≠ r ∧ b ≠ v ∧ b ≠ m) : Nm C CP CM H2 r fa v m 1 [(0, .ref tp)] [(0, .non)] [⟨0, x, none, .non⟩] .zero F := by
  refine ⟨⟨⟨dx, hr⟩, hv, ⟨rfl, fun rv hrv => ?_⟩, hA, wf0, tr0, fun rv hrv q e => ?_⟩, hm, vm, dj⟩
  · rw [List.mem_singleton.mp hrv]
    exact ⟨tp, rfl, ht⟩
  · rw [List.mem_singleton.mp hrv] at e
    cases e
def rgI (j : Nat) : List Int := (List.range j).map fun n : Nat => (n : Int)
theorem rgI_succ (j : Nat) : rgI (j + 1) = rgI j ++ [(j : Int)] := by
  unfold rgI
  rw [List.range_succ, List.map_append]
  rfl
theorem rgI_len (j : Nat) : (rgI j).length = j := by simp [rgI]
theorem nw_inv {H H1 : Hp} {b : Addr} {u : HO} (h : nw H H1 b = some u) : H b = none ∧ H1 b = some u := by
  unfold nw at h
  split at h
  · rename_i e
    exact ⟨by simpa using e, h⟩
  · cases h
theorem nw_nxt {H H1 H2 : Hp} {t : Addr} {o : HO} (ht : H t = some o) (N : Nxt t H1 H2) : Same (nw H H1) H2 := fun b u h => by
  obtain ⟨h1, h2⟩ := nw_inv h
  exact N.keep b u h2 fun e => by rw [e, ht] at h1; cases h1
theorem dp_ints {H : Hp} : ∀ ys : List Int, DpAll K H (ys.map V.int) (ys.map .int)
  | [] => .nil
  | y :: ys => .cons (.int y) (dp_ints ys)
theorem lay_ints : ∀ ys : List Int, PyData.canLayAll0 (ys.map .int) = true ∧ PyData.depthAll (ys.map .int) ≤ 1
  | [] => by simp [PyData.canLayAll0, PyData.depthAll]
  | y :: ys => by
    obtain ⟨e1, e2⟩ := lay_ints ys
    simp only [List.map_cons, PyData.canLayAll0, PyData.canLay0, e1, PyData.depthAll, PyData.depth, Bool.and_true, true_and]
    omega
theorem sh_of {ds : List PyData} (e1 : PyData.canLayAll0 ds = true) (e2 : PyData.depthAll ds ≤ 5) : SeqAt.shaped (.list ds) = true := by
  unfold SeqAt.shaped
  rw [Bool.and_eq_true]
  refine ⟨by simpa only [PyData.canLay0] using e1, decide_eq_true ?_⟩
  simp only [PyData.depth]
  omega
theorem sh_ints (ys : List Int) : SeqAt.shaped (.list (ys.map .int)) = true := by
  obtain ⟨e1, e2⟩ := lay_ints ys
  exact sh_of e1 (by omega)
theorem eqv_ints (ys : List Int) : PyData.eqv (.list (ys.map .int)) (.list (ys.map .int)) = true := SeqAt.eqv_refl _ (by simpa only [PyData.canLay0] using (lay_ints ys).1)
theorem lay_seen1 (i : Int) : (seenD i).canLay0 = true ∧ (seenD i).depth ≤ 3 := by
  unfold seenD vD
  by_cases c : i = 0
  · rw [if_pos c]; simp [PyData.canLay0, PyData.canLayAll0, PyData.depth, PyData.depthAll]
  · rw [if_neg c]; simp [PyData.canLay0, PyData.canLayAll0, PyData.depth, PyData.depthAll]; decide +kernel
theorem lay_seen : ∀ ys : List Int, PyData.canLayAll0 (ys.map seenD) = true ∧ PyData.depthAll (ys.map seenD) ≤ 3
  | [] => by simp [PyData.canLayAll0, PyData.depthAll]
  | y :: ys => by
    obtain ⟨e1, e2⟩ := lay_seen ys
    obtain ⟨e3, e4⟩ := lay_seen1 y
    simp only [List.map_cons, PyData.canLayAll0, e1, e3, PyData.depthAll, Bool.and_true, true_and]
    omega
theorem lay_seenL (ks : List Int) : (PyData.list (ks.map seenD)).canLay0 = true := by simpa only [PyData.canLay0] using (lay_seen ks).1
def thereB (ks : List Int) : PyData → Bool
  | .int i => ks.contains i
  | _ => false
theorem not_has {H : Hp} {D : List (Int × V)} {ks : List Int} {d : PyData} (h : VsAt H D (ks.map vf)) (c : thereB ks d = false) : hasD D d = false := by
  cases d with
  | int i =>
    show (valD D i).isSome = false
    rw [keys_val, at_keys h]
    exact c
  | _ => rfl
theorem flat_ints (ks : List Int) : (ks.map V.int).all flatV = true := by
  rw [List.all_map]
  exact List.all_eq_true.mpr fun _ _ => rfl
theorem in_ints (i : Int) (ks : List Int) : inV (.int i) (ks.map V.int) = ks.contains i := by
  unfold inV
  rw [List.any_map, List.contains_eq_any_beq]
  congr 1
  funext x
  show eqV (.int x) (.int i) = (i == x)
  by_cases c : x = i
  · subst c; simp [eqV]
  · have c2 : ¬ i = x := fun e => c e.symm
    show (x == i) = (i == x)
    rw [beq_eq_false_iff_ne.mpr c, beq_eq_false_iff_ne.mpr c2]
theorem sm_wrap {d : PyData} (h : Sv d) : Sm (.list [d]) := by
  obtain ⟨a, b, c, e⟩ := sv_dep (ds := [d]) fun x hx => by rw [List.mem_singleton.mp hx]; exact h
  exact ⟨by simpa [PyData.showable] using a, by simpa [PyData.leavesShort] using b, by simp only [PyData.weight]; simp at c; omega, by simp only [PyData.depth]; omega⟩
theorem sc_law : FnScope ["_law_script", "_law_start", "_law_tape_here", "_law_lots", "_law_row", "_law_other", "_law_kept", "_law_nth", "_law_last", "_law_seen", "_law_turn", "_law_item", "_law_is_there", "_law_due", "_law_at", "_law_one"] ["_law_script"] (defScope s_law) :=
  ⟨rfl, rfl, rfl, by decide +kernel, rfl, by decide +kernel, by decide +kernel⟩
theorem ok_law {f : Addr} {fd : FuncData} (F0 : Fun K "law" "law" s_law f fd) (B : Bl mg)
    (D__law_pick : Ce P w K mg base CX0 1 "_law_pick" ["_law_tape_here", "_law_many"] spPick)
    (D__law_one_of : Ce P w K mg base CX0 2 "_law_one_of" ["_law_tape_here", "_law_items"] (spOne K))
    (D__law_tape : Ce P w K mg base CX0 1 "_law_tape" ["_law_script", "_law_start"] (spTape K))
    (D__law_any : Ce P w K mg base CX0 3 "_law_any" ["_law_tape_here"] (spAnyN K))
    (D_Fates : Cn P w K mg base CX0 1 "Fates" C ["self"] (spFInit C CP)) (D_Row : Cn P w K mg base CX0 1 "Row" CM ["self", "value"] (spNewR CM))
    (M_Fates_begin : Cm P w K mg base (L2.CX P w) 5 C "begin" ["self"] (spBegin C CP [] EE))
    (M_Fates_abort : Cm P w K mg base (L2.CX P w) 6 C "abort" ["self", "number"] (spNum K C CP [] EE FS.ru FS.abo fun _ _ => .non))
    (M_Row_make : Cm P w K mg base CX0 1 CM "make" ["self", "value", "part", "mode"] (spMake K CM))
    (M_Row_mark : Cm P w K mg base (L2.CX P w) 6 CM "mark" ["self", "number"] (spMarkX K CM UC))
    (GET_Row : OwnM P w K mg base (L2.CX P w) 6 CM "__getitem__" ["self", "number"] (spGetX K CM UC))
    (M_Row_remove : Cm P w K mg base (L2.CX P w) 6 CM "remove" ["self", "number"] (spRemX K CM UC))
    (M_Row_kept : Cm P w K mg base CX0 1 CM "kept" ["self"] (spKept CM))
    (D__law_refused : Ce P w K mg base CX0 9 "_law_refused" ["_law_row", "_law_at", "_law_item"] (spRef K CM))
    (D__law_named_right : Ce P w K mg base CX0 12 "_law_named_right" [] (fun vs _ Q _ => vs = [] ∧ ∀ H', Q (.bl true) H')) :
    FnG P w K mg base CX0 13 f fd ["_law_script"] (spLaw K) := by
  refine fn_q F0 sc_law (fun vs H Q E h => ?_) (fun cdv A outer s H vs Q E hr hG h => ?_)
  · obtain ⟨a, ns, rfl, _⟩ := h
    rfl
  · obtain ⟨a, ns, rfl, ha, hn, hb, q⟩ := h
    have hu := hu_of hr
    refine ⟨_, (pss_cons (ps_for PassesOwn.never rfl (pi_range1 (by rfl) B.n_range (pa_cons (pe_callB (call_max2 rfl) (by rfl) B.n_max (by decide +kernel) (pa_cons pe_int (pa_cons (pe_callB (call_min2 rfl) (by rfl) B.n_min (by decide +kernel) (pa_cons pe_int (pa_cons (pe_callB call_len_seq (by rfl) B.n_len (by decide +kernel) (pa_cons (pv 0) pa_nil)) pa_nil))) pa_nil))) pa_nil)) (pg_name (i := 1) sc_law.nd rfl (Or.inl rfl)) (pss_cons (ps_asg (pe_tup (pa_cons (pe_ce D__law_tape (hr.mono (by decide)) hG (pa_cons (pv 0) (pa_cons (pv 1) pa_nil)) pass0) (pa_cons (pe_cn0 D_Fates (hr.mono (by decide)) hG pass0) pa_nil))) (pg_tup rfl (pgs_cons (pg_name (i := 2) sc_law.nd rfl (Or.inr rfl)) (pgs_cons (pg_name (i := 3) sc_law.nd rfl (Or.inl rfl)) pgs_nil))))
      (pss_cons (ps_asg (pe_tup (pa_cons (pe_cn D_Row (hr.mono (by decide)) hG (pa_cons pe_int pa_nil) pass0) (pa_cons (pe_cn D_Row (hr.mono (by decide)) hG (pa_cons pe_int pa_nil) pass0) (pa_cons (pe_lst (pa_cons pe_int pa_nil)) pa_nil)))) (pg_tup rfl (pgs_cons (pg_name (i := 4) sc_law.nd rfl (Or.inr rfl)) (pgs_cons (pg_name (i := 5) sc_law.nd rfl (Or.inl rfl)) (pgs_cons (pg_name (i := 6) sc_law.nd rfl (Or.inl rfl)) pgs_nil)))))
      (pss_cons (ps_expr (pe_cm0 M_Fates_begin (hr.mono (by decide)) hG (pv 3) passL))
      (pss_cons (ps_for PassesOwn.never rfl (pi_range2 (by rfl) B.n_range (pa_cons pe_int (pa_cons (pe_op op_add pe_int (pe_ce D__law_pick (hr.mono (by decide)) hG (pa_cons (pv 2) (pa_cons pe_int pa_nil)) pass0)) pa_nil))) (pg_name (i := 7) sc_law.nd rfl (Or.inl rfl)) (pss_cons (ps_expr (pe_cm M_Row_make (hr.mono (by decide)) hG (pv 4) (pa_cons (pv 7) (pa_cons pe_int (pa_cons pe_str pa_nil))) pass0))
      (pss_one (ps_expr (pe_bm PySem.F.plainAttrs_list PySem.F.slot_list_append PySem.F.type_list_append mt_append (pv 6) (pa_cons (pv 7) pa_nil))))))
      (pss_cons (ps_expr (pe_cm M_Fates_abort (hr.mono (by decide)) hG (pv 3) (pa_cons pe_int pa_nil) passL))
      (pss_cons (ps_set (i := 8) sc_law.nd rfl (Or.inl rfl) (pe_ix ix_list (pv 6) (pe_un un_neg pe_int) (fun _ _ => rfl)))
      (pss_cons (ps_for PassesOwn.never rfl (pi_list (pe_lc (own := [("_law_one", 15)]) (by rfl) sc_law.nd (pi_list (pv 6)) (blkOk_by (own := [("_law_one", 15)]) (N := ["_law_script", "_law_start", "_law_tape_here", "_law_lots", "_law_row", "_law_other", "_law_kept", "_law_nth", "_law_last", "_law_seen", "_law_turn", "_law_item", "_law_is_there", "_law_due", "_law_at", "_law_one"]) (sc := defScope s_law) (by decide +kernel))
        (fun _ _ _ _ _ => (pg_name (i := 15) sc_law.nd rfl (Or.inl rfl))) (fun _ _ _ _ _ => (pts_one (PW.pt (pw_and (pt_cmpR op_gt (pv 15) pe_int (nomark _)) (pw_and1 (pt_cmpR op_eq (pe_ce D__law_pick (hr.mono (by decide)) hG (pa_cons (pv 2) (pa_cons pe_int pa_nil)) pass0) pe_int (nomark _))))))) (fun _ _ _ _ _ => (pv 15)))) (pg_name (i := 7) sc_law.nd rfl (Or.inl rfl)) (pss_cons (ps_expr (pe_cm M_Row_remove (hr.mono (by decide)) hG (pv 4) (pa_cons (pv 7) pa_nil) passL))
      (pss_one (ps_expr (pe_bm PySem.F.plainAttrs_list PySem.F.slot_list_remove PySem.F.type_list_remove mt_remove (pv 6) (pa_cons (pv 7) pa_nil))))))
      (pss_cons (ps_setLc (i := 9) (own := [("_law_nth", 7)]) (g := gName 7) rfl sc_law.nd rfl rfl (sw_true rfl rfl rfl (by decide +kernel)) (pi_list (pv 6)) (blkOk_by (own := [("_law_nth", 7)]) (N := ["_law_script", "_law_start", "_law_tape_here", "_law_lots", "_law_row", "_law_other", "_law_kept", "_law_nth", "_law_last", "_law_seen", "_law_turn", "_law_item", "_law_is_there", "_law_due", "_law_at", "_law_one"]) (sc := defScope s_law) (by decide +kernel))
        (fun _ _ _ _ _ => pg_name (i := 7) sc_law.nd rfl (Or.inl rfl)) (fun _ _ _ _ _ => pts_nil) (fun _ _ _ _ _ => (pe_tup (pa_cons (pv 7) (pa_cons (pe_ixOwn GET_Row (hr.mono (by decide)) hG (E := fun _ => _) (fun σ pins H s e s2 I h => passL pins σ H s e s2 I h) (pv 4) (pv 7)) (pa_cons (pe_cm M_Row_mark (hr.mono (by decide)) hG (pv 4) (pa_cons (pv 7) pa_nil) passL) pa_nil))))))
      (pss_cons (ps_for PassesOwn.never rfl (pi_range1 (by rfl) B.n_range (pa_cons pe_int pa_nil)) (pg_name (i := 10) sc_law.nd rfl (Or.inl rfl)) (pss_cons (ps_set (i := 11) sc_law.nd rfl (Or.inl rfl) (pe_ce D__law_one_of (hr.mono (by decide)) hG (pa_cons (pv 2) (pa_cons (pe_lst (pa_cons (pe_ce D__law_any (hr.mono (by decide)) hG (pa_cons (pv 2) pa_nil) pass0) (pa_cons (pe_op op_add (pv 8) pe_int) (pa_cons (pe_op op_sub pe_int pe_int) (pa_cons (pe_ce D__law_pick (hr.mono (by decide)) hG (pa_cons (pv 2) (pa_cons (pe_op op_add (pv 8) pe_int) pa_nil)) pass0) (pa_cons (pv 8) pa_nil)))))) pa_nil)) pass0))
      (pss_cons (ps_set (i := 12) sc_law.nd rfl (Or.inl rfl) (pe_and (pe_callB call_isi (by rfl) B.n_isinstance (by decide +kernel) (pa_cons (pv 11) (pa_cons (pe_bltn (v := .ty "int") (u := .type "int") (by rfl) B.n_int (by decide +kernel) rfl) pa_nil))) (pe_and (pe_not (pe_callB call_isi (by rfl) B.n_isinstance (by decide +kernel) (pa_cons (pv 11) (pa_cons (pe_bltn (v := .ty "bool") (u := .type "bool") (by rfl) B.n_bool (by decide +kernel) rfl) pa_nil)))) (pe_one (pe_cmpR op_in_seq (pv 11) (pv 6) (by rfl))))))
      (pss_cons (ps_set (i := 13) sc_law.nd rfl (Or.inl rfl) (pe_callB (call_rep hG hr.units) (by rfl) B.n_repr (by decide +kernel) (pa_cons (pe_lst (pa_cons (pv 11) pa_nil)) pa_nil)))
      (pss_one (ps_for PassesOwn.never rfl (pi_range1 (by rfl) B.n_range (pa_cons (pe_ifExp (pt_val (pv 12)) pe_int pe_int) pa_nil)) (pg_name (i := 14) sc_law.nd rfl (Or.inl rfl)) (pss_one (ps_if (pt_cmpR op_ne (pe_callB (call_rep hG hr.units) (by rfl) B.n_repr (by decide +kernel) (pa_cons (pe_ce D__law_refused (hr.mono (by decide)) hG (pa_cons (pv 4) (pa_cons (pv 14) (pa_cons (pv 11) pa_nil))) pass0) pa_nil)) (pv 13) (nomark _)) (pss_one (ps_ret pe_bl)) pss_nil))))))))
      (pss_cons (ps_if (PW.pt (pw_or (pt_cmpR (op_neD hr.units) (pe_lc (own := [("_law_nth", 7)]) (by rfl) sc_law.nd (pi_list (pv 6)) (blkOk_by (own := [("_law_nth", 7)]) (N := ["_law_script", "_law_start", "_law_tape_here", "_law_lots", "_law_row", "_law_other", "_law_kept", "_law_nth", "_law_last", "_law_seen", "_law_turn", "_law_item", "_law_is_there", "_law_due", "_law_at", "_law_one"]) (sc := defScope s_law) (by decide +kernel))
        (fun _ _ _ _ _ => (pg_name (i := 7) sc_law.nd rfl (Or.inl rfl))) (fun _ _ _ _ _ => pts_nil) (fun _ _ _ _ _ => (pe_tup (pa_cons (pv 7) (pa_cons (pe_ixOwn GET_Row (hr.mono (by decide)) hG (E := fun _ => _) (fun σ pins H s e s2 I h => passL pins σ H s e s2 I h) (pv 4) (pv 7)) (pa_cons (pe_cm M_Row_mark (hr.mono (by decide)) hG (pv 4) (pa_cons (pv 7) pa_nil) passL) pa_nil)))))) (pv 9) (nomark _)) (pw_or1 (pt_cmpR (op_neD hr.units) (pe_cm0 M_Row_kept (hr.mono (by decide)) hG (pv 4) pass0) (pv 6) (nomark _))))) (pss_one (ps_ret pe_bl)) pss_nil)
      (pss_one (ps_if (PW.pt (pw_or (pt_cmpR op_ne (pe_cm M_Row_make (hr.mono (by decide)) hG (pv 4) (pa_cons pe_int (pa_cons pe_int (pa_cons pe_str pa_nil))) pass0) (pe_op op_add (pv 8) pe_int) (nomark _)) (pw_or (pt_cmpR (op_neD hr.units) (pe_cm0 M_Row_kept (hr.mono (by decide)) hG (pv 5) pass0) (pe_lst (pa_cons pe_int pa_nil)) (nomark _)) (pw_or1 (pt_cmpR (op_neD hr.units) (pe_ixOwn GET_Row (hr.mono (by decide)) hG (E := fun _ => _) (fun σ pins H s e s2 I h => passL pins σ H s e s2 I h) (pv 5) pe_int) (pe_tup (pa_cons pe_int (pa_cons pe_non (pa_cons pe_non pa_nil)))) (nomark _)))))) (pss_one (ps_ret pe_bl)) pss_nil)))))))))))))
      (pss_one (ps_ret (pe_ce0 D__law_named_right (hr.mono (by decide)) hG pass0)))), ?_⟩
    have lz : ∀ {n : Nat}, n ≤ 100 → n ≤ sizeLine := fun h => Nat.le_trans h (by decide)
    have hlen : (ns.map V.int).length = ns.length := List.length_map ..
    let Sg (c1 c2 c3 c4 c5 c6 c7 c8 c9 c10 c11 c12 c13 c14 c15 : Option V) : L2.St := [some (.ref a), c1, c2, c3, c4, c5, c6, c7, c8, c9, c10, c11, c12, c13, c14, c15]
    refine ⟨_, rfl, _, _, rfl, .inl ha, 3, _, rfl, 1, _, rfl, _, rfl, ?_, ?_, for_range (fun i σ H' => (∃ c1 c2 c3 c4 c5 c6 c7 c8 c9 c10 c11 c12 c13 c14 c15, σ = Sg c1 c2 c3 c4 c5 c6 c7 c8 c9 c10 c11 c12 c13 c14 c15) ∧ Same H H')
      ⟨⟨_, _, _, _, _, _, _, _, _, _, _, _, _, _, _, rfl⟩, .refl _⟩ ?_ ?_⟩
    · split <;> split <;> omega
    · split <;> split <;> omega
    rotate_left
    · rintro σ H' _
      exact ⟨rfl, q⟩
    rintro i σ Hs hi ⟨⟨c1, c2, c3, c4, c5, c6, c7, c8, c9, c10, c11, c12, c13, c14, c15, rfl⟩, s1⟩
    have hi3 : (i : Int) ≤ 3 := by
      have h2 : (i : Int) < ((if (if ((ns.map V.int).length : Int) < 3 then ((ns.map V.int).length : Int) else 3) > 1 then (if ((ns.map V.int).length : Int) < 3 then ((ns.map V.int).length : Int) else 3) else 1) : Int) := by
        have := hi
        omega
      split at h2 <;> (try split at h2) <;> omega
    refine ⟨_, rfl, _, rfl, a, ns, _, rfl, sq_up s1 ha, hn, hb, by omega, by omega, fun t o nt ho => ?_⟩
    have st := same_new (o := o) nt
    have ht := upd_same (H := Hs) (a := t) (o := o)
    generalize upd Hs t o = Ht at st ht ⊢
    refine fun fa dxf nf nd ne => ⟨fa, dxf, rfl, upd_same, fun H1 F hA fr1 gr1 => ⟨rfl, (show 2 ≤ sizeLine by decide), fun p np => ⟨p, _, rfl, .inl (.inl upd_same), rfl, _, _, rfl, _, _, rfl, rfl, ?_⟩⟩⟩
    have sf := same_two (o := .own fa) (o' := .ins C dxf []) nd nf ne
    have s01 : Same Ht H1 := fun b u e => fr1 b u (sf _ _ e) fun z => (by rw [z, nf] at e; cases e)
    have fF : ∀ b, F b → Ht b = none := fun b z => (gr1 b z).elim (fun e => (by rw [e]; exact nf)) (none_of sf)
    have sp := same_new (o := .tup [V.ref t, .ref fa]) np
    replace hA := hA.same sp
    have s02 := s01.trans sp
    generalize upd H1 p (.tup [V.ref t, .ref fa]) = H2 at hA s02 ⊢
    clear sf fr1 gr1 s01 sp np nf nd ne
    refine fun r dxr nr ndr ner => ⟨r, dxr, .int 1, rfl, upd_same, fun v m tp H3 nv nm vm vr mr ht3 hv3 hm3 hr3 fr3 => ⟨rfl, ?_⟩⟩
    obtain ⟨s23, nv, nm⟩ := row_new nr ndr ner nv nm fr3
    have N3 : Nm C CP CM H3 r fa v m 1 [(0, .ref tp)] [(0, .non)] [⟨0, .int 1, none, .non⟩] .zero F := nm_new (hA.same s23) hv3 hm3 ht3 hr3 vm fun b z => by
      obtain ⟨u, e⟩ := hA.on b z
      exact ⟨fun y => (by rw [y, nr] at e; cases e), fun y => (by rw [y, nv] at e; cases e), fun y => (by rw [y, nm] at e; cases e)⟩
    clear fr3 ndr ner ht3 hv3 hm3 hr3
    refine fun r2 dxr2 nr2 ndr2 ner2 => ⟨r2, dxr2, .int 2, rfl, upd_same, fun v2 m2 tp2 H4 nv2 nm2 vm2 vr2 mr2 ht4 hv4 hm4 hr4 fr4 => ⟨rfl, (show 1 ≤ sizeLine by decide), fun k nk => ⟨(show 3 ≤ sizeLine by decide), fun p np => ⟨p, _, rfl, .inl (.inl upd_same), rfl, _, _, rfl, _, _, rfl, _, _, rfl, rfl, ?_⟩⟩⟩⟩
    obtain ⟨s34, nv2, nm2⟩ := row_new nr2 ndr2 ner2 nv2 nm2 fr4
    have s45 := same_new (o := .lst [V.int 0]) nk
    have hk : upd H4 k (.lst [V.int 0]) k = some (.lst [V.int 0]) := upd_same
    have nk4 : H4 k = none := nk
    have s56 := same_new (o := .tup [V.ref r, .ref r2, .ref k]) np
    have hk := s56 _ _ hk
    have s46 := s45.trans s56
    generalize upd (upd H4 k (.lst [V.int 0])) p (.tup [V.ref r, .ref r2, .ref k]) = H6 at s46 hk ⊢
    clear s45 s56 np nk fr4 ndr2 ner2
    have N6 := N3.same (s34.trans s46)
    obtain ⟨ad, hf, hF⟩ := id N6.rf.fs
    obtain ⟨dx0, lk⟩ := hf.look
    refine ⟨_, rfl, fa, dx0, _, rfl, lk.o, rfl, fa, .zero, F, rfl, N6.rf.fs, wf0, fun _ H7 F7 hA7 fr7 gr7 => ?_, fun z => absurd z (by decide)⟩
    have N7 : Nm C CP CM H7 r fa v m 1 [(0, .ref tp)] (mkM [0]) ([0].map vf) S1 F7 := N6.fates hA7 fr7 gr7 wf1 tr1 fun rv hrv q e => by
      rw [List.mem_singleton.mp hrv] at e
      cases e
    have none7 : Same Hs H6 := st.trans (s02.trans (s23.trans (s34.trans s46)))
    have none6 : ∀ {b}, H6 b = none → Hs b = none := none_of (st.trans (s02.trans (s23.trans (s34.trans s46))))
    have s06 : Same Ht H6 := s02.trans (s23.trans (s34.trans s46))
    have nF : ∀ {b u}, H6 b = some u → ¬ F b → H7 b = some u := fun e z => fr7 _ _ e z
    have fF7 : ∀ b, F7 b → F b ∨ H6 b = none := gr7
    have oF : ∀ {b u}, H2 b = none → F b → H2 b = some u → False := fun e _ e2 => by rw [e] at e2; cases e2
    have nF2 : ∀ {b}, H2 b = none → ¬ F b := fun e z => by
      obtain ⟨u, h⟩ := hA.on _ z
      rw [e] at h; cases h
    have dif : ∀ {x y : Addr} {u : HO} {Hx : Hp}, Hx x = some u → Hx y = none → x ≠ y := fun e n z => by rw [z, n] at e; cases e
    have LS0 : LS C CP CM Hs H7 t r fa v m r2 v2 m2 k 1 S1 F7 [0] := by
      have r2' := nF2 (none_of s23 nr2)
      have v2' := nF2 (none_of s23 nv2)
      have m2' := nF2 (none_of s23 nm2)
      have k' := nF2 (none_of (s23.trans s34) nk4)
      have tF : ¬ F t := fun z => by rw [fF t z] at ht; cases ht
      have h2t := s02 _ _ ht
      have h3t := s23 _ _ h2t
      have h4t := s34 _ _ h3t
      have h6t := s46 _ _ h4t
      have h4r := s46 _ _ hr4
      have h4v := s46 _ _ hv4
      have h4m := s46 _ _ hm4
      obtain ⟨_, h3r⟩ := id N3.rf.b
      have h3v := N3.rf.hv
      have h3m := N3.hm
      have h4r' := s34 _ _ h3r
      have h4v' := s34 _ _ h3v
      have h4m' := s34 _ _ h3m
      have notZ : ∀ {b : Addr} {u}, H6 b = some u → ¬ F b → r ≠ b → v ≠ b → m ≠ b → ¬ Zs F7 r v m b := fun e z h1 h2 h3 y => by
        rcases y with y | y | y | y
        · exact (fF7 _ y).elim z fun h => by rw [e] at h; cases h
        · exact h1 y.symm
        · exact h2 y.symm
        · exact h3 y.symm
      refine ⟨⟨o, nF h6t tF, ho⟩, ⟨_, N7⟩, nF hk k', ⟨dxr2, tp2, nF h4r r2', nF h4v v2', nF h4m m2', nF (s46 _ _ ht4) (fs_notup N6.rf.fs (s46 _ _ ht4))⟩, by decide, by decide, by decide, ?_, dif h4t nk4, notZ h6t tF (dif h2t nr).symm (dif h2t nv).symm (dif h2t nm).symm, notZ hk k' (dif h4r' nk4) (dif h4v' nk4) (dif h4m' nk4), fun b u e => nF (none7 _ _ e) fun z => ?_, ?_⟩
      · rintro b (rfl | rfl | rfl) (z | z | z)
        · exact notZ h4r r2' (dif h3r nr2) (dif h3v nr2) (dif h3m nr2) z
        · exact dif h3t nr2 z.symm
        · exact dif hr4 nk4 z
        · exact notZ h4v v2' (dif h3r nv2) (dif h3v nv2) (dif h3m nv2) z
        · exact dif h3t nv2 z.symm
        · exact dif hv4 nk4 z
        · exact notZ h4m m2' (dif h3r nm2) (dif h3v nm2) (dif h3m nm2) z
        · exact dif h3t nm2 z.symm
        · exact dif hm4 nk4 z
      · have := st _ _ e
        rw [fF _ z] at this
        cases this
      · rintro b ((z | rfl | rfl | rfl) | rfl | rfl)
        · rcases fF7 _ z with z | z
          · exact none_of st (fF _ z)
          · exact none6 z
        · exact none_of (st.trans s02) nr
        · exact none_of (st.trans s02) nv
        · exact none_of (st.trans s02) nm
        · exact nt
        · exact none_of (st.trans (s02.trans (s23.trans s34))) nk4
    clear N7 N6 N3 hA hA7 fr7 gr7 lk hf hF hk hr4 hv4 hm4 ht4 nr2 nv2 nm2 nr nv nm dif nF2 nF fF7 fF none6 none7 nk4 oF s06 s46 s34 s23 s02 ht st
    dsimp only
    let St (c7 c8 c9 c10 c11 c12 c13 c14 c15 : Option V) : L2.St := Sg (some (.int (0 + (i : Nat)))) (some (.ref t)) (some (.ref fa)) (some (.ref r)) (some (.ref r2)) (some (.ref k)) c7 c8 c9 c10 c11 c12 c13 c14 c15
    refine Rm.seq_mid (fun σ' H' => ∃ (c7 : Option V) (j : Nat), σ' = St c7 c8 c9 c10 c11 c12 c13 c14 c15 ∧ j ≤ 5 ∧ LS C CP CM Hs H' t r fa v m r2 v2 m2 k (((j + 1 : Nat) : Int)) S1 F7 (rgI (j + 1))) ?_ (fun N hN => ?_)
    rotate_left
    · obtain ⟨o7, t7, ho7⟩ := id LS0.tp
      refine ⟨_, rfl, t, o7, 6, rfl, t7, ho7, by decide, by decide, fun z o8 z0 z1 ho8 => ⟨_, _, rfl, rfl, _, _, rfl, ⟨by decide, by decide, by omega, by omega⟩, for_range (fun j σ H' => (∃ c7, σ = St c7 c8 c9 c10 c11 c12 c13 c14 c15) ∧ LS C CP CM Hs H' t r fa v m r2 v2 m2 k (((j + 1 : Nat) : Int)) S1 F7 (rgI (j + 1))) ⟨⟨_, rfl⟩, (show LS C CP CM Hs (upd H7 t o8) t r fa v m r2 v2 m2 k 1 S1 F7 [0] from LS0.turn ho8)⟩ ?_ ?_⟩⟩
      · rintro j σ Hj hj ⟨⟨d7, rfl⟩, LSj⟩
        have hj5 : j < 5 := by omega
        obtain ⟨D, Nj⟩ := id LSj.nm
        obtain ⟨dxj, bj⟩ := id Nj.rf.b
        have kD := at_keys Nj.rf.at_
        have nin : ((j + 1 : Nat) : Int) ∉ rgI (j + 1) := fun e => by have := (LSj.bd _ e).2; omega
        have lD : D.length = j + 1 := by
          have := congrArg List.length kD
          rw [List.length_map, rgI_len] at this
          exact this
        refine ⟨_, rfl, r, dxj, _, rfl, bj, rfl, _, rfl, r, v, m, _, D, _, .int (1 + (j : Int)), .int 1, .str "change", rfl, Nj.rf.b, Nj.vm, Nj.rf.hv, Nj.hm, no_key (by rw [kD]; exact nin), no_key (by rw [mk_keys]; exact nin), by omega, by rw [mkM, List.length_map, rgI_len]; omega, fun tp1 Hn nt1 ht1 bn hvn hmn kn => ?_⟩
        obtain ⟨hkn, LSn⟩ := LSj.add (by rw [rgI_len]; omega) Nj (x := .int (1 + (j : Int))) (z := .str "change") (o := some 1) (by omega) (by
          unfold vf
          rw [if_neg (by omega)]
          have e : (1 : Int) + j = ((j + 1 : Nat) : Int) := by omega
          rw [e]) nt1 ht1 bn hvn hmn kn fun q e => by cases e; exact ⟨by decide, by decide⟩
        refine ⟨_, rfl, .inl ⟨rfl, _, .inl (.inl hkn)⟩, _, rfl, k, _, _, rfl, rfl, hkn, by rw [List.length_map, rgI_len]; exact Nat.lt_of_le_of_lt (by omega : j + 1 ≤ 6) (by decide), ⟨_, rfl⟩, ?_⟩
        have e1 : (1 : Int) + j = ((j + 1 : Nat) : Int) := by omega
        rw [e1, rgI_succ (j + 1)]
        exact LSn
      · rintro σ Hj ⟨⟨d7, rfl⟩, LSj⟩
        exact hN _ _ ⟨d7, _, rfl, by omega, LSj⟩
    clear LS0
    rintro _ H8 ⟨d7, j, rfl, hj5, LSj⟩
    -- abort
    obtain ⟨D8, N8⟩ := id LSj.nm
    obtain ⟨ad, hf, hF⟩ := id N8.rf.fs
    obtain ⟨dx0, lk⟩ := hf.look
    refine ⟨_, rfl, fa, dx0, _, rfl, lk.o, rfl, fa, .int 1, .int 1, S1, F7, rfl, N8.rf.fs, .int _, wf1, fun z hz => (by cases hz), fun i' ei hi' hn' H9 F9 hA9 fr9 gr9 => ?_⟩
    have ei : (1 : Int) = (i' : Int) + 1 := by injection ei
    have ei : i' = 0 := by omega
    subst ei
    have LS9 : LS C CP CM Hs H9 t r fa v m r2 v2 m2 k (((j + 1 : Nat) : Int)) S2 F9 (rgI (j + 1)) := LSj.end_ hA9 fr9 gr9 wf2 tr2 fun rv hrv q e => N8.rf.kn rv hrv q e
    clear LSj N8 hA9 fr9 gr9 hf hF lk hi' hn'
    have elast : atI ((rgI (j + 1)).map V.int) (-1) = some (.int (j : Int)) := by
      rw [rgI_succ, List.map_append]
      exact atI_last _ _
    refine ⟨_, rfl, _, rfl, k, _, -1, .int (j : Int), rfl, rfl, .inl (.inl LS9.hk), elast, ?_⟩
    dsimp only [gName]
    refine Rm.seq_mid (fun σ' H' => ∃ (c7 : Option V) (ks : List Int), σ' = St c7 (some (.int (j : Int))) c9 c10 c11 c12 c13 c14 c15 ∧ LS C CP CM Hs H' t r fa v m r2 v2 m2 k (((j + 1 : Nat) : Int)) S2 F9 ks) ?_ (fun N hN => ?_)
    rotate_left
    · refine ⟨_, rfl, k, rfl, ⟨_, .inl (.inl LS9.hk)⟩, fun A nA => lc_list (xs := (rgI (j + 1)).map V.int) (fun n H' => Nxt t H9 H' ∧ ∃ sub : List Int, H' A = some (.lst (sub.map V.int)) ∧ sub.Sublist ((rgI (j + 1)).take n)) ⟨(⟨fun b u e ne => e, LS9.tp⟩ : Nxt t H9 H9).go (same_new nA), [], upd_same, List.nil_sublist _⟩ (fun n H' _ e => .inl (.inl (e.1.keep _ _ LS9.hk LS9.tk.symm))) ?_ ?_⟩
      · rintro n x H2 hx ⟨N2, sub, hA, hs⟩
        rw [List.getElem?_map] at hx
        obtain ⟨y, hy, rfl⟩ := Option.map_eq_some_iff.mp hx
        have tA : t ≠ A := fun e => by obtain ⟨o, h, _⟩ := LS9.tp; rw [e, nA] at h; cases h
        have grow : sub.Sublist ((rgI (j + 1)).take (n + 1)) := by
          rw [List.take_succ, hy]
          exact hs.trans (List.sublist_append_left _ _)
        obtain ⟨o2, t2, ho2⟩ := id N2.tape
        refine ⟨rfl, _, rfl, _, _, rfl, rfl, _, rfl, ite2 (fun c => ?_) fun c => ?_⟩
        · refine ⟨_, rfl, t, o2, 2, rfl, t2, ho2, by decide, by decide, fun z o3 z0 z1 ho3 => ⟨rfl, _, rfl, ?_⟩⟩
          have hA3 := (upd_ne (o := o3) (Ne.symm tA)).trans hA
          refine ite2 (fun c2 => ?_) fun c2 => ⟨N2.turn ho3, sub, hA3, grow⟩
          refine ⟨_, rfl, _, hA3, ?_, (N2.turn ho3).put nA tA, sub ++ [y], upd_same.trans (by rw [List.map_append]; rfl), ?_⟩
          · rw [List.length_map]
            have := hs.length_le
            rw [List.length_take, rgI_len] at this
            exact sz1000 (by omega)
          · rw [List.take_succ, hy]
            exact hs.append (.refl _)
        · exact ite2 (fun c => by cases c) fun _ => ⟨N2, sub, hA, grow⟩
      · rintro H2 ⟨N2, sub, hA, hs⟩
        rw [List.length_map, List.take_length] at hs
        have LS2 := LS9.nxt N2
        have nk : A ≠ k := fun e => by have := LS9.hk; rw [← e, nA] at this; cases this
        have nZ : ¬ Zs F9 r v m A := by
          obtain ⟨D9, N9⟩ := LS9.nm
          exact N9.free nA
        refine ⟨A, rfl, ⟨_, .inl (.inl hA)⟩, for_list (xs := sub.map V.int) (fun n σ H' => (∃ c7, σ = St c7 (some (.int (j : Int))) c9 c10 c11 c12 c13 c14 c15) ∧ H' A = some (.lst (sub.map V.int)) ∧ LS C CP CM Hs H' t r fa v m r2 v2 m2 k (((j + 1 : Nat) : Int)) S2 F9 ((rgI (j + 1)).filter fun x => decide (x ∉ sub.take n))) ⟨⟨_, rfl⟩, hA, ?_⟩ (fun n σ H' _ e => .inl (.inl e.2.1)) ?_ ?_⟩
        · rw [List.filter_eq_self.mpr (by simp)]
          exact LS2
        · rintro n x σ H3 hx ⟨⟨d7, rfl⟩, hA3, LS3⟩
          rw [List.getElem?_map] at hx
          obtain ⟨y, hy, rfl⟩ := Option.map_eq_some_iff.mp hx
          have nds : sub.Nodup := hs.nodup LS9.nd
          have y1 : y ∉ sub.take n := fun e => by
            have hn := (List.getElem?_eq_some_iff.mp hy).1
            have e2 := (List.getElem?_eq_some_iff.mp hy).2
            rw [← List.take_append_drop n sub] at nds
            obtain ⟨_, _, d⟩ := List.nodup_append.mp nds
            exact d y e y (by rw [List.drop_eq_getElem_cons hn, e2]; exact .head _) rfl
          have yk : y ∈ (rgI (j + 1)).filter fun x => decide (x ∉ sub.take n) := List.mem_filter.mpr ⟨hs.subset (List.mem_of_getElem? hy), decide_eq_true y1⟩
          obtain ⟨D3, N3⟩ := id LS3.nm
          obtain ⟨dx3, b3⟩ := id N3.rf.b
          have hyD : (valD D3 y).isSome = true := has_key (by rw [at_keys N3.rf.at_]; exact yk)
          have hyM : (valD (mkM ((rgI (j + 1)).filter fun x => decide (x ∉ sub.take n))) y).isSome = true := has_key (by rw [mk_keys]; exact yk)
          obtain ⟨hk3, LS4⟩ := LS3.rem (i := y) N3
          obtain ⟨q1, h1, h2, h3⟩ := erase_one LS3.nd yk
          refine ⟨_, rfl, r, dx3, _, rfl, b3, rfl, _, rfl, r, v, m, _, _, _, .int y, .int y, rfl, N3.rf.b, N3.vm, N3.rf.hv, N3.hm, .int _, fun i ei hs => ?_, fun hn => ?_⟩
          · cases ei
            refine ⟨hyM, ?_⟩
            refine ⟨_, rfl, .inl ⟨rfl, _, .inl (.inl hk3)⟩, _, rfl, k, _, y, q1, rfl, rfl, hk3, h1, h2, ⟨_, rfl⟩, ?_, ?_⟩
            · have Ak : A ≠ k := nk
              refine (upd_ne nk).trans ((upd_ne fun e => nZ (.inr (.inr (.inr e)))).trans ((upd_ne fun e => nZ (.inr (.inr (.inl e)))).trans hA3))
            · rw [h3]
              have e : (rgI (j + 1)).filter (fun x => decide (x ∉ sub.take (n + 1))) = ((rgI (j + 1)).filter fun x => decide (x ∉ sub.take n)).filter fun j => decide (j ≠ y) := by
                rw [List.filter_filter]
                refine List.filter_congr fun z _ => ?_
                rw [List.take_succ, hy]
                by_cases c1 : z ∈ sub.take n
                · simp [c1]
                · by_cases c2 : z = y
                  · simp [c2]
                  · simp [c1, c2]
              rw [e]
              exact LS4
          · have hn : (valD D3 y).isSome = false := hn
            rw [hyD] at hn
            cases hn
        · rintro σ H3 ⟨⟨d7, rfl⟩, hA3, LS3⟩
          exact hN _ _ ⟨_, _, rfl, LS3⟩
    clear LS9 elast
    rintro _ H9' ⟨e7, ks, rfl, LS9⟩
    -- what is seen
    refine Rm.seq_mid (fun σ' H' => ∃ (A : Addr) (xs : List V), σ' = St e7 (some (.int (j : Int))) (some (.ref A)) c10 c11 c12 c13 c14 c15 ∧ LS C CP CM Hs H' t r fa v m r2 v2 m2 k (((j + 1 : Nat) : Int)) S2 F9 ks ∧ H' A = some (.lst xs) ∧ DxAll K H' xs (ks.map seenD) ∧ A ≠ t ∧ Hs A = none) ?_ (fun N hN => ?_)
    rotate_left
    · refine seen_run LS9 fun A xs H' nA sA hA dA => hN _ _ ⟨A, xs, rfl, LS9.same sA, hA, dA, fun e => ?_, none_of LS9.sm nA⟩
      obtain ⟨o, h, _⟩ := LS9.tp
      rw [← e, nA] at h
      cases h
    clear LS9
    rintro _ Ha ⟨A, xs, rfl, LSa, hAa, dAa, At, nAs⟩
    refine Rm.seq_mid (fun σ' H' => ∃ c10 c11 c12 c13 c14, σ' = St e7 (some (.int (j : Int))) (some (.ref A)) c10 c11 c12 c13 c14 c15 ∧ LS C CP CM Hs H' t r fa v m r2 v2 m2 k (((j + 1 : Nat) : Int)) S2 F9 ks ∧ H' A = some (.lst xs) ∧ DxAll K H' xs (ks.map seenD)) ?_ (fun N hN => ?_)
    rotate_left
    · refine ⟨6, rfl, by decide, by decide, for_range (n := 6) (fun n σ H' => ∃ c10 c11 c12 c13 c14, σ = St e7 (some (.int (j : Int))) (some (.ref A)) c10 c11 c12 c13 c14 c15 ∧ LS C CP CM Hs H' t r fa v m r2 v2 m2 k (((j + 1 : Nat) : Int)) S2 F9 ks ∧ H' A = some (.lst xs) ∧ DxAll K H' xs (ks.map seenD)) ⟨_, _, _, _, _, rfl, LSa, hAa, dAa⟩ ?_ fun σ H' h => hN _ _ h⟩
      clear LSa hAa dAa
      rintro n σ Hb hn ⟨d10, d11, d12, d13, d14, rfl, LSb, hAb, dAb⟩
      obtain ⟨ob, tb, hob⟩ := id LSb.tp
      refine ⟨_, rfl, _, rfl, t, ob, rfl, tb, hob, fun x d H1 hx sx N1 => ?_⟩
      have k1 := TupK.nxt tb hob N1
      have LS1 := LSb.nxt N1
      have hA1 := N1.keep _ _ hAb At
      have dA1 := dxa_keepT k1 (tO_all ks) dAb
      have hx1 : Dx K H1 x d := hx.upR (.of nw_same)
      obtain ⟨o1, t1, ho1⟩ := id LS1.tp
      clear LSb hAb dAb
      refine ⟨_, rfl, _, _, rfl, rfl, _, _, rfl, rfl, _, rfl, _, rfl, _, _, rfl, rfl, t, o1, _, rfl, t1, ho1, by omega, by omega, fun z o2 z0 z1 ho2 => ⟨_, rfl, (show 5 ≤ sizeLine by decide), fun l nl => ?_⟩⟩
      refine ⟨t, l, o2, _, rfl, (upd_ne fun e => by rw [← e, upd_same] at nl; cases nl).trans upd_same, ho2, .inl (.inl upd_same), (show 1 ≤ 5 by decide), (show 5 ≤ 1000000 by decide), fun idx v' o4 hv ho4 => ?_⟩
      have N4 := (((⟨fun b u e ne => e, o1, t1, ho1⟩ : Nxt t H1 H1).turn ho2).go (same_new (o := .lst [x, .int ((j : Int) + 1), .int (0 - 1), .int z, .int (j : Int)]) nl)).turn ho4
      generalize upd (upd (upd H1 t o2) l (.lst [x, .int ((j : Int) + 1), .int (0 - 1), .int z, .int (j : Int)])) t o4 = H4 at N4 ⊢
      have LS4 := LS1.nxt N4
      have hA4 := N4.keep _ _ hA1 At
      have dA4 := dxa_keepT (TupK.nxt t1 ho1 N4) (tO_all ks) dA1
      have hx4 : Dx K H4 x d := hx.upR (.of (nw_nxt tb N4))
      obtain ⟨dv, e1, hv4⟩ := DxAll.get (H := H4) (vs := [x, .int ((j : Int) + 1), .int (0 - 1), .int z, .int (j : Int)]) (ds := [d, .int ((j : Int) + 1), .int (0 - 1), .int z, .int (j : Int)]) (.cons hx4 (.cons (.int _) (.cons (.int _) (.cons (.int _) (.cons (.int _) .nil))))) hv
      have sv : Sv dv := by
        have e2 := List.mem_of_getElem? e1
        simp only [List.mem_cons, List.not_mem_nil, or_false] at e2
        rcases e2 with rfl | rfl | rfl | rfl | rfl
        · exact sx
        · exact Sv.int (by omega) (by omega)
        · exact Sv.of (by decide +kernel)
        · exact Sv.int (by omega) (by omega)
        · exact Sv.int (by omega) (by omega)
      clear N4 hx4 hx1 hx sx N1 e1 hv hA1 dA1 LS1 nl t1 tb k1
      dsimp only [gName]
      refine Rm.seq_mid (fun σ' H' => H4 = H' ∧ σ' = St e7 (some (.int (j : Int))) (some (.ref A)) (some (.int (0 + (n : Nat)))) (some v') (some (.bl (thereB ks dv))) d13 d14 c15) ?_ (fun N hN => ?_)
      rotate_left
      · have q0 : ∀ b, b = thereB ks dv → N (St e7 (some (.int (j : Int))) (some (.ref A)) (some (.int (0 + (n : Nat)))) (some v') (some (.bl b)) d13 d14 c15) H4 := fun b e => hN _ _ ⟨rfl, by rw [e]⟩
        refine ⟨_, rfl, v', .ty "int", _, _, _, rfl, .ty _, hv4.tyx, kit_kd (T := "int") (by simp) dv, ?_⟩
        cases dv with
        | bool b => 
          refine ⟨true, rfl, _, rfl, v', .ty "bool", _, _, _, rfl, .ty _, hv4.tyx, kit_kd (T := "bool") (by simp) _, true, rfl, _, rfl, ite2 (fun c => by cases c) fun _ => ?_⟩
          exact q0 _ rfl
        | int i =>
          refine ⟨true, rfl, _, rfl, v', .ty "bool", _, _, _, rfl, .ty _, hv4.tyx, kit_kd (T := "bool") (by simp) _, false, rfl, _, rfl, ite2 (fun _ => ?_) fun c => absurd rfl c⟩
          cases hv4
          refine ⟨_, rfl, _, rfl, k, _, rfl, .inl (.inl (.inl LS4.hk)), rfl, flat_ints ks, ?_⟩
          rw [in_ints]
          exact q0 _ rfl
        | _ => exact ⟨false, rfl, q0 _ rfl⟩
      rintro _ _ ⟨rfl, rfl⟩
      refine ⟨_, rfl, (show 1 ≤ sizeLine by decide), fun p np => ?_⟩
      have sp := same_new (o := .lst [v']) np
      have hd1 : Dx K (upd H4 p (.lst [v'])) (.ref p) (.list [dv]) := .lst (.inl (.inl upd_same)) (.cons (hv4.upR (.of sp)) .nil)
      have LS5 := LS4.same sp
      have hA5 := sp _ _ hA4
      have dA5 := dA4.upR (.of sp)
      have hv5 := hv4.upR (.of sp)
      generalize upd H4 p (.lst [v']) = H5 at sp hd1 LS5 hA5 dA5 hv5 ⊢
      clear LS4 hA4 dA4 hv4
      refine ⟨_, _, rfl, hd1, sm_wrap sv, ?_⟩
      clear hd1 sp np
      dsimp only [gName]
      have fin : ∀ σ H', (∃ c14, σ = St e7 (some (.int (j : Int))) (some (.ref A)) (some (.int (0 + (n : Nat)))) (some v') (some (.bl (thereB ks dv))) (some (.str (PyData.list [dv]).shown)) c14 c15) → Same H5 H' →
          ∃ c10 c11 c12 c13 c14, σ = St e7 (some (.int (j : Int))) (some (.ref A)) c10 c11 c12 c13 c14 c15 ∧ LS C CP CM Hs H' t r fa v m r2 v2 m2 k (((j + 1 : Nat) : Int)) S2 F9 ks ∧ H' A = some (.lst xs) ∧ DxAll K H' xs (ks.map seenD) := by
        rintro _ H' ⟨c14', rfl⟩ s'
        exact ⟨_, _, _, _, _, rfl, LS5.same s', s' _ _ hA5, dA5.upR (.of s')⟩
      refine ⟨_, rfl, _, rfl, ite2 (fun c => ?_) fun c => ?_⟩
      · exact ⟨0, rfl, by decide, by decide, for_range (n := 0) (fun m σ H' => (∃ c14, σ = St e7 (some (.int (j : Int))) (some (.ref A)) (some (.int (0 + (n : Nat)))) (some v') (some (.bl (thereB ks dv))) (some (.str (PyData.list [dv]).shown)) c14 c15) ∧ Same H5 H') ⟨⟨_, rfl⟩, .refl _⟩ (fun i σ H' hi _ => absurd hi (Nat.not_lt_zero _)) fun σ H' h => fin σ H' h.1 h.2⟩
      · refine ⟨4, rfl, by decide, by decide, for_range (n := 4) (fun m σ H' => (∃ c14, σ = St e7 (some (.int (j : Int))) (some (.ref A)) (some (.int (0 + (n : Nat)))) (some v') (some (.bl (thereB ks dv))) (some (.str (PyData.list [dv]).shown)) c14 c15) ∧ Same H5 H') ⟨⟨_, rfl⟩, .refl _⟩ ?_ fun σ H' h => fin σ H' h.1 h.2⟩
        rintro q1 σ H6 hq1 ⟨⟨f14, rfl⟩, s6⟩
        have LS6 := LS5.same s6
        obtain ⟨D6, N6⟩ := id LS6.nm
        have hlm : (mkM ks).length < 100 := by
          rw [mkM, List.length_map]
          have := LS6.ln
          omega
        refine ⟨_, rfl, _, rfl, _, rfl, r, v, m, _, D6, _, _, v', dv, rfl, N6.rf.b, N6.vm, N6.rf.hv, N6.hm, hlm, hv5.upR (.of s6), not_has N6.rf.at_ (eq_false_of_ne_true c), fun p2 H7 s7 hd7 => ⟨_, _, rfl, hd7, sm_wrap sv, ?_⟩⟩
        refine ⟨_, rfl, rfl, _, rfl, ite2 (fun c => by simp at c) fun _ => ?_⟩
        exact ⟨⟨_, rfl⟩, s6.trans s7⟩
    clear LSa hAa dAa
    rintro _ Hc ⟨d10, d11, d12, d13, d14, rfl, LSc, hAc, dAc⟩
    refine Rm.seq_mid (fun σ' H' => σ' = St e7 (some (.int (j : Int))) (some (.ref A)) d10 d11 d12 d13 d14 c15 ∧ LS C CP CM Hs H' t r fa v m r2 v2 m2 k (((j + 1 : Nat) : Int)) S2 F9 ks) ?_ (fun N hN => ?_)
    rotate_left
    · dsimp only [tIfS, tOr, tTest, tOp]
      refine seen_run LSc fun A2 xs2 H2 nA2 s2 hA2 dA2 => ?_
      have LS2 := LSc.same s2
      have hA' := s2 _ _ hAc
      have dA' := dAc.upR (.of s2)
      have Lq : ∀ {a b : Addr} {xs ys : List V}, H2 a = some (.lst xs) → DxAll K H2 xs (ks.map seenD) → Dp K H2 (.ref a) (.list (ks.map seenD)) := fun h d => dp_of (lay_seenL ks) (.lst (.inl (.inl h)) d)
      refine ⟨_, rfl, .list (ks.map seenD), .list (ks.map seenD), dp_of (lay_seenL ks) (.lst (.inl (.inl hA2)) dA2), dp_of (lay_seenL ks) (.lst (.inl (.inl hA')) dA'), sh_of (lay_seen ks).1 (by have := (lay_seen ks).2; omega), sh_of (lay_seen ks).1 (by have := (lay_seen ks).2; omega), _, rfl, ite2 (fun c => ?_) fun _ => ?_⟩
      · rw [SeqAt.eqv_refl _ (lay_seenL ks)] at c
        cases c
      obtain ⟨D2, N2⟩ := id LS2.nm
      obtain ⟨dx2, b2⟩ := id N2.rf.b
      refine ⟨_, rfl, r, dx2, _, rfl, b2, rfl, r, v, m, _, D2, rfl, N2.rf.b, N2.rf.hv, fun p np => ?_⟩
      have eD : D2.map (fun e => V.int e.1) = ks.map V.int := by
        have := congrArg (List.map V.int) (at_keys N2.rf.at_)
        rwa [List.map_map] at this
      rw [eD]
      have sp := same_new (o := .lst (ks.map V.int)) np
      refine ⟨_, rfl, .list (ks.map .int), .list (ks.map .int), .lst (.inl (.inl upd_same)) (dp_ints ks), .lst (.inl (.inl (sp _ _ LS2.hk))) (dp_ints ks), sh_ints ks, sh_ints ks, _, rfl, ite2 (fun c => by rw [eqv_ints] at c; cases c) fun _ => ?_⟩
      exact hN _ _ ⟨rfl, LS2.same sp⟩
    clear LSc hAc dAc
    rintro _ Hd ⟨rfl, LSd⟩
    obtain ⟨Dd, Nd⟩ := id LSd.nm
    obtain ⟨dxd, bd⟩ := id Nd.rf.b
    have kD := at_keys Nd.rf.at_
    have nin : ((j + 1 : Nat) : Int) ∉ ks := fun e => by have := (LSd.bd _ e).2; omega
    have lD : Dd.length ≤ 8 := by
      have := congrArg List.length kD
      rw [List.length_map] at this
      rw [this]
      exact LSd.ln
    refine ⟨_, rfl, r, dxd, _, rfl, bd, rfl, r, v, m, _, Dd, _, .int 0, .int 1, .str "replace", rfl, Nd.rf.b, Nd.vm, Nd.rf.hv, Nd.hm, no_key (by rw [kD]; exact nin), no_key (by rw [mk_keys]; exact nin), by omega, by rw [mkM, List.length_map]; have := LSd.ln; omega, fun tp1 He nt1 ht1 be hve hme kk => ?_⟩
    obtain ⟨dx2, tp2, o1, o2, o3, o4⟩ := LSd.ot
    have out : ∀ {b u}, Hd b = some u → ¬ Mine F9 r v m t k b → He b = some u := fun e z => kk _ _ e (fun y => z (.inl (.inr (.inl y)))) (fun y => z (.inl (.inr (.inr (.inl y))))) fun y => z (.inl (.inr (.inr (.inr y))))
    have smE : Same Hs He := fun b u e => out (LSd.sm _ _ e) fun z => by rw [LSd.fr _ z] at e; cases e
    have p1 := out o1 (LSd.sep _ (.inl rfl))
    have p2 := out o2 (LSd.sep _ (.inr (.inl rfl)))
    have p4 := out o4 (LSd.tup o4)
    clear Nd bd kD lD nin LSd o1 o2 o3 o4 out kk be hve hme nt1 ht1
    refine ⟨_, rfl, _, _, rfl, rfl, rfl, _, rfl, ite2 (fun c => ?_) fun _ => ?_⟩
    · have e : ((j + 1 : Nat) : Int) = (j : Int) + 1 := by omega
      rw [e] at c
      simp at c
    refine ⟨_, rfl, r2, dx2, _, rfl, p1, rfl, r2, v2, m2, _, _, rfl, ⟨dx2, p1⟩, p2, fun a1 n1 => ?_⟩
    have s1' := same_new (o := .lst ([(0, V.ref tp2)].map fun e : Int × V => V.int e.1)) n1
    refine ⟨(show 1 ≤ sizeLine by decide), fun a2 n2 => ?_⟩
    have s2' := same_new (o := .lst [V.int 0]) n2
    have ha1 := s2' _ _ (upd_same (H := He) (a := a1) (o := .lst ([(0, V.ref tp2)].map fun e : Int × V => V.int e.1)))
    refine ⟨.list ([0].map .int), .list ([0].map .int), .lst (.inl (.inl ha1)) (dp_ints [0]), .lst (.inl (.inl upd_same)) (dp_ints [0]), sh_ints _, sh_ints _, _, rfl, ite2 (fun c => by rw [eqv_ints] at c; cases c) fun _ => ?_⟩
    have s12 := s1'.trans s2'
    have p1 := s12 _ _ p1
    have p2 := s12 _ _ p2
    have p4 := s12 _ _ p4
    refine ⟨_, rfl, r2, dx2, _, rfl, p1, r2, v2, m2, _, _, .int 0, .int 0, rfl, ⟨dx2, p1⟩, p2, .int _, fun i' y ei hy => ?_, fun hn => by cases hn⟩
    cases ei
    have ey : y = .ref tp2 := (Option.some.inj hy).symm
    subst ey
    refine ⟨(show 3 ≤ sizeLine by decide), fun a3 n3 => ?_⟩
    have s3' := same_new (o := .tup [V.int 2, .non, .non]) n3
    refine ⟨.tuple [.int 2, .none, .none], .tuple [.int 2, .none, .none], .tup (.inl (.inl (s3' _ _ p4))) (.cons (.int _) (.cons .non (.cons .non .nil))), .tup (.inl (.inl upd_same)) (.cons (.int _) (.cons .non (.cons .non .nil))), by decide +kernel, by decide +kernel, _, rfl, ite2 (fun c => ?_) fun _ => ?_⟩
    · have e : PyData.eqv (.tuple [.int 2, .none, .none]) (.tuple [.int 2, .none, .none]) = true := by decide +kernel
      rw [e] at c
      cases c
    exact ⟨⟨_, _, _, _, _, _, _, _, _, _, _, _, _, _, _, rfl⟩, s1.trans (smE.trans (s12.trans s3'))⟩
end
end K25

set_option maxRecDepth 100000
set_option maxHeartbeats 4000000
namespace K25
open PySem PySem.Spec L2 Rm
open PyProof.Rows hiding St
section
variable {P : Program} {w : World} {K : PySem.W.Frag} {mg : Str → Option Value} {base : Heap} {CX : CXT} {j k : Nat} {x m : Str} {C : Addr} {ps : List Str} {sp : Sp}
theorem ceM (D : Ce P w K mg base CX j x ps sp) (h : j ≤ k) : Ce P w K mg base CX k x ps sp :=
  let ⟨f, fd, a, b, c, F⟩ := D
  ⟨f, fd, a, b, c, F.mono h⟩
theorem cmM (D : Cm P w K mg base CX j C m ps sp) (h : j ≤ k) : Cm P w K mg base CX k C m ps sp :=
  let ⟨f, fd, a, b, c, F⟩ := D
  ⟨f, fd, a, b, c, F.mono h⟩
theorem cnM (D : Cn P w K mg base CX j x C ps sp) (h : j ≤ k) : Cn P w K mg base CX k x C ps sp :=
  let ⟨f, fd, a, b, c, F⟩ := D
  ⟨f, fd, a, b, c, F.mono h⟩
theorem mo_nil : MO [] := ⟨by decide, fun _ _ => rfl⟩
end
/-! ### what the top has written -/
theorem all_mk {P : Program} {w : World} {K : PySem.W.Frag} {h : Heap} {mg : Str → Option Value} {fa C_Fates C_Part C_Row C_MarkError C_UnknownVersion C_UnknownTransaction C_UnknownPart C_Ended C_TooMany : Addr} (X : K.In h) (G : h.Ns mainGlobals mg) (hfa : mg "law" = some (.ref fa))
    (E_UnknownVersion : EF P w K mg C_UnknownVersion C_MarkError "UnknownVersion" "value")
    (E_UnknownTransaction : EF P w K mg C_UnknownTransaction C_MarkError "UnknownTransaction" "value")
    (E_UnknownPart : EF P w K mg C_UnknownPart C_MarkError "UnknownPart" "value")
    (E_Ended : EF P w K mg C_Ended C_MarkError "Ended" "number")
    (E_TooMany : EF P w K mg C_TooMany C_MarkError "TooMany" "limit")
    (g_Fates : PySem.W.nsIn K mainGlobals "Fates" = some (some (.ref C_Fates))) (cls_Fates_pg : PySem.W.plainGet K C_Fates Str.empty = true) (cls_Fates_hd : PySem.W.hasDictIn K C_Fates = true) (cls_Fates_po : PySem.W.plainOver K C_Fates = true) (cls_Fates_sa : PySem.W.findIn K (.ref C_Fates) "__setattr__" = some (some (.builtin "object.__setattr__"))) (mk_Fates : PySem.W.makesIn K C_Fates = true) (kp_Fates : PySem.W.keepIn K (.ref C_Fates) = true) (na_Fates_0 : PySem.W.findIn K (.ref C_Fates) "_done" = some none) (na_Fates_1 : PySem.W.findIn K (.ref C_Fates) "_commits" = some none) (na_Fates_2 : PySem.W.findIn K (.ref C_Fates) "_at_work" = some none) (na_Fates_3 : PySem.W.findIn K (.ref C_Fates) "_states" = some none) (na_Fates_4 : PySem.W.findIn K (.ref C_Fates) "_stacks" = some none) (na_Fates_5 : PySem.W.findIn K (.ref C_Fates) "_all_parts" = some none) (g_Part : PySem.W.nsIn K mainGlobals "Part" = some (some (.ref C_Part))) (cls_Part_pg : PySem.W.plainGet K C_Part Str.empty = true) (cls_Part_hd : PySem.W.hasDictIn K C_Part = true) (cls_Part_po : PySem.W.plainOver K C_Part = true) (cls_Part_sa : PySem.W.findIn K (.ref C_Part) "__setattr__" = some (some (.builtin "object.__setattr__"))) (mk_Part : PySem.W.makesIn K C_Part = true) (kp_Part : PySem.W.keepIn K (.ref C_Part) = true) (na_Part_0 : PySem.W.findIn K (.ref C_Part) "holder" = some none) (na_Part_1 : PySem.W.findIn K (.ref C_Part) "outer" = some none) (na_Part_2 : PySem.W.findIn K (.ref C_Part) "released" = some none) (na_Part_3 : PySem.W.findIn K (.ref C_Part) "ended" = some none) (na_Part_4 : PySem.W.findIn K (.ref C_Part) "outcome" = some none) (g_Row : PySem.W.nsIn K mainGlobals "Row" = some (some (.ref C_Row))) (cls_Row_pg : PySem.W.plainGet K C_Row Str.empty = true) (cls_Row_hd : PySem.W.hasDictIn K C_Row = true) (cls_Row_po : PySem.W.plainOver K C_Row = true) (cls_Row_sa : PySem.W.findIn K (.ref C_Row) "__setattr__" = some (some (.builtin "object.__setattr__"))) (mk_Row : PySem.W.makesIn K C_Row = true) (kp_Row : PySem.W.keepIn K (.ref C_Row) = true) (na_Row_0 : PySem.W.findIn K (.ref C_Row) "_versions" = some none) (na_Row_1 : PySem.W.findIn K (.ref C_Row) "_marks" = some none) (na_Row_2 : PySem.W.findIn K (.ref C_Row) "_made" = some none) (m_ty : PySem.W.typeIn K (.ref C_Row) = some (.type "type")) (m_ha : PySem.W.findIn K (.ref C_Row) "__class__" = some (some (.builtin "object.__class__"))) (m_hn : PySem.W.specialIn K (.builtin "object.__class__") "__get__" = some (some (.builtin "getset_descriptor.__get__"))) (m_ht : PySem.W.takesIn K (.builtin "object.__class__") = some true) (m_hm : PySem.W.mroIn K C_Row (.type "object") = some true)
    {tk_R : Tok} (g_RUN : PySem.W.nsIn K mainGlobals "MOST_RUNNING" = some (some (.int 8 tk_R)))
    {f_is_whole : Addr} {oc_is_whole kV_is_whole dc_is_whole pm_is_whole cd_is_whole ct_is_whole : Value} {od_is_whole an_is_whole : Option Addr} {sl_is_whole : Array (Option Value)}
    (a_is_whole : PySem.W.nsIn K mainGlobals "is_whole" = some (some (.ref f_is_whole))) (l_is_whole : K.lookup f_is_whole = some ⟨oc_is_whole, od_is_whole, .func (PySem.W.fnOf "is_whole" "is_whole" (defArgs s_is_whole) (defBody s_is_whole) (defScope s_is_whole) .none kV_is_whole dc_is_whole pm_is_whole an_is_whole cd_is_whole ct_is_whole), sl_is_whole⟩) (c_is_whole : PySem.W.codeIn K cd_is_whole "is_whole" = true) (k_is_whole : PySem.W.keepIn K (.ref f_is_whole) = true)
    {f_is_within : Addr} {oc_is_within kV_is_within dc_is_within pm_is_within cd_is_within ct_is_within : Value} {od_is_within an_is_within : Option Addr} {sl_is_within : Array (Option Value)}
    (a_is_within : PySem.W.nsIn K mainGlobals "is_within" = some (some (.ref f_is_within))) (l_is_within : K.lookup f_is_within = some ⟨oc_is_within, od_is_within, .func (PySem.W.fnOf "is_within" "is_within" (defArgs s_is_within) (defBody s_is_within) (defScope s_is_within) .none kV_is_within dc_is_within pm_is_within an_is_within cd_is_within ct_is_within), sl_is_within⟩) (c_is_within : PySem.W.codeIn K cd_is_within "is_within" = true) (k_is_within : PySem.W.keepIn K (.ref f_is_within) = true)
    {f_Fates__count_operation : Addr} {oc_Fates__count_operation kV_Fates__count_operation dc_Fates__count_operation pm_Fates__count_operation cd_Fates__count_operation ct_Fates__count_operation : Value} {od_Fates__count_operation an_Fates__count_operation : Option Addr} {sl_Fates__count_operation : Array (Option Value)}
    (a_Fates__count_operation : PySem.W.findIn K (.ref C_Fates) "_count_operation" = some (some (.ref f_Fates__count_operation))) (i_Fates__count_operation : PySem.W.isFn K (.ref f_Fates__count_operation) = true) (l_Fates__count_operation : K.lookup f_Fates__count_operation = some ⟨oc_Fates__count_operation, od_Fates__count_operation, .func (PySem.W.fnOf "_count_operation" "Fates._count_operation" (defArgs s_Fates__count_operation) (defBody s_Fates__count_operation) (defScope s_Fates__count_operation) .none kV_Fates__count_operation dc_Fates__count_operation pm_Fates__count_operation an_Fates__count_operation cd_Fates__count_operation ct_Fates__count_operation), sl_Fates__count_operation⟩) (c_Fates__count_operation : PySem.W.codeIn K cd_Fates__count_operation "Fates._count_operation" = true) (k_Fates__count_operation : PySem.W.keepIn K (.ref f_Fates__count_operation) = true)
    {f_Fates_is_transaction : Addr} {oc_Fates_is_transaction kV_Fates_is_transaction dc_Fates_is_transaction pm_Fates_is_transaction cd_Fates_is_transaction ct_Fates_is_transaction : Value} {od_Fates_is_transaction an_Fates_is_transaction : Option Addr} {sl_Fates_is_transaction : Array (Option Value)}
    (a_Fates_is_transaction : PySem.W.findIn K (.ref C_Fates) "is_transaction" = some (some (.ref f_Fates_is_transaction))) (i_Fates_is_transaction : PySem.W.isFn K (.ref f_Fates_is_transaction) = true) (l_Fates_is_transaction : K.lookup f_Fates_is_transaction = some ⟨oc_Fates_is_transaction, od_Fates_is_transaction, .func (PySem.W.fnOf "is_transaction" "Fates.is_transaction" (defArgs s_Fates_is_transaction) (defBody s_Fates_is_transaction) (defScope s_Fates_is_transaction) .none kV_Fates_is_transaction dc_Fates_is_transaction pm_Fates_is_transaction an_Fates_is_transaction cd_Fates_is_transaction ct_Fates_is_transaction), sl_Fates_is_transaction⟩) (c_Fates_is_transaction : PySem.W.codeIn K cd_Fates_is_transaction "Fates.is_transaction" = true) (k_Fates_is_transaction : PySem.W.keepIn K (.ref f_Fates_is_transaction) = true)
    {f_Fates__check_known : Addr} {oc_Fates__check_known kV_Fates__check_known dc_Fates__check_known pm_Fates__check_known cd_Fates__check_known ct_Fates__check_known : Value} {od_Fates__check_known an_Fates__check_known : Option Addr} {sl_Fates__check_known : Array (Option Value)}
    (a_Fates__check_known : PySem.W.findIn K (.ref C_Fates) "_check_known" = some (some (.ref f_Fates__check_known))) (i_Fates__check_known : PySem.W.isFn K (.ref f_Fates__check_known) = true) (l_Fates__check_known : K.lookup f_Fates__check_known = some ⟨oc_Fates__check_known, od_Fates__check_known, .func (PySem.W.fnOf "_check_known" "Fates._check_known" (defArgs s_Fates__check_known) (defBody s_Fates__check_known) (defScope s_Fates__check_known) .none kV_Fates__check_known dc_Fates__check_known pm_Fates__check_known an_Fates__check_known cd_Fates__check_known ct_Fates__check_known), sl_Fates__check_known⟩) (c_Fates__check_known : PySem.W.codeIn K cd_Fates__check_known "Fates._check_known" = true) (k_Fates__check_known : PySem.W.keepIn K (.ref f_Fates__check_known) = true)
    {f_Fates__check_running : Addr} {oc_Fates__check_running kV_Fates__check_running dc_Fates__check_running pm_Fates__check_running cd_Fates__check_running ct_Fates__check_running : Value} {od_Fates__check_running an_Fates__check_running : Option Addr} {sl_Fates__check_running : Array (Option Value)}
    (a_Fates__check_running : PySem.W.findIn K (.ref C_Fates) "_check_running" = some (some (.ref f_Fates__check_running))) (i_Fates__check_running : PySem.W.isFn K (.ref f_Fates__check_running) = true) (l_Fates__check_running : K.lookup f_Fates__check_running = some ⟨oc_Fates__check_running, od_Fates__check_running, .func (PySem.W.fnOf "_check_running" "Fates._check_running" (defArgs s_Fates__check_running) (defBody s_Fates__check_running) (defScope s_Fates__check_running) .none kV_Fates__check_running dc_Fates__check_running pm_Fates__check_running an_Fates__check_running cd_Fates__check_running ct_Fates__check_running), sl_Fates__check_running⟩) (c_Fates__check_running : PySem.W.codeIn K cd_Fates__check_running "Fates._check_running" = true) (k_Fates__check_running : PySem.W.keepIn K (.ref f_Fates__check_running) = true)
    {f_Part___init__ : Addr} {oc_Part___init__ kV_Part___init__ dc_Part___init__ pm_Part___init__ cd_Part___init__ ct_Part___init__ : Value} {od_Part___init__ an_Part___init__ : Option Addr} {sl_Part___init__ : Array (Option Value)}
    (a_Part___init__ : PySem.W.findIn K (.ref C_Part) "__init__" = some (some (.ref f_Part___init__))) (i_Part___init__ : PySem.W.isFn K (.ref f_Part___init__) = true) (l_Part___init__ : K.lookup f_Part___init__ = some ⟨oc_Part___init__, od_Part___init__, .func (PySem.W.fnOf "__init__" "Part.__init__" (defArgs s_Part___init__) (defBody s_Part___init__) (defScope s_Part___init__) .none kV_Part___init__ dc_Part___init__ pm_Part___init__ an_Part___init__ cd_Part___init__ ct_Part___init__), sl_Part___init__⟩) (c_Part___init__ : PySem.W.codeIn K cd_Part___init__ "Part.__init__" = true) (k_Part___init__ : PySem.W.keepIn K (.ref f_Part___init__) = true)
    {f_Fates__open_part : Addr} {oc_Fates__open_part kV_Fates__open_part dc_Fates__open_part pm_Fates__open_part cd_Fates__open_part ct_Fates__open_part : Value} {od_Fates__open_part an_Fates__open_part : Option Addr} {sl_Fates__open_part : Array (Option Value)}
    (a_Fates__open_part : PySem.W.findIn K (.ref C_Fates) "_open_part" = some (some (.ref f_Fates__open_part))) (i_Fates__open_part : PySem.W.isFn K (.ref f_Fates__open_part) = true) (l_Fates__open_part : K.lookup f_Fates__open_part = some ⟨oc_Fates__open_part, od_Fates__open_part, .func (PySem.W.fnOf "_open_part" "Fates._open_part" (defArgs s_Fates__open_part) (defBody s_Fates__open_part) (defScope s_Fates__open_part) .none kV_Fates__open_part dc_Fates__open_part pm_Fates__open_part an_Fates__open_part cd_Fates__open_part ct_Fates__open_part), sl_Fates__open_part⟩) (c_Fates__open_part : PySem.W.codeIn K cd_Fates__open_part "Fates._open_part" = true) (k_Fates__open_part : PySem.W.keepIn K (.ref f_Fates__open_part) = true)
    {f_Fates_begin : Addr} {oc_Fates_begin kV_Fates_begin dc_Fates_begin pm_Fates_begin cd_Fates_begin ct_Fates_begin : Value} {od_Fates_begin an_Fates_begin : Option Addr} {sl_Fates_begin : Array (Option Value)}
    (a_Fates_begin : PySem.W.findIn K (.ref C_Fates) "begin" = some (some (.ref f_Fates_begin))) (i_Fates_begin : PySem.W.isFn K (.ref f_Fates_begin) = true) (l_Fates_begin : K.lookup f_Fates_begin = some ⟨oc_Fates_begin, od_Fates_begin, .func (PySem.W.fnOf "begin" "Fates.begin" (defArgs s_Fates_begin) (defBody s_Fates_begin) (defScope s_Fates_begin) .none kV_Fates_begin dc_Fates_begin pm_Fates_begin an_Fates_begin cd_Fates_begin ct_Fates_begin), sl_Fates_begin⟩) (c_Fates_begin : PySem.W.codeIn K cd_Fates_begin "Fates.begin" = true) (k_Fates_begin : PySem.W.keepIn K (.ref f_Fates_begin) = true)
    {f_Fates__end_part : Addr} {oc_Fates__end_part kV_Fates__end_part dc_Fates__end_part pm_Fates__end_part cd_Fates__end_part ct_Fates__end_part : Value} {od_Fates__end_part an_Fates__end_part : Option Addr} {sl_Fates__end_part : Array (Option Value)}
    (a_Fates__end_part : PySem.W.findIn K (.ref C_Fates) "_end_part" = some (some (.ref f_Fates__end_part))) (i_Fates__end_part : PySem.W.isFn K (.ref f_Fates__end_part) = true) (l_Fates__end_part : K.lookup f_Fates__end_part = some ⟨oc_Fates__end_part, od_Fates__end_part, .func (PySem.W.fnOf "_end_part" "Fates._end_part" (defArgs s_Fates__end_part) (defBody s_Fates__end_part) (defScope s_Fates__end_part) .none kV_Fates__end_part dc_Fates__end_part pm_Fates__end_part an_Fates__end_part cd_Fates__end_part ct_Fates__end_part), sl_Fates__end_part⟩) (c_Fates__end_part : PySem.W.codeIn K cd_Fates__end_part "Fates._end_part" = true) (k_Fates__end_part : PySem.W.keepIn K (.ref f_Fates__end_part) = true)
    {f_Fates__end_transaction : Addr} {oc_Fates__end_transaction kV_Fates__end_transaction dc_Fates__end_transaction pm_Fates__end_transaction cd_Fates__end_transaction ct_Fates__end_transaction : Value} {od_Fates__end_transaction an_Fates__end_transaction : Option Addr} {sl_Fates__end_transaction : Array (Option Value)}
    (a_Fates__end_transaction : PySem.W.findIn K (.ref C_Fates) "_end_transaction" = some (some (.ref f_Fates__end_transaction))) (i_Fates__end_transaction : PySem.W.isFn K (.ref f_Fates__end_transaction) = true) (l_Fates__end_transaction : K.lookup f_Fates__end_transaction = some ⟨oc_Fates__end_transaction, od_Fates__end_transaction, .func (PySem.W.fnOf "_end_transaction" "Fates._end_transaction" (defArgs s_Fates__end_transaction) (defBody s_Fates__end_transaction) (defScope s_Fates__end_transaction) .none kV_Fates__end_transaction dc_Fates__end_transaction pm_Fates__end_transaction an_Fates__end_transaction cd_Fates__end_transaction ct_Fates__end_transaction), sl_Fates__end_transaction⟩) (c_Fates__end_transaction : PySem.W.codeIn K cd_Fates__end_transaction "Fates._end_transaction" = true) (k_Fates__end_transaction : PySem.W.keepIn K (.ref f_Fates__end_transaction) = true)
    {f_Fates_abort : Addr} {oc_Fates_abort kV_Fates_abort dc_Fates_abort pm_Fates_abort cd_Fates_abort ct_Fates_abort : Value} {od_Fates_abort an_Fates_abort : Option Addr} {sl_Fates_abort : Array (Option Value)}
    (a_Fates_abort : PySem.W.findIn K (.ref C_Fates) "abort" = some (some (.ref f_Fates_abort))) (i_Fates_abort : PySem.W.isFn K (.ref f_Fates_abort) = true) (l_Fates_abort : K.lookup f_Fates_abort = some ⟨oc_Fates_abort, od_Fates_abort, .func (PySem.W.fnOf "abort" "Fates.abort" (defArgs s_Fates_abort) (defBody s_Fates_abort) (defScope s_Fates_abort) .none kV_Fates_abort dc_Fates_abort pm_Fates_abort an_Fates_abort cd_Fates_abort ct_Fates_abort), sl_Fates_abort⟩) (c_Fates_abort : PySem.W.codeIn K cd_Fates_abort "Fates.abort" = true) (k_Fates_abort : PySem.W.keepIn K (.ref f_Fates_abort) = true)
    {f_Fates___init__ : Addr} {oc_Fates___init__ kV_Fates___init__ dc_Fates___init__ pm_Fates___init__ cd_Fates___init__ ct_Fates___init__ : Value} {od_Fates___init__ an_Fates___init__ : Option Addr} {sl_Fates___init__ : Array (Option Value)}
    (a_Fates___init__ : PySem.W.findIn K (.ref C_Fates) "__init__" = some (some (.ref f_Fates___init__))) (i_Fates___init__ : PySem.W.isFn K (.ref f_Fates___init__) = true) (l_Fates___init__ : K.lookup f_Fates___init__ = some ⟨oc_Fates___init__, od_Fates___init__, .func (PySem.W.fnOf "__init__" "Fates.__init__" (defArgs s_Fates___init__) (defBody s_Fates___init__) (defScope s_Fates___init__) .none kV_Fates___init__ dc_Fates___init__ pm_Fates___init__ an_Fates___init__ cd_Fates___init__ ct_Fates___init__), sl_Fates___init__⟩) (c_Fates___init__ : PySem.W.codeIn K cd_Fates___init__ "Fates.__init__" = true) (k_Fates___init__ : PySem.W.keepIn K (.ref f_Fates___init__) = true)
    {f_Fates_is_part : Addr} {oc_Fates_is_part kV_Fates_is_part dc_Fates_is_part pm_Fates_is_part cd_Fates_is_part ct_Fates_is_part : Value} {od_Fates_is_part an_Fates_is_part : Option Addr} {sl_Fates_is_part : Array (Option Value)}
    (a_Fates_is_part : PySem.W.findIn K (.ref C_Fates) "is_part" = some (some (.ref f_Fates_is_part))) (i_Fates_is_part : PySem.W.isFn K (.ref f_Fates_is_part) = true) (l_Fates_is_part : K.lookup f_Fates_is_part = some ⟨oc_Fates_is_part, od_Fates_is_part, .func (PySem.W.fnOf "is_part" "Fates.is_part" (defArgs s_Fates_is_part) (defBody s_Fates_is_part) (defScope s_Fates_is_part) .none kV_Fates_is_part dc_Fates_is_part pm_Fates_is_part an_Fates_is_part cd_Fates_is_part ct_Fates_is_part), sl_Fates_is_part⟩) (c_Fates_is_part : PySem.W.codeIn K cd_Fates_is_part "Fates.is_part" = true) (k_Fates_is_part : PySem.W.keepIn K (.ref f_Fates_is_part) = true)
    {f_Fates__check_part : Addr} {oc_Fates__check_part kV_Fates__check_part dc_Fates__check_part pm_Fates__check_part cd_Fates__check_part ct_Fates__check_part : Value} {od_Fates__check_part an_Fates__check_part : Option Addr} {sl_Fates__check_part : Array (Option Value)}
    (a_Fates__check_part : PySem.W.findIn K (.ref C_Fates) "_check_part" = some (some (.ref f_Fates__check_part))) (i_Fates__check_part : PySem.W.isFn K (.ref f_Fates__check_part) = true) (l_Fates__check_part : K.lookup f_Fates__check_part = some ⟨oc_Fates__check_part, od_Fates__check_part, .func (PySem.W.fnOf "_check_part" "Fates._check_part" (defArgs s_Fates__check_part) (defBody s_Fates__check_part) (defScope s_Fates__check_part) .none kV_Fates__check_part dc_Fates__check_part pm_Fates__check_part an_Fates__check_part cd_Fates__check_part ct_Fates__check_part), sl_Fates__check_part⟩) (c_Fates__check_part : PySem.W.codeIn K cd_Fates__check_part "Fates._check_part" = true) (k_Fates__check_part : PySem.W.keepIn K (.ref f_Fates__check_part) = true)
    {f_Fates_transaction : Addr} {oc_Fates_transaction kV_Fates_transaction dc_Fates_transaction pm_Fates_transaction cd_Fates_transaction ct_Fates_transaction : Value} {od_Fates_transaction an_Fates_transaction : Option Addr} {sl_Fates_transaction : Array (Option Value)}
    (a_Fates_transaction : PySem.W.findIn K (.ref C_Fates) "transaction" = some (some (.ref f_Fates_transaction))) (i_Fates_transaction : PySem.W.isFn K (.ref f_Fates_transaction) = true) (l_Fates_transaction : K.lookup f_Fates_transaction = some ⟨oc_Fates_transaction, od_Fates_transaction, .func (PySem.W.fnOf "transaction" "Fates.transaction" (defArgs s_Fates_transaction) (defBody s_Fates_transaction) (defScope s_Fates_transaction) .none kV_Fates_transaction dc_Fates_transaction pm_Fates_transaction an_Fates_transaction cd_Fates_transaction ct_Fates_transaction), sl_Fates_transaction⟩) (c_Fates_transaction : PySem.W.codeIn K cd_Fates_transaction "Fates.transaction" = true) (k_Fates_transaction : PySem.W.keepIn K (.ref f_Fates_transaction) = true)
    {f_Fates_root : Addr} {oc_Fates_root kV_Fates_root dc_Fates_root pm_Fates_root cd_Fates_root ct_Fates_root : Value} {od_Fates_root an_Fates_root : Option Addr} {sl_Fates_root : Array (Option Value)}
    (a_Fates_root : PySem.W.findIn K (.ref C_Fates) "root" = some (some (.ref f_Fates_root))) (i_Fates_root : PySem.W.isFn K (.ref f_Fates_root) = true) (l_Fates_root : K.lookup f_Fates_root = some ⟨oc_Fates_root, od_Fates_root, .func (PySem.W.fnOf "root" "Fates.root" (defArgs s_Fates_root) (defBody s_Fates_root) (defScope s_Fates_root) .none kV_Fates_root dc_Fates_root pm_Fates_root an_Fates_root cd_Fates_root ct_Fates_root), sl_Fates_root⟩) (c_Fates_root : PySem.W.codeIn K cd_Fates_root "Fates.root" = true) (k_Fates_root : PySem.W.keepIn K (.ref f_Fates_root) = true)
    {f_Fates_fate : Addr} {oc_Fates_fate kV_Fates_fate dc_Fates_fate pm_Fates_fate cd_Fates_fate ct_Fates_fate : Value} {od_Fates_fate an_Fates_fate : Option Addr} {sl_Fates_fate : Array (Option Value)}
    (a_Fates_fate : PySem.W.findIn K (.ref C_Fates) "fate" = some (some (.ref f_Fates_fate))) (i_Fates_fate : PySem.W.isFn K (.ref f_Fates_fate) = true) (l_Fates_fate : K.lookup f_Fates_fate = some ⟨oc_Fates_fate, od_Fates_fate, .func (PySem.W.fnOf "fate" "Fates.fate" (defArgs s_Fates_fate) (defBody s_Fates_fate) (defScope s_Fates_fate) .none kV_Fates_fate dc_Fates_fate pm_Fates_fate an_Fates_fate cd_Fates_fate ct_Fates_fate), sl_Fates_fate⟩) (c_Fates_fate : PySem.W.codeIn K cd_Fates_fate "Fates.fate" = true) (k_Fates_fate : PySem.W.keepIn K (.ref f_Fates_fate) = true)
    {f_Row___init__ : Addr} {oc_Row___init__ kV_Row___init__ dc_Row___init__ pm_Row___init__ cd_Row___init__ ct_Row___init__ : Value} {od_Row___init__ an_Row___init__ : Option Addr} {sl_Row___init__ : Array (Option Value)}
    (a_Row___init__ : PySem.W.findIn K (.ref C_Row) "__init__" = some (some (.ref f_Row___init__))) (i_Row___init__ : PySem.W.isFn K (.ref f_Row___init__) = true) (l_Row___init__ : K.lookup f_Row___init__ = some ⟨oc_Row___init__, od_Row___init__, .func (PySem.W.fnOf "__init__" "Row.__init__" (defArgs s_Row___init__) (defBody s_Row___init__) (defScope s_Row___init__) .none kV_Row___init__ dc_Row___init__ pm_Row___init__ an_Row___init__ cd_Row___init__ ct_Row___init__), sl_Row___init__⟩) (c_Row___init__ : PySem.W.codeIn K cd_Row___init__ "Row.__init__" = true) (k_Row___init__ : PySem.W.keepIn K (.ref f_Row___init__) = true)
    {f_Row__check_left : Addr} {oc_Row__check_left kV_Row__check_left dc_Row__check_left pm_Row__check_left cd_Row__check_left ct_Row__check_left : Value} {od_Row__check_left an_Row__check_left : Option Addr} {sl_Row__check_left : Array (Option Value)}
    (a_Row__check_left : PySem.W.findIn K (.ref C_Row) "_check_left" = some (some (.ref f_Row__check_left))) (i_Row__check_left : PySem.W.isFn K (.ref f_Row__check_left) = true) (l_Row__check_left : K.lookup f_Row__check_left = some ⟨oc_Row__check_left, od_Row__check_left, .func (PySem.W.fnOf "_check_left" "Row._check_left" (defArgs s_Row__check_left) (defBody s_Row__check_left) (defScope s_Row__check_left) .none kV_Row__check_left dc_Row__check_left pm_Row__check_left an_Row__check_left cd_Row__check_left ct_Row__check_left), sl_Row__check_left⟩) (c_Row__check_left : PySem.W.codeIn K cd_Row__check_left "Row._check_left" = true) (k_Row__check_left : PySem.W.keepIn K (.ref f_Row__check_left) = true)
    {f_Row___getitem__ : Addr} {oc_Row___getitem__ kV_Row___getitem__ dc_Row___getitem__ pm_Row___getitem__ cd_Row___getitem__ ct_Row___getitem__ : Value} {od_Row___getitem__ an_Row___getitem__ : Option Addr} {sl_Row___getitem__ : Array (Option Value)}
    (a_Row___getitem__ : PySem.W.findIn K (.ref C_Row) "__getitem__" = some (some (.ref f_Row___getitem__))) (i_Row___getitem__ : PySem.W.isFn K (.ref f_Row___getitem__) = true) (l_Row___getitem__ : K.lookup f_Row___getitem__ = some ⟨oc_Row___getitem__, od_Row___getitem__, .func (PySem.W.fnOf "__getitem__" "Row.__getitem__" (defArgs s_Row___getitem__) (defBody s_Row___getitem__) (defScope s_Row___getitem__) .none kV_Row___getitem__ dc_Row___getitem__ pm_Row___getitem__ an_Row___getitem__ cd_Row___getitem__ ct_Row___getitem__), sl_Row___getitem__⟩) (c_Row___getitem__ : PySem.W.codeIn K cd_Row___getitem__ "Row.__getitem__" = true) (k_Row___getitem__ : PySem.W.keepIn K (.ref f_Row___getitem__) = true)
    {f_Row_mark : Addr} {oc_Row_mark kV_Row_mark dc_Row_mark pm_Row_mark cd_Row_mark ct_Row_mark : Value} {od_Row_mark an_Row_mark : Option Addr} {sl_Row_mark : Array (Option Value)}
    (a_Row_mark : PySem.W.findIn K (.ref C_Row) "mark" = some (some (.ref f_Row_mark))) (i_Row_mark : PySem.W.isFn K (.ref f_Row_mark) = true) (l_Row_mark : K.lookup f_Row_mark = some ⟨oc_Row_mark, od_Row_mark, .func (PySem.W.fnOf "mark" "Row.mark" (defArgs s_Row_mark) (defBody s_Row_mark) (defScope s_Row_mark) .none kV_Row_mark dc_Row_mark pm_Row_mark an_Row_mark cd_Row_mark ct_Row_mark), sl_Row_mark⟩) (c_Row_mark : PySem.W.codeIn K cd_Row_mark "Row.mark" = true) (k_Row_mark : PySem.W.keepIn K (.ref f_Row_mark) = true)
    {f_Row_set_mark : Addr} {oc_Row_set_mark kV_Row_set_mark dc_Row_set_mark pm_Row_set_mark cd_Row_set_mark ct_Row_set_mark : Value} {od_Row_set_mark an_Row_set_mark : Option Addr} {sl_Row_set_mark : Array (Option Value)}
    (a_Row_set_mark : PySem.W.findIn K (.ref C_Row) "set_mark" = some (some (.ref f_Row_set_mark))) (i_Row_set_mark : PySem.W.isFn K (.ref f_Row_set_mark) = true) (l_Row_set_mark : K.lookup f_Row_set_mark = some ⟨oc_Row_set_mark, od_Row_set_mark, .func (PySem.W.fnOf "set_mark" "Row.set_mark" (defArgs s_Row_set_mark) (defBody s_Row_set_mark) (defScope s_Row_set_mark) .none kV_Row_set_mark dc_Row_set_mark pm_Row_set_mark an_Row_set_mark cd_Row_set_mark ct_Row_set_mark), sl_Row_set_mark⟩) (c_Row_set_mark : PySem.W.codeIn K cd_Row_set_mark "Row.set_mark" = true) (k_Row_set_mark : PySem.W.keepIn K (.ref f_Row_set_mark) = true)
    {f_Row_remove : Addr} {oc_Row_remove kV_Row_remove dc_Row_remove pm_Row_remove cd_Row_remove ct_Row_remove : Value} {od_Row_remove an_Row_remove : Option Addr} {sl_Row_remove : Array (Option Value)}
    (a_Row_remove : PySem.W.findIn K (.ref C_Row) "remove" = some (some (.ref f_Row_remove))) (i_Row_remove : PySem.W.isFn K (.ref f_Row_remove) = true) (l_Row_remove : K.lookup f_Row_remove = some ⟨oc_Row_remove, od_Row_remove, .func (PySem.W.fnOf "remove" "Row.remove" (defArgs s_Row_remove) (defBody s_Row_remove) (defScope s_Row_remove) .none kV_Row_remove dc_Row_remove pm_Row_remove an_Row_remove cd_Row_remove ct_Row_remove), sl_Row_remove⟩) (c_Row_remove : PySem.W.codeIn K cd_Row_remove "Row.remove" = true) (k_Row_remove : PySem.W.keepIn K (.ref f_Row_remove) = true)
    {f_Row_make : Addr} {oc_Row_make kV_Row_make dc_Row_make pm_Row_make cd_Row_make ct_Row_make : Value} {od_Row_make an_Row_make : Option Addr} {sl_Row_make : Array (Option Value)}
    (a_Row_make : PySem.W.findIn K (.ref C_Row) "make" = some (some (.ref f_Row_make))) (i_Row_make : PySem.W.isFn K (.ref f_Row_make) = true) (l_Row_make : K.lookup f_Row_make = some ⟨oc_Row_make, od_Row_make, .func (PySem.W.fnOf "make" "Row.make" (defArgs s_Row_make) (defBody s_Row_make) (defScope s_Row_make) .none kV_Row_make dc_Row_make pm_Row_make an_Row_make cd_Row_make ct_Row_make), sl_Row_make⟩) (c_Row_make : PySem.W.codeIn K cd_Row_make "Row.make" = true) (k_Row_make : PySem.W.keepIn K (.ref f_Row_make) = true)
    {f_Row_kept : Addr} {oc_Row_kept kV_Row_kept dc_Row_kept pm_Row_kept cd_Row_kept ct_Row_kept : Value} {od_Row_kept an_Row_kept : Option Addr} {sl_Row_kept : Array (Option Value)}
    (a_Row_kept : PySem.W.findIn K (.ref C_Row) "kept" = some (some (.ref f_Row_kept))) (i_Row_kept : PySem.W.isFn K (.ref f_Row_kept) = true) (l_Row_kept : K.lookup f_Row_kept = some ⟨oc_Row_kept, od_Row_kept, .func (PySem.W.fnOf "kept" "Row.kept" (defArgs s_Row_kept) (defBody s_Row_kept) (defScope s_Row_kept) .none kV_Row_kept dc_Row_kept pm_Row_kept an_Row_kept cd_Row_kept ct_Row_kept), sl_Row_kept⟩) (c_Row_kept : PySem.W.codeIn K cd_Row_kept "Row.kept" = true) (k_Row_kept : PySem.W.keepIn K (.ref f_Row_kept) = true)
    {f_Row__fate : Addr} {oc_Row__fate kV_Row__fate dc_Row__fate pm_Row__fate cd_Row__fate ct_Row__fate : Value} {od_Row__fate an_Row__fate : Option Addr} {sl_Row__fate : Array (Option Value)}
    (a_Row__fate : PySem.W.findIn K (.ref C_Row) "_fate" = some (some (.ref f_Row__fate))) (i_Row__fate : PySem.W.isFn K (.ref f_Row__fate) = true) (l_Row__fate : K.lookup f_Row__fate = some ⟨oc_Row__fate, od_Row__fate, .func (PySem.W.fnOf "_fate" "Row._fate" (defArgs s_Row__fate) (defBody s_Row__fate) (defScope s_Row__fate) .none kV_Row__fate dc_Row__fate pm_Row__fate an_Row__fate cd_Row__fate ct_Row__fate), sl_Row__fate⟩) (c_Row__fate : PySem.W.codeIn K cd_Row__fate "Row._fate" = true) (k_Row__fate : PySem.W.keepIn K (.ref f_Row__fate) = true)
    {f_Row_standing : Addr} {oc_Row_standing kV_Row_standing dc_Row_standing pm_Row_standing cd_Row_standing ct_Row_standing : Value} {od_Row_standing an_Row_standing : Option Addr} {sl_Row_standing : Array (Option Value)}
    (a_Row_standing : PySem.W.findIn K (.ref C_Row) "standing" = some (some (.ref f_Row_standing))) (i_Row_standing : PySem.W.isFn K (.ref f_Row_standing) = true) (l_Row_standing : K.lookup f_Row_standing = some ⟨oc_Row_standing, od_Row_standing, .func (PySem.W.fnOf "standing" "Row.standing" (defArgs s_Row_standing) (defBody s_Row_standing) (defScope s_Row_standing) .none kV_Row_standing dc_Row_standing pm_Row_standing an_Row_standing cd_Row_standing ct_Row_standing), sl_Row_standing⟩) (c_Row_standing : PySem.W.codeIn K cd_Row_standing "Row.standing" = true) (k_Row_standing : PySem.W.keepIn K (.ref f_Row_standing) = true)
    {f_Row_base : Addr} {oc_Row_base kV_Row_base dc_Row_base pm_Row_base cd_Row_base ct_Row_base : Value} {od_Row_base an_Row_base : Option Addr} {sl_Row_base : Array (Option Value)}
    (a_Row_base : PySem.W.findIn K (.ref C_Row) "base" = some (some (.ref f_Row_base))) (i_Row_base : PySem.W.isFn K (.ref f_Row_base) = true) (l_Row_base : K.lookup f_Row_base = some ⟨oc_Row_base, od_Row_base, .func (PySem.W.fnOf "base" "Row.base" (defArgs s_Row_base) (defBody s_Row_base) (defScope s_Row_base) .none kV_Row_base dc_Row_base pm_Row_base an_Row_base cd_Row_base ct_Row_base), sl_Row_base⟩) (c_Row_base : PySem.W.codeIn K cd_Row_base "Row.base" = true) (k_Row_base : PySem.W.keepIn K (.ref f_Row_base) = true)
    {f_Row_newest : Addr} {oc_Row_newest kV_Row_newest dc_Row_newest pm_Row_newest cd_Row_newest ct_Row_newest : Value} {od_Row_newest an_Row_newest : Option Addr} {sl_Row_newest : Array (Option Value)}
    (a_Row_newest : PySem.W.findIn K (.ref C_Row) "newest" = some (some (.ref f_Row_newest))) (i_Row_newest : PySem.W.isFn K (.ref f_Row_newest) = true) (l_Row_newest : K.lookup f_Row_newest = some ⟨oc_Row_newest, od_Row_newest, .func (PySem.W.fnOf "newest" "Row.newest" (defArgs s_Row_newest) (defBody s_Row_newest) (defScope s_Row_newest) .none kV_Row_newest dc_Row_newest pm_Row_newest an_Row_newest cd_Row_newest ct_Row_newest), sl_Row_newest⟩) (c_Row_newest : PySem.W.codeIn K cd_Row_newest "Row.newest" = true) (k_Row_newest : PySem.W.keepIn K (.ref f_Row_newest) = true)
    {f_Row_changer : Addr} {oc_Row_changer kV_Row_changer dc_Row_changer pm_Row_changer cd_Row_changer ct_Row_changer : Value} {od_Row_changer an_Row_changer : Option Addr} {sl_Row_changer : Array (Option Value)}
    (a_Row_changer : PySem.W.findIn K (.ref C_Row) "changer" = some (some (.ref f_Row_changer))) (i_Row_changer : PySem.W.isFn K (.ref f_Row_changer) = true) (l_Row_changer : K.lookup f_Row_changer = some ⟨oc_Row_changer, od_Row_changer, .func (PySem.W.fnOf "changer" "Row.changer" (defArgs s_Row_changer) (defBody s_Row_changer) (defScope s_Row_changer) .none kV_Row_changer dc_Row_changer pm_Row_changer an_Row_changer cd_Row_changer ct_Row_changer), sl_Row_changer⟩) (c_Row_changer : PySem.W.codeIn K cd_Row_changer "Row.changer" = true) (k_Row_changer : PySem.W.keepIn K (.ref f_Row_changer) = true)
    {f__law_tape : Addr} {oc__law_tape kV__law_tape dc__law_tape pm__law_tape cd__law_tape ct__law_tape : Value} {od__law_tape an__law_tape : Option Addr} {sl__law_tape : Array (Option Value)}
    (a__law_tape : PySem.W.nsIn K mainGlobals "_law_tape" = some (some (.ref f__law_tape))) (l__law_tape : K.lookup f__law_tape = some ⟨oc__law_tape, od__law_tape, .func (PySem.W.fnOf "_law_tape" "_law_tape" (defArgs s__law_tape) (defBody s__law_tape) (defScope s__law_tape) .none kV__law_tape dc__law_tape pm__law_tape an__law_tape cd__law_tape ct__law_tape), sl__law_tape⟩) (c__law_tape : PySem.W.codeIn K cd__law_tape "_law_tape" = true) (k__law_tape : PySem.W.keepIn K (.ref f__law_tape) = true)
    {f__law_pick : Addr} {oc__law_pick kV__law_pick dc__law_pick pm__law_pick cd__law_pick ct__law_pick : Value} {od__law_pick an__law_pick : Option Addr} {sl__law_pick : Array (Option Value)}
    (a__law_pick : PySem.W.nsIn K mainGlobals "_law_pick" = some (some (.ref f__law_pick))) (l__law_pick : K.lookup f__law_pick = some ⟨oc__law_pick, od__law_pick, .func (PySem.W.fnOf "_law_pick" "_law_pick" (defArgs s__law_pick) (defBody s__law_pick) (defScope s__law_pick) .none kV__law_pick dc__law_pick pm__law_pick an__law_pick cd__law_pick ct__law_pick), sl__law_pick⟩) (c__law_pick : PySem.W.codeIn K cd__law_pick "_law_pick" = true) (k__law_pick : PySem.W.keepIn K (.ref f__law_pick) = true)
    {f__law_one_of : Addr} {oc__law_one_of kV__law_one_of dc__law_one_of pm__law_one_of cd__law_one_of ct__law_one_of : Value} {od__law_one_of an__law_one_of : Option Addr} {sl__law_one_of : Array (Option Value)}
    (a__law_one_of : PySem.W.nsIn K mainGlobals "_law_one_of" = some (some (.ref f__law_one_of))) (l__law_one_of : K.lookup f__law_one_of = some ⟨oc__law_one_of, od__law_one_of, .func (PySem.W.fnOf "_law_one_of" "_law_one_of" (defArgs s__law_one_of) (defBody s__law_one_of) (defScope s__law_one_of) .none kV__law_one_of dc__law_one_of pm__law_one_of an__law_one_of cd__law_one_of ct__law_one_of), sl__law_one_of⟩) (c__law_one_of : PySem.W.codeIn K cd__law_one_of "_law_one_of" = true) (k__law_one_of : PySem.W.keepIn K (.ref f__law_one_of) = true)
    {f__law_any : Addr} {oc__law_any kV__law_any dc__law_any pm__law_any cd__law_any ct__law_any : Value} {od__law_any an__law_any : Option Addr} {sl__law_any : Array (Option Value)}
    (a__law_any : PySem.W.nsIn K mainGlobals "_law_any" = some (some (.ref f__law_any))) (l__law_any : K.lookup f__law_any = some ⟨oc__law_any, od__law_any, .func (PySem.W.fnOf "_law_any" "_law_any" (defArgs s__law_any) (defBody s__law_any) (defScope s__law_any) .none kV__law_any dc__law_any pm__law_any an__law_any cd__law_any ct__law_any), sl__law_any⟩) (c__law_any : PySem.W.codeIn K cd__law_any "_law_any" = true) (k__law_any : PySem.W.keepIn K (.ref f__law_any) = true)
    {f__law_asked : Addr} {oc__law_asked kV__law_asked dc__law_asked pm__law_asked cd__law_asked ct__law_asked : Value} {od__law_asked an__law_asked : Option Addr} {sl__law_asked : Array (Option Value)}
    (a__law_asked : PySem.W.nsIn K mainGlobals "_law_asked" = some (some (.ref f__law_asked))) (l__law_asked : K.lookup f__law_asked = some ⟨oc__law_asked, od__law_asked, .func (PySem.W.fnOf "_law_asked" "_law_asked" (defArgs s__law_asked) (defBody s__law_asked) (defScope s__law_asked) .none kV__law_asked dc__law_asked pm__law_asked an__law_asked cd__law_asked ct__law_asked), sl__law_asked⟩) (c__law_asked : PySem.W.codeIn K cd__law_asked "_law_asked" = true) (k__law_asked : PySem.W.keepIn K (.ref f__law_asked) = true)
    {f__law_refused : Addr} {oc__law_refused kV__law_refused dc__law_refused pm__law_refused cd__law_refused ct__law_refused : Value} {od__law_refused an__law_refused : Option Addr} {sl__law_refused : Array (Option Value)}
    (a__law_refused : PySem.W.nsIn K mainGlobals "_law_refused" = some (some (.ref f__law_refused))) (l__law_refused : K.lookup f__law_refused = some ⟨oc__law_refused, od__law_refused, .func (PySem.W.fnOf "_law_refused" "_law_refused" (defArgs s__law_refused) (defBody s__law_refused) (defScope s__law_refused) .none kV__law_refused dc__law_refused pm__law_refused an__law_refused cd__law_refused ct__law_refused), sl__law_refused⟩) (c__law_refused : PySem.W.codeIn K cd__law_refused "_law_refused" = true) (k__law_refused : PySem.W.keepIn K (.ref f__law_refused) = true)
    {f__law_named_right : Addr} {oc__law_named_right kV__law_named_right dc__law_named_right pm__law_named_right cd__law_named_right ct__law_named_right : Value} {od__law_named_right an__law_named_right : Option Addr} {sl__law_named_right : Array (Option Value)}
    (a__law_named_right : PySem.W.nsIn K mainGlobals "_law_named_right" = some (some (.ref f__law_named_right))) (l__law_named_right : K.lookup f__law_named_right = some ⟨oc__law_named_right, od__law_named_right, .func (PySem.W.fnOf "_law_named_right" "_law_named_right" (defArgs s__law_named_right) (defBody s__law_named_right) (defScope s__law_named_right) .none kV__law_named_right dc__law_named_right pm__law_named_right an__law_named_right cd__law_named_right ct__law_named_right), sl__law_named_right⟩) (c__law_named_right : PySem.W.codeIn K cd__law_named_right "_law_named_right" = true) (k__law_named_right : PySem.W.keepIn K (.ref f__law_named_right) = true)
    {f_law : Addr} {oc_law kV_law dc_law pm_law cd_law ct_law : Value} {od_law an_law : Option Addr} {sl_law : Array (Option Value)}
    (a_law : PySem.W.nsIn K mainGlobals "law" = some (some (.ref f_law))) (l_law : K.lookup f_law = some ⟨oc_law, od_law, .func (PySem.W.fnOf "law" "law" (defArgs s_law) (defBody s_law) (defScope s_law) .none kV_law dc_law pm_law an_law cd_law ct_law), sl_law⟩) (c_law : PySem.W.codeIn K cd_law "law" = true) (k_law : PySem.W.keepIn K (.ref f_law) = true)
    (fn0 : PySem.W.fnIn K f_Row___getitem__ = true)
    (n_int : PySem.W.nsIn K mainGlobals "int" = some none) (n_len : PySem.W.nsIn K mainGlobals "len" = some none) (n_isinstance : PySem.W.nsIn K mainGlobals "isinstance" = some none) (n_str : PySem.W.nsIn K mainGlobals "str" = some none) (n_range : PySem.W.nsIn K mainGlobals "range" = some none) (n_max : PySem.W.nsIn K mainGlobals "max" = some none) (n_min : PySem.W.nsIn K mainGlobals "min" = some none) (n_list : PySem.W.nsIn K mainGlobals "list" = some none) (n_repr : PySem.W.nsIn K mainGlobals "repr" = some none) (n_enumerate : PySem.W.nsIn K mainGlobals "enumerate" = some none) (n_tuple : PySem.W.nsIn K mainGlobals "tuple" = some none) (n_sorted : PySem.W.nsIn K mainGlobals "sorted" = some none) (n_bool : PySem.W.nsIn K mainGlobals "bool" = some none) (n_dict : PySem.W.nsIn K mainGlobals "dict" = some none) (n_set : PySem.W.nsIn K mainGlobals "set" = some none) (n_ValueError : PySem.W.nsIn K mainGlobals "ValueError" = some none) :
    ∃ fd : FuncData, (∀ (s : Shared) (v : Value), BindsTo s fd ⟨[v], []⟩ [("_law_script", v)]) ∧ ∀ base : Heap, K.In base → base.Ns mainGlobals mg → FnG P w K mg base CX0 13 fa fd ["_law_script"] (spLaw K) := by
  have e := hfa.symm.trans (PySem.W.mg_of X G a_law)
  cases e
  have MG : ∀ {x : Str} {v : Value}, PySem.W.nsIn K mainGlobals x = some (some v) → mg x = some v := fun e => PySem.W.mg_of X G e
  have MN : ∀ {x : Str}, PySem.W.nsIn K mainGlobals x = some none → mg x = none := fun e => PySem.W.mg_none_of X G e
  have B : Bl mg := ⟨MN n_int, MN n_len, MN n_isinstance, MN n_str, MN n_range, MN n_max, MN n_min, MN n_list, MN n_repr, MN n_enumerate, MN n_tuple, MN n_sorted, MN n_bool, MN n_dict, MN n_set, MN n_ValueError⟩
  have BF : K25F.Bl mg := ⟨MN n_int, MN n_len, MN n_isinstance, MN n_str, MN n_range, MN n_max, MN n_min, MN n_list, MN n_repr, MN n_enumerate, MN n_tuple, MN n_sorted, MN n_bool, MN n_dict, MN n_set, MN n_ValueError⟩
  have F_is_whole := fun_mk (st := s_is_whole) l_is_whole c_is_whole k_is_whole
  have b_is_whole := F_is_whole.binds (ps := ["value"]) fun _ _ _ _ _ _ us hl => match us, hl with | [_], _ => rfl
  have F_is_within := fun_mk (st := s_is_within) l_is_within c_is_within k_is_within
  have b_is_within := F_is_within.binds (ps := ["value", "least", "most"]) fun _ _ _ _ _ _ us hl => match us, hl with | [_, _, _], _ => rfl
  have F_Fates__count_operation := fun_mk (st := s_Fates__count_operation) l_Fates__count_operation c_Fates__count_operation k_Fates__count_operation
  have b_Fates__count_operation := F_Fates__count_operation.binds (ps := ["self"]) fun _ _ _ _ _ _ us hl => match us, hl with | [_], _ => rfl
  have F_Fates_is_transaction := fun_mk (st := s_Fates_is_transaction) l_Fates_is_transaction c_Fates_is_transaction k_Fates_is_transaction
  have b_Fates_is_transaction := F_Fates_is_transaction.binds (ps := ["self", "number"]) fun _ _ _ _ _ _ us hl => match us, hl with | [_, _], _ => rfl
  have F_Fates__check_known := fun_mk (st := s_Fates__check_known) l_Fates__check_known c_Fates__check_known k_Fates__check_known
  have b_Fates__check_known := F_Fates__check_known.binds (ps := ["self", "number"]) fun _ _ _ _ _ _ us hl => match us, hl with | [_, _], _ => rfl
  have F_Fates__check_running := fun_mk (st := s_Fates__check_running) l_Fates__check_running c_Fates__check_running k_Fates__check_running
  have b_Fates__check_running := F_Fates__check_running.binds (ps := ["self", "number"]) fun _ _ _ _ _ _ us hl => match us, hl with | [_, _], _ => rfl
  have F_Part___init__ := fun_mk (st := s_Part___init__) l_Part___init__ c_Part___init__ k_Part___init__
  have b_Part___init__ := F_Part___init__.binds (ps := ["self", "holder", "outer"]) fun _ _ _ _ _ _ us hl => match us, hl with | [_, _, _], _ => rfl
  have F_Fates__open_part := fun_mk (st := s_Fates__open_part) l_Fates__open_part c_Fates__open_part k_Fates__open_part
  have b_Fates__open_part := F_Fates__open_part.binds (ps := ["self", "number", "outer"]) fun _ _ _ _ _ _ us hl => match us, hl with | [_, _, _], _ => rfl
  have F_Fates_begin := fun_mk (st := s_Fates_begin) l_Fates_begin c_Fates_begin k_Fates_begin
  have b_Fates_begin := F_Fates_begin.binds (ps := ["self"]) fun _ _ _ _ _ _ us hl => match us, hl with | [_], _ => rfl
  have F_Fates__end_part := fun_mk (st := s_Fates__end_part) l_Fates__end_part c_Fates__end_part k_Fates__end_part
  have b_Fates__end_part := F_Fates__end_part.binds (ps := ["self", "part", "outcome"]) fun _ _ _ _ _ _ us hl => match us, hl with | [_, _, _], _ => rfl
  have F_Fates__end_transaction := fun_mk (st := s_Fates__end_transaction) l_Fates__end_transaction c_Fates__end_transaction k_Fates__end_transaction
  have b_Fates__end_transaction := F_Fates__end_transaction.binds (ps := ["self", "number", "state", "outcome"]) fun _ _ _ _ _ _ us hl => match us, hl with | [_, _, _, _], _ => rfl
  have F_Fates_abort := fun_mk (st := s_Fates_abort) l_Fates_abort c_Fates_abort k_Fates_abort
  have b_Fates_abort := F_Fates_abort.binds (ps := ["self", "number"]) fun _ _ _ _ _ _ us hl => match us, hl with | [_, _], _ => rfl
  have F_Fates___init__ := fun_mk (st := s_Fates___init__) l_Fates___init__ c_Fates___init__ k_Fates___init__
  have b_Fates___init__ := F_Fates___init__.binds (ps := ["self"]) fun _ _ _ _ _ _ us hl => match us, hl with | [_], _ => rfl
  have F_Fates_is_part := fun_mk (st := s_Fates_is_part) l_Fates_is_part c_Fates_is_part k_Fates_is_part
  have b_Fates_is_part := F_Fates_is_part.binds (ps := ["self", "part"]) fun _ _ _ _ _ _ us hl => match us, hl with | [_, _], _ => rfl
  have F_Fates__check_part := fun_mk (st := s_Fates__check_part) l_Fates__check_part c_Fates__check_part k_Fates__check_part
  have b_Fates__check_part := F_Fates__check_part.binds (ps := ["self", "part"]) fun _ _ _ _ _ _ us hl => match us, hl with | [_, _], _ => rfl
  have F_Fates_transaction := fun_mk (st := s_Fates_transaction) l_Fates_transaction c_Fates_transaction k_Fates_transaction
  have b_Fates_transaction := F_Fates_transaction.binds (ps := ["self", "part"]) fun _ _ _ _ _ _ us hl => match us, hl with | [_, _], _ => rfl
  have F_Fates_root := fun_mk (st := s_Fates_root) l_Fates_root c_Fates_root k_Fates_root
  have b_Fates_root := F_Fates_root.binds (ps := ["self", "part"]) fun _ _ _ _ _ _ us hl => match us, hl with | [_, _], _ => rfl
  have F_Fates_fate := fun_mk (st := s_Fates_fate) l_Fates_fate c_Fates_fate k_Fates_fate
  have b_Fates_fate := F_Fates_fate.binds (ps := ["self", "part"]) fun _ _ _ _ _ _ us hl => match us, hl with | [_, _], _ => rfl
  have F_Row___init__ := fun_mk (st := s_Row___init__) l_Row___init__ c_Row___init__ k_Row___init__
  have b_Row___init__ := F_Row___init__.binds (ps := ["self", "value"]) fun _ _ _ _ _ _ us hl => match us, hl with | [_, _], _ => rfl
  have F_Row__check_left := fun_mk (st := s_Row__check_left) l_Row__check_left c_Row__check_left k_Row__check_left
  have b_Row__check_left := F_Row__check_left.binds (ps := ["self", "number"]) fun _ _ _ _ _ _ us hl => match us, hl with | [_, _], _ => rfl
  have F_Row___getitem__ := fun_mk (st := s_Row___getitem__) l_Row___getitem__ c_Row___getitem__ k_Row___getitem__
  have b_Row___getitem__ := F_Row___getitem__.binds (ps := ["self", "number"]) fun _ _ _ _ _ _ us hl => match us, hl with | [_, _], _ => rfl
  have F_Row_mark := fun_mk (st := s_Row_mark) l_Row_mark c_Row_mark k_Row_mark
  have b_Row_mark := F_Row_mark.binds (ps := ["self", "number"]) fun _ _ _ _ _ _ us hl => match us, hl with | [_, _], _ => rfl
  have F_Row_set_mark := fun_mk (st := s_Row_set_mark) l_Row_set_mark c_Row_set_mark k_Row_set_mark
  have b_Row_set_mark := F_Row_set_mark.binds (ps := ["self", "number", "mark"]) fun _ _ _ _ _ _ us hl => match us, hl with | [_, _, _], _ => rfl
  have F_Row_remove := fun_mk (st := s_Row_remove) l_Row_remove c_Row_remove k_Row_remove
  have b_Row_remove := F_Row_remove.binds (ps := ["self", "number"]) fun _ _ _ _ _ _ us hl => match us, hl with | [_, _], _ => rfl
  have F_Row_make := fun_mk (st := s_Row_make) l_Row_make c_Row_make k_Row_make
  have b_Row_make := F_Row_make.binds (ps := ["self", "value", "part", "mode"]) fun _ _ _ _ _ _ us hl => match us, hl with | [_, _, _, _], _ => rfl
  have F_Row_kept := fun_mk (st := s_Row_kept) l_Row_kept c_Row_kept k_Row_kept
  have b_Row_kept := F_Row_kept.binds (ps := ["self"]) fun _ _ _ _ _ _ us hl => match us, hl with | [_], _ => rfl
  have F_Row__fate := fun_mk (st := s_Row__fate) l_Row__fate c_Row__fate k_Row__fate
  have b_Row__fate := F_Row__fate.binds (ps := ["self", "number", "fates"]) fun _ _ _ _ _ _ us hl => match us, hl with | [_, _, _], _ => rfl
  have F_Row_standing := fun_mk (st := s_Row_standing) l_Row_standing c_Row_standing k_Row_standing
  have b_Row_standing := F_Row_standing.binds (ps := ["self", "fates"]) fun _ _ _ _ _ _ us hl => match us, hl with | [_, _], _ => rfl
  have F_Row_base := fun_mk (st := s_Row_base) l_Row_base c_Row_base k_Row_base
  have b_Row_base := F_Row_base.binds (ps := ["self", "fates"]) fun _ _ _ _ _ _ us hl => match us, hl with | [_, _], _ => rfl
  have F_Row_newest := fun_mk (st := s_Row_newest) l_Row_newest c_Row_newest k_Row_newest
  have b_Row_newest := F_Row_newest.binds (ps := ["self", "fates"]) fun _ _ _ _ _ _ us hl => match us, hl with | [_, _], _ => rfl
  have F_Row_changer := fun_mk (st := s_Row_changer) l_Row_changer c_Row_changer k_Row_changer
  have b_Row_changer := F_Row_changer.binds (ps := ["self", "fates"]) fun _ _ _ _ _ _ us hl => match us, hl with | [_, _], _ => rfl
  have F__law_tape := fun_mk (st := s__law_tape) l__law_tape c__law_tape k__law_tape
  have b__law_tape := F__law_tape.binds (ps := ["_law_script", "_law_start"]) fun _ _ _ _ _ _ us hl => match us, hl with | [_, _], _ => rfl
  have F__law_pick := fun_mk (st := s__law_pick) l__law_pick c__law_pick k__law_pick
  have b__law_pick := F__law_pick.binds (ps := ["_law_tape_here", "_law_many"]) fun _ _ _ _ _ _ us hl => match us, hl with | [_, _], _ => rfl
  have F__law_one_of := fun_mk (st := s__law_one_of) l__law_one_of c__law_one_of k__law_one_of
  have b__law_one_of := F__law_one_of.binds (ps := ["_law_tape_here", "_law_items"]) fun _ _ _ _ _ _ us hl => match us, hl with | [_, _], _ => rfl
  have F__law_any := fun_mk (st := s__law_any) l__law_any c__law_any k__law_any
  have b__law_any := F__law_any.binds (ps := ["_law_tape_here"]) fun _ _ _ _ _ _ us hl => match us, hl with | [_], _ => rfl
  have F__law_asked := fun_mk (st := s__law_asked) l__law_asked c__law_asked k__law_asked
  have b__law_asked := F__law_asked.binds (ps := ["_law_row", "_law_at", "_law_item"]) fun _ _ _ _ _ _ us hl => match us, hl with | [_, _, _], _ => rfl
  have F__law_refused := fun_mk (st := s__law_refused) l__law_refused c__law_refused k__law_refused
  have b__law_refused := F__law_refused.binds (ps := ["_law_row", "_law_at", "_law_item"]) fun _ _ _ _ _ _ us hl => match us, hl with | [_, _, _], _ => rfl
  have F__law_named_right := fun_mk (st := s__law_named_right) l__law_named_right c__law_named_right k__law_named_right
  have b__law_named_right := F__law_named_right.binds (ps := []) fun _ _ _ _ _ _ us hl => match us, hl with | [], _ => rfl
  have F_law := fun_mk (st := s_law) l_law c_law k_law
  have b_law := F_law.binds (ps := ["_law_script"]) fun _ _ _ _ _ _ us hl => match us, hl with | [_], _ => rfl
  have FCC : FC K C_Fates := ⟨⟨cls_Fates_pg, cls_Fates_hd, cls_Fates_po, cls_Fates_sa⟩, na_Fates_0, na_Fates_1, na_Fates_2, na_Fates_3, na_Fates_4, na_Fates_5⟩
  have PCC : PC K C_Part := ⟨⟨cls_Part_pg, cls_Part_hd, cls_Part_po, cls_Part_sa⟩, na_Part_0, na_Part_1, na_Part_2, na_Part_3, na_Part_4⟩
  have MC : RwC K C_Row := ⟨⟨⟨cls_Row_pg, cls_Row_hd, cls_Row_po, cls_Row_sa⟩, m_ty, m_ha, m_hn, m_ht, m_hm⟩, na_Row_0, na_Row_1, na_Row_2⟩
  refine ⟨PySem.W.fnOf "law" "law" (defArgs s_law) (defBody s_law) (defScope s_law) .none kV_law dc_law pm_law an_law cd_law ct_law, fun s v => .of_eq rfl, fun base _ _ => ?_⟩
  have D_is_whole : Ce P w K mg base CX0 1 "is_whole" ["value"] (fun vs H Q _ => ∃ x d, vs = [x] ∧ Dx K H x d ∧ Q (.bl (K25F.isI d)) H) := ⟨_, _, MG a_is_whole, k_is_whole, b_is_whole, K25F.ok_whole F_is_whole BF⟩
  have D_is_within : Ce P w K mg base CX0 2 "is_within" ["value", "least", "most"] (spWi K) := ⟨_, _, MG a_is_within, k_is_within, b_is_within, K25F.ok_within F_is_within (ceM D_is_whole (by decide))⟩
  have o_Fates_count_operation : FnG P w K mg base CX0 1 f_Fates__count_operation _ ["self"] (spCnt C_Fates C_Part []) := K25F.ok_count F_Fates__count_operation FCC mo_nil
  have M_Fates__count_operation : Cm P w K mg base CX0 1 C_Fates "_count_operation" ["self"] (spCnt C_Fates C_Part []) := ⟨_, _, FCC.cls, ⟨a_Fates__count_operation, i_Fates__count_operation, k_Fates__count_operation⟩, b_Fates__count_operation, o_Fates_count_operation⟩
  have o_Fates_is_transaction : FnG P w K mg base CX0 3 f_Fates_is_transaction _ ["self", "number"] (K25F.spIsT K C_Fates C_Part [] fun S => S.states.length) := K25F.ok_isT F_Fates_is_transaction BF FCC (ceM D_is_within (by decide))
  have M_Fates_is_transaction : Cm P w K mg base CX0 3 C_Fates "is_transaction" ["self", "number"] (K25F.spIsT K C_Fates C_Part [] fun S => S.states.length) := ⟨_, _, FCC.cls, ⟨a_Fates_is_transaction, i_Fates_is_transaction, k_Fates_is_transaction⟩, b_Fates_is_transaction, o_Fates_is_transaction⟩
  have o_Fates_check_known : FnG P w K mg base (L2.CX P w) 4 f_Fates__check_known _ ["self", "number"] (spAsk K C_Fates C_Part [] (⟨C_UnknownTransaction, C_Ended, C_UnknownTransaction, C_UnknownTransaction, C_UnknownTransaction, C_TooMany, C_UnknownPart⟩ : EA) FS.kn) := K25F.ok_known F_Fates__check_known mo_nil (cmM M_Fates_is_transaction (by decide)) (E_UnknownTransaction.er base)
  have M_Fates__check_known : Cm P w K mg base (L2.CX P w) 4 C_Fates "_check_known" ["self", "number"] (spAsk K C_Fates C_Part [] (⟨C_UnknownTransaction, C_Ended, C_UnknownTransaction, C_UnknownTransaction, C_UnknownTransaction, C_TooMany, C_UnknownPart⟩ : EA) FS.kn) := ⟨_, _, FCC.cls, ⟨a_Fates__check_known, i_Fates__check_known, k_Fates__check_known⟩, b_Fates__check_known, o_Fates_check_known⟩
  have o_Fates_check_running : FnG P w K mg base (L2.CX P w) 5 f_Fates__check_running _ ["self", "number"] (spAsk K C_Fates C_Part [] (⟨C_UnknownTransaction, C_Ended, C_UnknownTransaction, C_UnknownTransaction, C_UnknownTransaction, C_TooMany, C_UnknownPart⟩ : EA) FS.ru) := K25F.ok_running F_Fates__check_running FCC mo_nil (cmM M_Fates__check_known (by decide)) (E_Ended.er base)
  have M_Fates__check_running : Cm P w K mg base (L2.CX P w) 5 C_Fates "_check_running" ["self", "number"] (spAsk K C_Fates C_Part [] (⟨C_UnknownTransaction, C_Ended, C_UnknownTransaction, C_UnknownTransaction, C_UnknownTransaction, C_TooMany, C_UnknownPart⟩ : EA) FS.ru) := ⟨_, _, FCC.cls, ⟨a_Fates__check_running, i_Fates__check_running, k_Fates__check_running⟩, b_Fates__check_running, o_Fates_check_running⟩
  have D_Part : Cn P w K mg base CX0 1 "Part" C_Part ["self", "holder", "outer"] (spPartI C_Part) := ⟨_, _, MG g_Part, ⟨mk_Part, a_Part___init__, i_Part___init__, kp_Part⟩, b_Part___init__, K25F.ok_part F_Part___init__ PCC⟩
  have o_Fates_open_part : FnG P w K mg base CX0 3 f_Fates__open_part _ ["self", "number", "outer"] (spOpen C_Fates C_Part []) := K25F.ok_openp F_Fates__open_part BF FCC mo_nil (cnM D_Part (by decide))
  have M_Fates__open_part : Cm P w K mg base CX0 3 C_Fates "_open_part" ["self", "number", "outer"] (spOpen C_Fates C_Part []) := ⟨_, _, FCC.cls, ⟨a_Fates__open_part, i_Fates__open_part, k_Fates__open_part⟩, b_Fates__open_part, o_Fates_open_part⟩
  have o_Fates_begin : FnG P w K mg base (L2.CX P w) 5 f_Fates_begin _ ["self"] (spBegin C_Fates C_Part [] (⟨C_UnknownTransaction, C_Ended, C_UnknownTransaction, C_UnknownTransaction, C_UnknownTransaction, C_TooMany, C_UnknownPart⟩ : EA)) := K25F.ok_begin F_Fates_begin BF FCC mo_nil (MG g_RUN) (cmM M_Fates__count_operation (by decide)) (cmM M_Fates__open_part (by decide)) (E_TooMany.er base)
  have M_Fates_begin : Cm P w K mg base (L2.CX P w) 5 C_Fates "begin" ["self"] (spBegin C_Fates C_Part [] (⟨C_UnknownTransaction, C_Ended, C_UnknownTransaction, C_UnknownTransaction, C_UnknownTransaction, C_TooMany, C_UnknownPart⟩ : EA)) := ⟨_, _, FCC.cls, ⟨a_Fates_begin, i_Fates_begin, k_Fates_begin⟩, b_Fates_begin, o_Fates_begin⟩
  have o_Fates_end_part : FnG P w K mg base CX0 1 f_Fates__end_part _ ["self", "part", "outcome"] (spEndP C_Fates C_Part []) := K25F.ok_endp F_Fates__end_part FCC PCC
  have M_Fates__end_part : Cm P w K mg base CX0 1 C_Fates "_end_part" ["self", "part", "outcome"] (spEndP C_Fates C_Part []) := ⟨_, _, FCC.cls, ⟨a_Fates__end_part, i_Fates__end_part, k_Fates__end_part⟩, b_Fates__end_part, o_Fates_end_part⟩
  have o_Fates_end_transaction : FnG P w K mg base CX0 3 f_Fates__end_transaction _ ["self", "number", "state", "outcome"] (spEndT C_Fates C_Part []) := K25F.ok_endt F_Fates__end_transaction FCC mo_nil (cmM M_Fates__end_part (by decide))
  have M_Fates__end_transaction : Cm P w K mg base CX0 3 C_Fates "_end_transaction" ["self", "number", "state", "outcome"] (spEndT C_Fates C_Part []) := ⟨_, _, FCC.cls, ⟨a_Fates__end_transaction, i_Fates__end_transaction, k_Fates__end_transaction⟩, b_Fates__end_transaction, o_Fates_end_transaction⟩
  have o_Fates_abort : FnG P w K mg base (L2.CX P w) 6 f_Fates_abort _ ["self", "number"] (spNum K C_Fates C_Part [] (⟨C_UnknownTransaction, C_Ended, C_UnknownTransaction, C_UnknownTransaction, C_UnknownTransaction, C_TooMany, C_UnknownPart⟩ : EA) FS.ru FS.abo fun _ _ => .non) := K25F.ok_abort F_Fates_abort FCC mo_nil (cmM M_Fates__check_running (by decide)) (cmM M_Fates__count_operation (by decide)) (cmM M_Fates__end_transaction (by decide))
  have M_Fates_abort : Cm P w K mg base (L2.CX P w) 6 C_Fates "abort" ["self", "number"] (spNum K C_Fates C_Part [] (⟨C_UnknownTransaction, C_Ended, C_UnknownTransaction, C_UnknownTransaction, C_UnknownTransaction, C_TooMany, C_UnknownPart⟩ : EA) FS.ru FS.abo fun _ _ => .non) := ⟨_, _, FCC.cls, ⟨a_Fates_abort, i_Fates_abort, k_Fates_abort⟩, b_Fates_abort, o_Fates_abort⟩
  have D_Fates : Cn P w K mg base CX0 1 "Fates" C_Fates ["self"] (spFInit C_Fates C_Part) := ⟨_, _, MG g_Fates, ⟨mk_Fates, a_Fates___init__, i_Fates___init__, kp_Fates⟩, b_Fates___init__, K25F.ok_finit F_Fates___init__ FCC⟩
  have o_Fates_is_part : FnG P w K mg base CX0 3 f_Fates_is_part _ ["self", "part"] (K25F.spIsT K C_Fates C_Part [] fun S => S.parts.length) := K25F.ok_isP F_Fates_is_part BF FCC (ceM D_is_within (by decide))
  have M_Fates_is_part : Cm P w K mg base CX0 3 C_Fates "is_part" ["self", "part"] (K25F.spIsT K C_Fates C_Part [] fun S => S.parts.length) := ⟨_, _, FCC.cls, ⟨a_Fates_is_part, i_Fates_is_part, k_Fates_is_part⟩, b_Fates_is_part, o_Fates_is_part⟩
  have o_Fates_check_part : FnG P w K mg base (L2.CX P w) 4 f_Fates__check_part _ ["self", "part"] (spAsk K C_Fates C_Part [] (⟨C_UnknownTransaction, C_Ended, C_UnknownTransaction, C_UnknownTransaction, C_UnknownTransaction, C_TooMany, C_UnknownPart⟩ : EA) FS.kp) := K25F.ok_checkpart F_Fates__check_part mo_nil (cmM M_Fates_is_part (by decide)) (E_UnknownPart.er base)
  have M_Fates__check_part : Cm P w K mg base (L2.CX P w) 4 C_Fates "_check_part" ["self", "part"] (spAsk K C_Fates C_Part [] (⟨C_UnknownTransaction, C_Ended, C_UnknownTransaction, C_UnknownTransaction, C_UnknownTransaction, C_TooMany, C_UnknownPart⟩ : EA) FS.kp) := ⟨_, _, FCC.cls, ⟨a_Fates__check_part, i_Fates__check_part, k_Fates__check_part⟩, b_Fates__check_part, o_Fates_check_part⟩
  have o_Fates_transaction : FnG P w K mg base (L2.CX P w) 5 f_Fates_transaction _ ["self", "part"] (spPt K C_Fates C_Part [] (⟨C_UnknownTransaction, C_Ended, C_UnknownTransaction, C_UnknownTransaction, C_UnknownTransaction, C_TooMany, C_UnknownPart⟩ : EA) fun S q => .int (S.hld q)) := K25F.ok_transaction F_Fates_transaction FCC PCC mo_nil (cmM M_Fates__check_part (by decide))
  have M_Fates_transaction : Cm P w K mg base (L2.CX P w) 5 C_Fates "transaction" ["self", "part"] (spPt K C_Fates C_Part [] (⟨C_UnknownTransaction, C_Ended, C_UnknownTransaction, C_UnknownTransaction, C_UnknownTransaction, C_TooMany, C_UnknownPart⟩ : EA) fun S q => .int (S.hld q)) := ⟨_, _, FCC.cls, ⟨a_Fates_transaction, i_Fates_transaction, k_Fates_transaction⟩, b_Fates_transaction, o_Fates_transaction⟩
  have o_Fates_root : FnG P w K mg base (L2.CX P w) 5 f_Fates_root _ ["self", "part"] (spPt K C_Fates C_Part [] (⟨C_UnknownTransaction, C_Ended, C_UnknownTransaction, C_UnknownTransaction, C_UnknownTransaction, C_TooMany, C_UnknownPart⟩ : EA) fun S q => .int (S.root q)) := K25F.ok_root F_Fates_root FCC PCC mo_nil (cmM M_Fates__check_part (by decide))
  have M_Fates_root : Cm P w K mg base (L2.CX P w) 5 C_Fates "root" ["self", "part"] (spPt K C_Fates C_Part [] (⟨C_UnknownTransaction, C_Ended, C_UnknownTransaction, C_UnknownTransaction, C_UnknownTransaction, C_TooMany, C_UnknownPart⟩ : EA) fun S q => .int (S.root q)) := ⟨_, _, FCC.cls, ⟨a_Fates_root, i_Fates_root, k_Fates_root⟩, b_Fates_root, o_Fates_root⟩
  have o_Fates_fate : FnG P w K mg base (L2.CX P w) 6 f_Fates_fate _ ["self", "part"] (spPt K C_Fates C_Part [] (⟨C_UnknownTransaction, C_Ended, C_UnknownTransaction, C_UnknownTransaction, C_UnknownTransaction, C_TooMany, C_UnknownPart⟩ : EA) fun S q => .str (S.out (S.root q))) := K25F.ok_fate F_Fates_fate FCC PCC mo_nil (cmM M_Fates_root (by decide))
  have M_Fates_fate : Cm P w K mg base (L2.CX P w) 6 C_Fates "fate" ["self", "part"] (spPt K C_Fates C_Part [] (⟨C_UnknownTransaction, C_Ended, C_UnknownTransaction, C_UnknownTransaction, C_UnknownTransaction, C_TooMany, C_UnknownPart⟩ : EA) fun S q => .str (S.out (S.root q))) := ⟨_, _, FCC.cls, ⟨a_Fates_fate, i_Fates_fate, k_Fates_fate⟩, b_Fates_fate, o_Fates_fate⟩
  have okn := ok_new (P := P) (w := w) (mg := mg) (base := base) F_Row___init__ MC
  have D_Row : Cn P w K mg base CX0 1 "Row" C_Row ["self", "value"] (spNewR C_Row) := ⟨_, _, MG g_Row, ⟨mk_Row, a_Row___init__, i_Row___init__, kp_Row⟩, b_Row___init__, okn⟩
  have K_Row : CnK P w K mg base CX0 1 "Row" C_Row ["self", "value"] "value" (spNewR C_Row) := ⟨_, _, MG g_Row, ⟨mk_Row, a_Row___init__, i_Row___init__, kp_Row⟩, ⟨fun s us v h => match us, h with | [_], _ => .of_eq rfl⟩, okn⟩
  have o_Row_check_left : FnG P w K mg base (L2.CX P w) 5 f_Row__check_left _ ["self", "number"] (spLeftX K C_Row C_UnknownVersion) := ok_left F_Row__check_left MC (E_UnknownVersion.er base) D_is_whole
  have M_Row__check_left : Cm P w K mg base (L2.CX P w) 5 C_Row "_check_left" ["self", "number"] (spLeftX K C_Row C_UnknownVersion) := ⟨_, _, MC.oc.cls, ⟨a_Row__check_left, i_Row__check_left, k_Row__check_left⟩, b_Row__check_left, o_Row_check_left⟩
  have GET_Row : OwnM P w K mg base (L2.CX P w) 6 C_Row "__getitem__" ["self", "number"] (spGetX K C_Row C_UnknownVersion) := ⟨_, _, a_Row___getitem__, i_Row___getitem__, fn0, b_Row___getitem__, ok_get F_Row___getitem__ MC M_Row__check_left⟩
  have o_Row_mark : FnG P w K mg base (L2.CX P w) 6 f_Row_mark _ ["self", "number"] (spMarkX K C_Row C_UnknownVersion) := ok_mark F_Row_mark MC M_Row__check_left
  have M_Row_mark : Cm P w K mg base (L2.CX P w) 6 C_Row "mark" ["self", "number"] (spMarkX K C_Row C_UnknownVersion) := ⟨_, _, MC.oc.cls, ⟨a_Row_mark, i_Row_mark, k_Row_mark⟩, b_Row_mark, o_Row_mark⟩
  have K_Row_mark : CmK P w K mg base (L2.CX P w) 6 C_Row "mark" ["self", "number"] "number" (spMarkX K C_Row C_UnknownVersion) := ⟨_, _, MC.oc.cls, ⟨a_Row_mark, i_Row_mark, k_Row_mark⟩, ⟨fun s us v h => match us, h with | [_], _ => .of_eq rfl⟩, o_Row_mark⟩
  have o_Row_set_mark : FnG P w K mg base (L2.CX P w) 6 f_Row_set_mark _ ["self", "number", "mark"] (spSetX K C_Row C_UnknownVersion) := ok_set F_Row_set_mark MC M_Row__check_left
  have M_Row_set_mark : Cm P w K mg base (L2.CX P w) 6 C_Row "set_mark" ["self", "number", "mark"] (spSetX K C_Row C_UnknownVersion) := ⟨_, _, MC.oc.cls, ⟨a_Row_set_mark, i_Row_set_mark, k_Row_set_mark⟩, b_Row_set_mark, o_Row_set_mark⟩
  have KS_Row_set_mark : CmKs P w K mg base (L2.CX P w) 6 C_Row "set_mark" ["self", "number", "mark"] ["number", "mark"] (spSetX K C_Row C_UnknownVersion) := ⟨_, _, MC.oc.cls, ⟨a_Row_set_mark, i_Row_set_mark, k_Row_set_mark⟩, ⟨fun s u ws h => match ws, h with | [_, _], _ => .of_eq rfl⟩, o_Row_set_mark⟩
  have o_Row_remove : FnG P w K mg base (L2.CX P w) 6 f_Row_remove _ ["self", "number"] (spRemX K C_Row C_UnknownVersion) := ok_rem F_Row_remove MC M_Row__check_left
  have M_Row_remove : Cm P w K mg base (L2.CX P w) 6 C_Row "remove" ["self", "number"] (spRemX K C_Row C_UnknownVersion) := ⟨_, _, MC.oc.cls, ⟨a_Row_remove, i_Row_remove, k_Row_remove⟩, b_Row_remove, o_Row_remove⟩
  have o_Row_make : FnG P w K mg base CX0 1 f_Row_make _ ["self", "value", "part", "mode"] (spMake K C_Row) := ok_make F_Row_make MC
  have M_Row_make : Cm P w K mg base CX0 1 C_Row "make" ["self", "value", "part", "mode"] (spMake K C_Row) := ⟨_, _, MC.oc.cls, ⟨a_Row_make, i_Row_make, k_Row_make⟩, b_Row_make, o_Row_make⟩
  have KS_Row_make : CmKs P w K mg base CX0 1 C_Row "make" ["self", "value", "part", "mode"] ["value", "part", "mode"] (spMake K C_Row) := ⟨_, _, MC.oc.cls, ⟨a_Row_make, i_Row_make, k_Row_make⟩, ⟨fun s u ws h => match ws, h with | [_, _, _], _ => .of_eq rfl⟩, o_Row_make⟩
  have o_Row_kept : FnG P w K mg base CX0 1 f_Row_kept _ ["self"] (spKept C_Row) := ok_kept F_Row_kept B MC
  have M_Row_kept : Cm P w K mg base CX0 1 C_Row "kept" ["self"] (spKept C_Row) := ⟨_, _, MC.oc.cls, ⟨a_Row_kept, i_Row_kept, k_Row_kept⟩, b_Row_kept, o_Row_kept⟩
  have o_Row_fate : FnG P w K mg base CX0 8 f_Row__fate _ ["self", "number", "fates"] (spFateR C_Fates C_Part C_Row) := quietX (ok_rfate F_Row__fate MC (cmM M_Fates_fate (by decide)))
  have M_Row__fate : Cm P w K mg base CX0 8 C_Row "_fate" ["self", "number", "fates"] (spFateR C_Fates C_Part C_Row) := ⟨_, _, MC.oc.cls, ⟨a_Row__fate, i_Row__fate, k_Row__fate⟩, b_Row__fate, o_Row_fate⟩
  have o_Row_standing : FnG P w K mg base CX0 9 f_Row_standing _ ["self", "fates"] (spRF C_Fates C_Part C_Row zStd) := ok_stand F_Row_standing M_Row_kept M_Row__fate
  have M_Row_standing : Cm P w K mg base CX0 9 C_Row "standing" ["self", "fates"] (spRF C_Fates C_Part C_Row zStd) := ⟨_, _, MC.oc.cls, ⟨a_Row_standing, i_Row_standing, k_Row_standing⟩, b_Row_standing, o_Row_standing⟩
  have K_Row_standing : CmK P w K mg base CX0 9 C_Row "standing" ["self", "fates"] "fates" (spRF C_Fates C_Part C_Row zStd) := ⟨_, _, MC.oc.cls, ⟨a_Row_standing, i_Row_standing, k_Row_standing⟩, ⟨fun s us v h => match us, h with | [_], _ => .of_eq rfl⟩, o_Row_standing⟩
  have o_Row_base : FnG P w K mg base CX0 9 f_Row_base _ ["self", "fates"] (spRF C_Fates C_Part C_Row (zInt fun S L => .int (S.bse L))) := ok_base F_Row_base B M_Row_kept M_Row__fate
  have M_Row_base : Cm P w K mg base CX0 9 C_Row "base" ["self", "fates"] (spRF C_Fates C_Part C_Row (zInt fun S L => .int (S.bse L))) := ⟨_, _, MC.oc.cls, ⟨a_Row_base, i_Row_base, k_Row_base⟩, b_Row_base, o_Row_base⟩
  have K_Row_base : CmK P w K mg base CX0 9 C_Row "base" ["self", "fates"] "fates" (spRF C_Fates C_Part C_Row (zInt fun S L => .int (S.bse L))) := ⟨_, _, MC.oc.cls, ⟨a_Row_base, i_Row_base, k_Row_base⟩, ⟨fun s us v h => match us, h with | [_], _ => .of_eq rfl⟩, o_Row_base⟩
  have o_Row_newest : FnG P w K mg base CX0 10 f_Row_newest _ ["self", "fates"] (spRF C_Fates C_Part C_Row (zInt fun S L => .int (S.nwst L))) := ok_newest F_Row_newest B M_Row_standing
  have M_Row_newest : Cm P w K mg base CX0 10 C_Row "newest" ["self", "fates"] (spRF C_Fates C_Part C_Row (zInt fun S L => .int (S.nwst L))) := ⟨_, _, MC.oc.cls, ⟨a_Row_newest, i_Row_newest, k_Row_newest⟩, b_Row_newest, o_Row_newest⟩
  have K_Row_newest : CmK P w K mg base CX0 10 C_Row "newest" ["self", "fates"] "fates" (spRF C_Fates C_Part C_Row (zInt fun S L => .int (S.nwst L))) := ⟨_, _, MC.oc.cls, ⟨a_Row_newest, i_Row_newest, k_Row_newest⟩, ⟨fun s us v h => match us, h with | [_], _ => .of_eq rfl⟩, o_Row_newest⟩
  have o_Row_changer : FnG P w K mg base CX0 11 f_Row_changer _ ["self", "fates"] (spRF C_Fates C_Part C_Row (zInt FS.chg)) := quietX (ok_chg F_Row_changer MC M_Row_newest M_Row_base M_Fates_transaction)
  have M_Row_changer : Cm P w K mg base CX0 11 C_Row "changer" ["self", "fates"] (spRF C_Fates C_Part C_Row (zInt FS.chg)) := ⟨_, _, MC.oc.cls, ⟨a_Row_changer, i_Row_changer, k_Row_changer⟩, b_Row_changer, o_Row_changer⟩
  have K_Row_changer : CmK P w K mg base CX0 11 C_Row "changer" ["self", "fates"] "fates" (spRF C_Fates C_Part C_Row (zInt FS.chg)) := ⟨_, _, MC.oc.cls, ⟨a_Row_changer, i_Row_changer, k_Row_changer⟩, ⟨fun s us v h => match us, h with | [_], _ => .of_eq rfl⟩, o_Row_changer⟩
  have D__law_tape : Ce P w K mg base CX0 1 "_law_tape" ["_law_script", "_law_start"] (spTape K) := ⟨_, _, MG a__law_tape, k__law_tape, b__law_tape, ok_tape F__law_tape B⟩
  have D__law_pick : Ce P w K mg base CX0 1 "_law_pick" ["_law_tape_here", "_law_many"] spPick := ⟨_, _, MG a__law_pick, k__law_pick, b__law_pick, ok_pick F__law_pick B⟩
  have D__law_one_of : Ce P w K mg base CX0 2 "_law_one_of" ["_law_tape_here", "_law_items"] (spOne K) := ⟨_, _, MG a__law_one_of, k__law_one_of, b__law_one_of, ok_one F__law_one_of B D__law_pick⟩
  have D__law_any : Ce P w K mg base CX0 3 "_law_any" ["_law_tape_here"] (spAnyN K) := ⟨_, _, MG a__law_any, k__law_any, b__law_any, ok_any F__law_any D__law_one_of⟩
  have D__law_asked : Ce P w K mg base (L2.CX P w) 8 "_law_asked" ["_law_row", "_law_at", "_law_item"] (spAskX K C_Row C_UnknownVersion) := ⟨_, _, MG a__law_asked, k__law_asked, b__law_asked, ok_ask F__law_asked GET_Row M_Row_mark M_Row_set_mark M_Row_remove⟩
  have D__law_refused : Ce P w K mg base CX0 9 "_law_refused" ["_law_row", "_law_at", "_law_item"] (spRef K C_Row) := ⟨_, _, MG a__law_refused, k__law_refused, b__law_refused, ok_ref F__law_refused E_UnknownVersion.g D__law_asked E_UnknownVersion.xf E_UnknownVersion.no E_UnknownVersion.em⟩
  have D__law_named_right : Ce P w K mg base CX0 12 "_law_named_right" [] (fun vs _ Q _ => vs = [] ∧ ∀ H', Q (.bl true) H') := ⟨_, _, MG a__law_named_right, k__law_named_right, b__law_named_right, ok_named F__law_named_right B MC D_Fates K_Row M_Fates_begin M_Fates_abort KS_Row_make M_Row_make KS_Row_set_mark K_Row_mark GET_Row K_Row_standing M_Row_standing K_Row_base K_Row_newest K_Row_changer M_Row_changer M_Row_remove M_Row_kept⟩
  exact ok_law F_law B D__law_pick D__law_one_of D__law_tape D__law_any D_Fates D_Row M_Fates_begin M_Fates_abort M_Row_make M_Row_mark GET_Row M_Row_remove M_Row_kept D__law_refused D__law_named_right
end K25
open PySem PySem.W PyProof.Rows
set_option maxRecDepth 100000 in
set_option maxHeartbeats 0 in
theorem PySem.Challenge.cw_rowmarks_k25_versions_that_there_are_non_holds : PySem.Challenge.rw_rowmarks_k25_versions_that_there_are_non.Holds := by
  w_on; o_law; k_head; (case hw => w_witness2)
  k_fill
  refine Rm.walkG (l := PySem.Challenge.rw_rowmarks_k25_versions_that_there_are_non) (k := 13) rfl rfl ⟨rfl, by decide, by decide⟩ (fun w h Y => PySem.W.kIn_of Y) ?F
  case F =>
    intro w mg fa h KX G hmg
    refine' K25.all_mk (P := PySem.Challenge.pw_rowmarks_k25_versions_that_there_are_non) KX G hmg ?E_UnknownVersion ?E_UnknownTransaction ?E_UnknownPart ?E_Ended ?E_TooMany
      ?g_Fates ?cls_Fates_pg ?cls_Fates_hd ?cls_Fates_po ?cls_Fates_sa ?mk_Fates ?kp_Fates ?na_Fates_0 ?na_Fates_1 ?na_Fates_2 ?na_Fates_3 ?na_Fates_4 ?na_Fates_5 ?g_Part ?cls_Part_pg ?cls_Part_hd ?cls_Part_po ?cls_Part_sa ?mk_Part ?kp_Part ?na_Part_0 ?na_Part_1 ?na_Part_2 ?na_Part_3 ?na_Part_4 ?g_Row ?cls_Row_pg ?cls_Row_hd ?cls_Row_po ?cls_Row_sa ?mk_Row ?kp_Row ?na_Row_0 ?na_Row_1 ?na_Row_2 ?m_ty ?m_ha ?m_hn ?m_ht ?m_hm ?g_RUN
      ?a_is_whole ?l_is_whole ?c_is_whole ?k_is_whole ?a_is_within ?l_is_within ?c_is_within ?k_is_within ?a_Fates__count_operation ?i_Fates__count_operation ?l_Fates__count_operation ?c_Fates__count_operation ?k_Fates__count_operation ?a_Fates_is_transaction ?i_Fates_is_transaction ?l_Fates_is_transaction ?c_Fates_is_transaction ?k_Fates_is_transaction ?a_Fates__check_known ?i_Fates__check_known ?l_Fates__check_known ?c_Fates__check_known ?k_Fates__check_known ?a_Fates__check_running ?i_Fates__check_running ?l_Fates__check_running ?c_Fates__check_running ?k_Fates__check_running ?a_Part___init__ ?i_Part___init__ ?l_Part___init__ ?c_Part___init__ ?k_Part___init__ ?a_Fates__open_part ?i_Fates__open_part ?l_Fates__open_part ?c_Fates__open_part ?k_Fates__open_part ?a_Fates_begin ?i_Fates_begin ?l_Fates_begin ?c_Fates_begin ?k_Fates_begin ?a_Fates__end_part ?i_Fates__end_part ?l_Fates__end_part ?c_Fates__end_part ?k_Fates__end_part ?a_Fates__end_transaction ?i_Fates__end_transaction ?l_Fates__end_transaction ?c_Fates__end_transaction ?k_Fates__end_transaction ?a_Fates_abort ?i_Fates_abort ?l_Fates_abort ?c_Fates_abort ?k_Fates_abort ?a_Fates___init__ ?i_Fates___init__ ?l_Fates___init__ ?c_Fates___init__ ?k_Fates___init__ ?a_Fates_is_part ?i_Fates_is_part ?l_Fates_is_part ?c_Fates_is_part ?k_Fates_is_part ?a_Fates__check_part ?i_Fates__check_part ?l_Fates__check_part ?c_Fates__check_part ?k_Fates__check_part ?a_Fates_transaction ?i_Fates_transaction ?l_Fates_transaction ?c_Fates_transaction ?k_Fates_transaction ?a_Fates_root ?i_Fates_root ?l_Fates_root ?c_Fates_root ?k_Fates_root ?a_Fates_fate ?i_Fates_fate ?l_Fates_fate ?c_Fates_fate ?k_Fates_fate ?a_Row___init__ ?i_Row___init__ ?l_Row___init__ ?c_Row___init__ ?k_Row___init__ ?a_Row__check_left ?i_Row__check_left ?l_Row__check_left ?c_Row__check_left ?k_Row__check_left ?a_Row___getitem__ ?i_Row___getitem__ ?l_Row___getitem__ ?c_Row___getitem__ ?k_Row___getitem__ ?a_Row_mark ?i_Row_mark ?l_Row_mark ?c_Row_mark ?k_Row_mark ?a_Row_set_mark ?i_Row_set_mark ?l_Row_set_mark ?c_Row_set_mark ?k_Row_set_mark ?a_Row_remove ?i_Row_remove ?l_Row_remove ?c_Row_remove ?k_Row_remove ?a_Row_make ?i_Row_make ?l_Row_make ?c_Row_make ?k_Row_make ?a_Row_kept ?i_Row_kept ?l_Row_kept ?c_Row_kept ?k_Row_kept ?a_Row__fate ?i_Row__fate ?l_Row__fate ?c_Row__fate ?k_Row__fate ?a_Row_standing ?i_Row_standing ?l_Row_standing ?c_Row_standing ?k_Row_standing ?a_Row_base ?i_Row_base ?l_Row_base ?c_Row_base ?k_Row_base ?a_Row_newest ?i_Row_newest ?l_Row_newest ?c_Row_newest ?k_Row_newest ?a_Row_changer ?i_Row_changer ?l_Row_changer ?c_Row_changer ?k_Row_changer ?a__law_tape ?l__law_tape ?c__law_tape ?k__law_tape ?a__law_pick ?l__law_pick ?c__law_pick ?k__law_pick ?a__law_one_of ?l__law_one_of ?c__law_one_of ?k__law_one_of ?a__law_any ?l__law_any ?c__law_any ?k__law_any ?a__law_asked ?l__law_asked ?c__law_asked ?k__law_asked ?a__law_refused ?l__law_refused ?c__law_refused ?k__law_refused ?a__law_named_right ?l__law_named_right ?c__law_named_right ?k__law_named_right ?a_law ?l_law ?c_law ?k_law ?fn0 ?n_int ?n_len ?n_isinstance ?n_str ?n_range ?n_max ?n_min ?n_list ?n_repr ?n_enumerate ?n_tuple ?n_sorted ?n_bool ?n_dict ?n_set ?n_ValueError
    (case E_UnknownVersion =>
      refine' Rm.ef_mk (st := K25F.s_UnknownVersion___init__) KX G ?e_g ?e_l ?e_v ?e_t ?e_sa ?e_ga ?e_gg ?e_ex ?e_ty ?e_k ?e_hd ?e_no ?e_sub ?e_self ?e_sup ?e_any ?e_ha ?e_hn ?e_ht ?e_hm ?e_i ?e_it ?e_f ?e_c ?e_cd ?e_fi ?e_pf ?e_cc ?e_df ?htop ?n_super ?hb1 ?hb2 ?hfn
      (case e_g => k_is)
      (case e_l => k_is)
      (case e_v => decide +kernel)
      (case e_t => first | rfl | decide +kernel)
      (case e_sa => k_is)
      (case e_ga => k_is)
      (case e_gg => k_is)
      (case e_ex => k_is)
      (case e_ty => k_is)
      (case e_k => k_is)
      (case e_hd => k_is)
      (case e_no => k_is)
      (case e_sub => k_is)
      (case e_self => k_is)
      (case e_sup => ks_is)
      (case e_any => k_is)
      (case e_ha => k_is)
      (case e_hn => k_is)
      (case e_ht => k_is)
      (case e_hm => k_is)
      (case e_i => k_is)
      (case e_it => k_is)
      (case e_f => k_is)
      (case e_c => k_is)
      (case e_cd => k_is)
      (case e_fi => rfl)
      (case e_pf => first | rfl | decide +kernel)
      (case e_cc => k_is)
      (case e_df => rfl)
      (case htop => first | rfl | decide +kernel)
      (case n_super => k_is)
      (case hb1 => exact fun _ _ => .all fun us hl => match us, hl with | [_, _], _ => rfl)
      (case hb2 => exact ⟨fun s us w h => match us, h with | [_], _ => .of_eq rfl⟩)
      (case hfn => exact fun base ns T => Rm.fn_err (ars := []) T rfl rfl rfl rfl rfl rfl rfl ns (by first | rfl | decide +kernel) (by decide +kernel) (by decide +kernel) (by decide +kernel) (by decide +kernel) (pl := _) (fun env => rfl) (by decide +kernel) (by decide +kernel)))
    (case E_UnknownTransaction =>
      refine' Rm.ef_mk (st := K25F.s_UnknownTransaction___init__) KX G ?e_g ?e_l ?e_v ?e_t ?e_sa ?e_ga ?e_gg ?e_ex ?e_ty ?e_k ?e_hd ?e_no ?e_sub ?e_self ?e_sup ?e_any ?e_ha ?e_hn ?e_ht ?e_hm ?e_i ?e_it ?e_f ?e_c ?e_cd ?e_fi ?e_pf ?e_cc ?e_df ?htop ?n_super ?hb1 ?hb2 ?hfn
      (case e_g => k_is)
      (case e_l => k_is)
      (case e_v => decide +kernel)
      (case e_t => first | rfl | decide +kernel)
      (case e_sa => k_is)
      (case e_ga => k_is)
      (case e_gg => k_is)
      (case e_ex => k_is)
      (case e_ty => k_is)
      (case e_k => k_is)
      (case e_hd => k_is)
      (case e_no => k_is)
      (case e_sub => k_is)
      (case e_self => k_is)
      (case e_sup => ks_is)
      (case e_any => k_is)
      (case e_ha => k_is)
      (case e_hn => k_is)
      (case e_ht => k_is)
      (case e_hm => k_is)
      (case e_i => k_is)
      (case e_it => k_is)
      (case e_f => k_is)
      (case e_c => k_is)
      (case e_cd => k_is)
      (case e_fi => rfl)
      (case e_pf => first | rfl | decide +kernel)
      (case e_cc => k_is)
      (case e_df => rfl)
      (case htop => first | rfl | decide +kernel)
      (case n_super => k_is)
      (case hb1 => exact fun _ _ => .all fun us hl => match us, hl with | [_, _], _ => rfl)
      (case hb2 => exact ⟨fun s us w h => match us, h with | [_], _ => .of_eq rfl⟩)
      (case hfn => exact fun base ns T => Rm.fn_err (ars := []) T rfl rfl rfl rfl rfl rfl rfl ns (by first | rfl | decide +kernel) (by decide +kernel) (by decide +kernel) (by decide +kernel) (by decide +kernel) (pl := _) (fun env => rfl) (by decide +kernel) (by decide +kernel)))
    (case E_UnknownPart =>
      refine' Rm.ef_mk (st := K25F.s_UnknownPart___init__) KX G ?e_g ?e_l ?e_v ?e_t ?e_sa ?e_ga ?e_gg ?e_ex ?e_ty ?e_k ?e_hd ?e_no ?e_sub ?e_self ?e_sup ?e_any ?e_ha ?e_hn ?e_ht ?e_hm ?e_i ?e_it ?e_f ?e_c ?e_cd ?e_fi ?e_pf ?e_cc ?e_df ?htop ?n_super ?hb1 ?hb2 ?hfn
      (case e_g => k_is)
      (case e_l => k_is)
      (case e_v => decide +kernel)
      (case e_t => first | rfl | decide +kernel)
      (case e_sa => k_is)
      (case e_ga => k_is)
      (case e_gg => k_is)
      (case e_ex => k_is)
      (case e_ty => k_is)
      (case e_k => k_is)
      (case e_hd => k_is)
      (case e_no => k_is)
      (case e_sub => k_is)
      (case e_self => k_is)
      (case e_sup => ks_is)
      (case e_any => k_is)
      (case e_ha => k_is)
      (case e_hn => k_is)
      (case e_ht => k_is)
      (case e_hm => k_is)
      (case e_i => k_is)
      (case e_it => k_is)
      (case e_f => k_is)
      (case e_c => k_is)
      (case e_cd => k_is)
      (case e_fi => rfl)
      (case e_pf => first | rfl | decide +kernel)
      (case e_cc => k_is)
      (case e_df => rfl)
      (case htop => first | rfl | decide +kernel)
      (case n_super => k_is)
      (case hb1 => exact fun _ _ => .all fun us hl => match us, hl with | [_, _], _ => rfl)
      (case hb2 => exact ⟨fun s us w h => match us, h with | [_], _ => .of_eq rfl⟩)
      (case hfn => exact fun base ns T => Rm.fn_err (ars := []) T rfl rfl rfl rfl rfl rfl rfl ns (by first | rfl | decide +kernel) (by decide +kernel) (by decide +kernel) (by decide +kernel) (by decide +kernel) (pl := _) (fun env => rfl) (by decide +kernel) (by decide +kernel)))
    (case E_Ended =>
      refine' Rm.ef_mk (st := K25F.s_Ended___init__) KX G ?e_g ?e_l ?e_v ?e_t ?e_sa ?e_ga ?e_gg ?e_ex ?e_ty ?e_k ?e_hd ?e_no ?e_sub ?e_self ?e_sup ?e_any ?e_ha ?e_hn ?e_ht ?e_hm ?e_i ?e_it ?e_f ?e_c ?e_cd ?e_fi ?e_pf ?e_cc ?e_df ?htop ?n_super ?hb1 ?hb2 ?hfn
      (case e_g => k_is)
      (case e_l => k_is)
      (case e_v => decide +kernel)
      (case e_t => first | rfl | decide +kernel)
      (case e_sa => k_is)
      (case e_ga => k_is)
      (case e_gg => k_is)
      (case e_ex => k_is)
      (case e_ty => k_is)
      (case e_k => k_is)
      (case e_hd => k_is)
      (case e_no => k_is)
      (case e_sub => k_is)
      (case e_self => k_is)
      (case e_sup => ks_is)
      (case e_any => k_is)
      (case e_ha => k_is)
      (case e_hn => k_is)
      (case e_ht => k_is)
      (case e_hm => k_is)
      (case e_i => k_is)
      (case e_it => k_is)
      (case e_f => k_is)
      (case e_c => k_is)
      (case e_cd => k_is)
      (case e_fi => rfl)
      (case e_pf => first | rfl | decide +kernel)
      (case e_cc => k_is)
      (case e_df => rfl)
      (case htop => first | rfl | decide +kernel)
      (case n_super => k_is)
      (case hb1 => exact fun _ _ => .all fun us hl => match us, hl with | [_, _], _ => rfl)
      (case hb2 => exact ⟨fun s us w h => match us, h with | [_], _ => .of_eq rfl⟩)
      (case hfn => exact fun base ns T => Rm.fn_err (ars := []) T rfl rfl rfl rfl rfl rfl rfl ns (by first | rfl | decide +kernel) (by decide +kernel) (by decide +kernel) (by decide +kernel) (by decide +kernel) (pl := _) (fun env => rfl) (by decide +kernel) (by decide +kernel)))
    (case E_TooMany =>
      refine' Rm.ef_mk (st := K25F.s_TooMany___init__) KX G ?e_g ?e_l ?e_v ?e_t ?e_sa ?e_ga ?e_gg ?e_ex ?e_ty ?e_k ?e_hd ?e_no ?e_sub ?e_self ?e_sup ?e_any ?e_ha ?e_hn ?e_ht ?e_hm ?e_i ?e_it ?e_f ?e_c ?e_cd ?e_fi ?e_pf ?e_cc ?e_df ?htop ?n_super ?hb1 ?hb2 ?hfn
      (case e_g => k_is)
      (case e_l => k_is)
      (case e_v => decide +kernel)
      (case e_t => first | rfl | decide +kernel)
      (case e_sa => k_is)
      (case e_ga => k_is)
      (case e_gg => k_is)
      (case e_ex => k_is)
      (case e_ty => k_is)
      (case e_k => k_is)
      (case e_hd => k_is)
      (case e_no => k_is)
      (case e_sub => k_is)
      (case e_self => k_is)
      (case e_sup => ks_is)
      (case e_any => k_is)
      (case e_ha => k_is)
      (case e_hn => k_is)
      (case e_ht => k_is)
      (case e_hm => k_is)
      (case e_i => k_is)
      (case e_it => k_is)
      (case e_f => k_is)
      (case e_c => k_is)
      (case e_cd => k_is)
      (case e_fi => rfl)
      (case e_pf => first | rfl | decide +kernel)
      (case e_cc => k_is)
      (case e_df => rfl)
      (case htop => first | rfl | decide +kernel)
      (case n_super => k_is)
      (case hb1 => exact fun _ _ => .all fun us hl => match us, hl with | [_, _], _ => rfl)
      (case hb2 => exact ⟨fun s us w h => match us, h with | [_], _ => .of_eq rfl⟩)
      (case hfn => exact fun base ns T => Rm.fn_err (ars := []) T rfl rfl rfl rfl rfl rfl rfl ns (by first | rfl | decide +kernel) (by decide +kernel) (by decide +kernel) (by decide +kernel) (by decide +kernel) (pl := _) (fun env => rfl) (by decide +kernel) (by decide +kernel)))
    (case g_Fates => k_is); (case cls_Fates_pg => k_is); (case cls_Fates_hd => k_is); (case cls_Fates_po => k_is); (case cls_Fates_sa => k_is); (case mk_Fates => k_is); (case kp_Fates => k_is); (case na_Fates_0 => k_is); (case na_Fates_1 => k_is); (case na_Fates_2 => k_is); (case na_Fates_3 => k_is); (case na_Fates_4 => k_is); (case na_Fates_5 => k_is); (case g_Part => k_is); (case cls_Part_pg => k_is); (case cls_Part_hd => k_is); (case cls_Part_po => k_is); (case cls_Part_sa => k_is); (case mk_Part => k_is); (case kp_Part => k_is); (case na_Part_0 => k_is); (case na_Part_1 => k_is); (case na_Part_2 => k_is); (case na_Part_3 => k_is); (case na_Part_4 => k_is); (case g_Row => k_is); (case cls_Row_pg => k_is); (case cls_Row_hd => k_is); (case cls_Row_po => k_is); (case cls_Row_sa => k_is); (case mk_Row => k_is); (case kp_Row => k_is); (case na_Row_0 => k_is); (case na_Row_1 => k_is); (case na_Row_2 => k_is); (case m_ty => k_is); (case m_ha => k_is); (case m_hn => k_is); (case m_ht => k_is); (case m_hm => k_is)
    (case g_RUN => k_is)
    (case a_is_whole => k_is); (case l_is_whole => k_is); (case c_is_whole => k_is); (case k_is_whole => k_is)
    (case a_is_within => k_is); (case l_is_within => k_is); (case c_is_within => k_is); (case k_is_within => k_is)
    (case a_Fates__count_operation => k_is); (case i_Fates__count_operation => k_is); (case l_Fates__count_operation => k_is); (case c_Fates__count_operation => k_is); (case k_Fates__count_operation => k_is)
    (case a_Fates_is_transaction => k_is); (case i_Fates_is_transaction => k_is); (case l_Fates_is_transaction => k_is); (case c_Fates_is_transaction => k_is); (case k_Fates_is_transaction => k_is)
    (case a_Fates__check_known => k_is); (case i_Fates__check_known => k_is); (case l_Fates__check_known => k_is); (case c_Fates__check_known => k_is); (case k_Fates__check_known => k_is)
    (case a_Fates__check_running => k_is); (case i_Fates__check_running => k_is); (case l_Fates__check_running => k_is); (case c_Fates__check_running => k_is); (case k_Fates__check_running => k_is)
    (case a_Part___init__ => k_is); (case i_Part___init__ => k_is); (case l_Part___init__ => k_is); (case c_Part___init__ => k_is); (case k_Part___init__ => k_is)
    (case a_Fates__open_part => k_is); (case i_Fates__open_part => k_is); (case l_Fates__open_part => k_is); (case c_Fates__open_part => k_is); (case k_Fates__open_part => k_is)
    (case a_Fates_begin => k_is); (case i_Fates_begin => k_is); (case l_Fates_begin => k_is); (case c_Fates_begin => k_is); (case k_Fates_begin => k_is)
    (case a_Fates__end_part => k_is); (case i_Fates__end_part => k_is); (case l_Fates__end_part => k_is); (case c_Fates__end_part => k_is); (case k_Fates__end_part => k_is)
    (case a_Fates__end_transaction => k_is); (case i_Fates__end_transaction => k_is); (case l_Fates__end_transaction => k_is); (case c_Fates__end_transaction => k_is); (case k_Fates__end_transaction => k_is)
    (case a_Fates_abort => k_is); (case i_Fates_abort => k_is); (case l_Fates_abort => k_is); (case c_Fates_abort => k_is); (case k_Fates_abort => k_is)
    (case a_Fates___init__ => k_is); (case i_Fates___init__ => k_is); (case l_Fates___init__ => k_is); (case c_Fates___init__ => k_is); (case k_Fates___init__ => k_is)
    (case a_Fates_is_part => k_is); (case i_Fates_is_part => k_is); (case l_Fates_is_part => k_is); (case c_Fates_is_part => k_is); (case k_Fates_is_part => k_is)
    (case a_Fates__check_part => k_is); (case i_Fates__check_part => k_is); (case l_Fates__check_part => k_is); (case c_Fates__check_part => k_is); (case k_Fates__check_part => k_is)
    (case a_Fates_transaction => k_is); (case i_Fates_transaction => k_is); (case l_Fates_transaction => k_is); (case c_Fates_transaction => k_is); (case k_Fates_transaction => k_is)
    (case a_Fates_root => k_is); (case i_Fates_root => k_is); (case l_Fates_root => k_is); (case c_Fates_root => k_is); (case k_Fates_root => k_is)
    (case a_Fates_fate => k_is); (case i_Fates_fate => k_is); (case l_Fates_fate => k_is); (case c_Fates_fate => k_is); (case k_Fates_fate => k_is)
    (case a_Row___init__ => k_is); (case i_Row___init__ => k_is); (case l_Row___init__ => k_is); (case c_Row___init__ => k_is); (case k_Row___init__ => k_is)
    (case a_Row__check_left => k_is); (case i_Row__check_left => k_is); (case l_Row__check_left => k_is); (case c_Row__check_left => k_is); (case k_Row__check_left => k_is)
    (case a_Row___getitem__ => k_is); (case i_Row___getitem__ => k_is); (case l_Row___getitem__ => k_is); (case c_Row___getitem__ => k_is); (case k_Row___getitem__ => k_is)
    (case a_Row_mark => k_is); (case i_Row_mark => k_is); (case l_Row_mark => k_is); (case c_Row_mark => k_is); (case k_Row_mark => k_is)
    (case a_Row_set_mark => k_is); (case i_Row_set_mark => k_is); (case l_Row_set_mark => k_is); (case c_Row_set_mark => k_is); (case k_Row_set_mark => k_is)
    (case a_Row_remove => k_is); (case i_Row_remove => k_is); (case l_Row_remove => k_is); (case c_Row_remove => k_is); (case k_Row_remove => k_is)
    (case a_Row_make => k_is); (case i_Row_make => k_is); (case l_Row_make => k_is); (case c_Row_make => k_is); (case k_Row_make => k_is)
    (case a_Row_kept => k_is); (case i_Row_kept => k_is); (case l_Row_kept => k_is); (case c_Row_kept => k_is); (case k_Row_kept => k_is)
    (case a_Row__fate => k_is); (case i_Row__fate => k_is); (case l_Row__fate => k_is); (case c_Row__fate => k_is); (case k_Row__fate => k_is)
    (case a_Row_standing => k_is); (case i_Row_standing => k_is); (case l_Row_standing => k_is); (case c_Row_standing => k_is); (case k_Row_standing => k_is)
    (case a_Row_base => k_is); (case i_Row_base => k_is); (case l_Row_base => k_is); (case c_Row_base => k_is); (case k_Row_base => k_is)
    (case a_Row_newest => k_is); (case i_Row_newest => k_is); (case l_Row_newest => k_is); (case c_Row_newest => k_is); (case k_Row_newest => k_is)
    (case a_Row_changer => k_is); (case i_Row_changer => k_is); (case l_Row_changer => k_is); (case c_Row_changer => k_is); (case k_Row_changer => k_is)
    (case a__law_tape => k_is); (case l__law_tape => k_is); (case c__law_tape => k_is); (case k__law_tape => k_is)
    (case a__law_pick => k_is); (case l__law_pick => k_is); (case c__law_pick => k_is); (case k__law_pick => k_is)
    (case a__law_one_of => k_is); (case l__law_one_of => k_is); (case c__law_one_of => k_is); (case k__law_one_of => k_is)
    (case a__law_any => k_is); (case l__law_any => k_is); (case c__law_any => k_is); (case k__law_any => k_is)
    (case a__law_asked => k_is); (case l__law_asked => k_is); (case c__law_asked => k_is); (case k__law_asked => k_is)
    (case a__law_refused => k_is); (case l__law_refused => k_is); (case c__law_refused => k_is); (case k__law_refused => k_is)
    (case a__law_named_right => k_is); (case l__law_named_right => k_is); (case c__law_named_right => k_is); (case k__law_named_right => k_is)
    (case a_law => k_is); (case l_law => k_is); (case c_law => k_is); (case k_law => k_is)
    (case fn0 => k_is)
    (case n_int => k_is); (case n_len => k_is); (case n_isinstance => k_is); (case n_str => k_is); (case n_range => k_is); (case n_max => k_is); (case n_min => k_is); (case n_list => k_is); (case n_repr => k_is); (case n_enumerate => k_is); (case n_tuple => k_is); (case n_sorted => k_is); (case n_bool => k_is); (case n_dict => k_is); (case n_set => k_is); (case n_ValueError => k_is)

