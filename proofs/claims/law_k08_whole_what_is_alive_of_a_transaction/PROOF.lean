import PyProof.Rows.All
import Wide.All
import OpenK.AllK
import Wide.FinOn
import HandS.ForMost
import HandS.ForExc
import HandS.ExcInit
import HandS.WideBits
import HandS.EndBits
import HandS.Property
import HandS.OwnEq
import HandS.Conv
import HandS.IsInst
import HandS.MakeKw
import HandS.Style
import HandS.RaiseMore
import PyProof.ReprLen
import KE.KExcSuper
import HandS.ExcField
import HandS.TryOnly
import HandS.TryMany
import HandS.CallSlots
import HandS.More
import HandS.Ends
import KE.KMethU
import KE.KMinKey
import HandS.SortKw
import KE.KRevSl
import HandS.ExcIs
import HandS.SetFor
import KE.KDictLaws
import HandS.Text
import HandS.WordsExc
import PySem.Challenge.RW_rowmarks_k08_whole_what_is_alive_of_a_tr
import HandS.List
import HandS.Lambda
import HandS.EndTab
set_option Elab.async false
set_option linter.all false
set_option maxRecDepth 100000
set_option maxHeartbeats 4000000
namespace Rm
open PySem PySem.Spec L2
open PyProof.Rows hiding St

/-! ### promises of defs that know that no display is being written -/
def Gd (A : Around) : Prop := A.guards = some []
theorem Gd.deeper {A : Around} (h : Gd A) (e : Env) : Gd (A.deeper e) := h
theorem Gd.in1 {A : Around} (h : Gd A) : Gd A.in1 := h
theorem Gd.make {A : Around} (h : Gd A) (C : Addr) (us : List Value)
    (kw : List (Str × Value)) : Gd (A.under (.builtin "type.__call__" ⟨.ref C :: us, kw⟩)) := by
  have e : Code.guards (.builtin "type.__call__" ⟨.ref C :: us, kw⟩) = [] := by
    unfold Code.guards Code.isGuard
    exact if_neg (show ¬ (guardIds.contains "type.__call__" = true) by decide +kernel)
  unfold Gd Around.under
  dsimp only
  rw [e]
  exact h

structure FnG (P : Program) (w : World) (K : PySem.W.Frag)
    (mg : Str → Option Value) (base : Heap) (CX : CXT) (k : Nat)
    (f : Addr) (fd : FuncData) (ps : List Str) (sp : Sp) : Prop where
  len : ∀ vs H Q E, sp vs H Q E → vs.length = ps.length
  run : ∀ (A : Around) (outer : List Env) (s : Shared) (H : Hp) (ar : Args)
    (us : List Value) (vs : List V) (Q : VK) (E : XK), Room k A → Gd A →
    Env0 P w K mg base A outer s H → BindsTo s fd ar (ps.zip us) → Vals vs us →
    sp vs H Q E →
    codeAny (model P w) A (.call (.ref f) ar) (CR CX outer P w H s Q E) s

section
variable {P : Program} {w : World} {K : PySem.W.Frag}
variable {mg : Str → Option Value} {base : Heap} {CX : CXT} {k j : Nat}
variable {f : Addr} {fd : FuncData} {ps : List Str} {sp sp' : Sp}
theorem FnG.of (F : FnOk P w K mg base CX k f fd ps sp) : FnG P w K mg base CX k f fd ps sp :=
  ⟨F.len, fun A outer s H ar us vs Q E hr _ => F.run A outer s H ar us vs Q E hr⟩
theorem FnG.mono (F : FnG P w K mg base CX j f fd ps sp) (h : j ≤ k) : FnG P w K mg base CX k f fd ps sp :=
  ⟨F.len, fun A outer s H ar us vs Q E hr => F.run A outer s H ar us vs Q E (hr.mono h)⟩
theorem FnG.imp (F : FnG P w K mg base CX k f fd ps sp)
    (h : ∀ vs H Q E, sp' vs H Q E → sp vs H Q E) : FnG P w K mg base CX k f fd ps sp' :=
  ⟨fun vs H Q E q => F.len vs H Q E (h _ _ _ _ q),
    fun A outer s H ar us vs Q E hr hg e0 hb hv hs =>
      F.run A outer s H ar us vs Q E hr hg e0 hb hv (h _ _ _ _ hs)⟩
end

/-! ### calls -/
section
variable {X : Cx} {CX : CXT} {k : Nat} {f C : Addr} {fd : FuncData} {ps : List Str} {sp : Sp}
variable {dvs : List V} {ds : List Value} {E : XK} {x m : Str} {p pos apos : Pos} {e o : Expr}
variable {es : List Expr} {ta : TE} {t : TA}

/-- behind a callee's end -/
theorem came {pins : List (Addr × Obj)} {σ : St} {H : Hp} {s s' : Shared} {Q : VK} {r : Result}
    (hx : Passes CX X E) (I : Inv X pins σ H s)
    (hq : CR CX X.stack X.prog X.w H s Q E r s') :
    wants (EP X pins σ Q) X.xe r s' := by
  match r, hq with
  | .error e, hq => exact hx pins σ H s e s' I hq
  | .ok (.ret u), hq => exact I.after hq
  | .ok .next, hq => exact False.elim hq
  | .ok .brk, hq => exact False.elim hq
  | .ok .cont, hq => exact False.elim hq

theorem goes {pins : List (Addr × Obj)} {σ : St} {H : Hp} {s : Shared} {Q : VK}
    {us : List Value} {vs : List V}
    (F : FnG X.prog X.w X.K X.mg X.base CX k f fd ps sp) (hr : Room k X.A) (hG : Gd X.A)
    (hb : Binds X.K fd ps ds) (hd : Vals dvs ds) (hx : Passes CX X E)
    (I : Inv X pins σ H s) (r : Vals vs us) (h : sp (vs ++ dvs) H Q E) :
    wpAny (model X.prog X.w) X.A (call (.ref f) us) (EP X pins σ Q) X.xe s := by
  have both := r.append hd
  have hl : (us ++ ds).length = ps.length := both.length.symm.trans (F.len _ _ _ _ h)
  exact wpAny_call (codeAny_mono (F.run X.A X.stack s H ⟨us, []⟩ _ _ Q E hr hG I.env0
    (hb s us I.kIn hl) both h) fun r s' hq => came hx I hq)

theorem pe_fn (F : FnG X.prog X.w X.K X.mg X.base CX k f fd ps sp) (hr : Room k X.A) (hG : Gd X.A)
    (hg : Gl X x) (hm : X.mg x = some (.ref f)) (hk : PySem.W.keepIn X.K (.ref f) = true)
    (hb : Binds X.K fd ps ds) (hd : Vals dvs ds) (hx : Passes CX X E) (ha : PA X (e :: es) t)
    (hdb : (x == ("__debug__" : Str)) = false := by decide)
    (he : starEach (e :: es) X.env = (false, eval e X.env) :: starEach es X.env := by rfl)
    (hpl : (backTo pos (starEach es X.env)).any (·.1) = false := by rfl) :
    PE X (.Call (.Name x p) (e :: es) [] pos) (tCall sp dvs E t) :=
  ⟨fun pins s σ H Q I h => wpAny_Call_Name_kw (ld_glob I hg hm
    (PySem.W.callWith_K (h₀ := X.base) I.ok.mod.kin hk
      (thn (ha.run pos pins s σ H _ I h) fun us s1 ⟨vs, H1, I1, r, q⟩ =>
        ⟨I1.kIn, goes F hr hG hb hd hx I1 r q⟩) he hpl) hdb)⟩

theorem pe_fn0 (F : FnG X.prog X.w X.K X.mg X.base CX k f fd ps sp) (hr : Room k X.A) (hG : Gd X.A)
    (hg : Gl X x) (hm : X.mg x = some (.ref f)) (hk : PySem.W.keepIn X.K (.ref f) = true)
    (hb : Binds X.K fd ps ds) (hd : Vals dvs ds) (hx : Passes CX X E)
    (hdb : (x == ("__debug__" : Str)) = false := by decide) :
    PE X (.Call (.Name x p) [] [] pos) (tCall sp dvs E tNil) :=
  ⟨fun pins s σ H Q I h => wpAny_Call_Name_kw (ld_glob I hg hm
    (PySem.W.callWith_K0 I.kIn hk (goes (us := []) F hr hG hb hd hx I .nil h)) hdb)⟩

theorem pe_mth {pl : Sem Bool} (he : PE X o ta) (c : Cls X.K C) (hm : Meth X.K C m f)
    (F : FnG X.prog X.w X.K X.mg X.base CX k f fd ps sp) (hr : Room k X.A) (hG : Gd X.A)
    (hb : Binds X.K fd ps ds) (hd : Vals dvs ds) (hx : Passes CX X E) (ha : PA X (e :: es) t)
    (hst : starEach (e :: es) X.env = (false, eval e X.env) :: starEach es X.env := by rfl)
    (hpl : (backTo pos (starEach es X.env)).any (·.1) = false := by rfl)
    (ht : eval (.Call (.Attribute o m apos) (e :: es) [] pos) X.env = (do
      let ov ← eval o X.env
      standAt apos.atName
      let (g, first) ← holding [ov] (getMethod ov m pl)
      callWith pos g first (backTo pos (starEach (e :: es) X.env))
        (backToKw pos (keywordEach [] X.env))) := by rfl) :
    PE X (.Call (.Attribute o m apos) (e :: es) [] pos) (tMeth C m sp dvs E ta t) := by
  constructor
  intro pins s σ H Q I h
  refine PySem.W.methodCall_KW (pl := pl)
    (thn (he.run pins s σ H _ I h) fun u s1 ⟨y, H1, I1, ry, a, dx, fs, ey, ea, l, q⟩ => ?_) ht
  obtain rfl := ey
  have ru : u = Value.ref a := ry
  rw [ru]
  exact getmeth_ok I1 ea c hm l (PySem.W.callWith_K (first := [.ref a]) (h₀ := X.base)
    I.ok.mod.kin hm.kp (thn (ha.run pos pins s1 σ H1 _ I1 q) fun us s2 ⟨vs, H2, I2, r, q2⟩ =>
      ⟨I2.kIn, goes (us := .ref a :: us) (vs := .ref a :: vs) F hr hG hb hd hx I2 (.cons rfl r) q2⟩) hst hpl)

theorem pe_mth0 {pl : Sem Bool} (he : PE X o ta) (c : Cls X.K C) (hm : Meth X.K C m f)
    (F : FnG X.prog X.w X.K X.mg X.base CX k f fd ps sp) (hr : Room k X.A) (hG : Gd X.A)
    (hb : Binds X.K fd ps ds) (hd : Vals dvs ds) (hx : Passes CX X E)
    (ht : eval (.Call (.Attribute o m apos) [] [] pos) X.env = (do
      let ov ← eval o X.env
      standAt apos.atName
      let (g, first) ← holding [ov] (getMethod ov m pl)
      callWith pos g first (backTo pos (starEach [] X.env))
        (backToKw pos (keywordEach [] X.env))) := by rfl) :
    PE X (.Call (.Attribute o m apos) [] [] pos) (tMeth C m sp dvs E ta tNil) := by
  constructor
  intro pins s σ H Q I h
  refine PySem.W.methodCall_KW (pl := pl)
    (thn (he.run pins s σ H _ I h) fun u s1 ⟨y, H1, I1, ry, a, dx, fs, ey, ea, l, q⟩ => ?_) ht
  obtain rfl := ey
  have ru : u = Value.ref a := ry
  rw [ru]
  exact getmeth_ok I1 ea c hm l (PySem.W.callWith_K0 (first := [.ref a]) I1.kIn hm.kp
    (goes (us := [.ref a]) (vs := [.ref a]) F hr hG hb hd hx I1 (.cons rfl .nil) q))

/-! ### a new instance -/
theorem grows {pins : List (Addr × Obj)} {σ : St} {H : Hp} {s : Shared} {Q : VK}
    {us : List Value} {vs : List V} (M : Mk X.K C f)
    (F : FnG X.prog X.w X.K X.mg X.base CX k f fd ps sp) (hr : Room (k + 1) X.A) (hG : Gd X.A)
    (hb : Binds X.K fd ps ds) (hd : Vals dvs ds) (hx : Passes CX X E)
    (I : Inv X pins σ H s) (r : Vals vs us)
    (h : ∀ y dx, H y = none → H dx = none → dx ≠ y →
      sp (.ref y :: (vs ++ dvs)) (upd (upd H dx (.own y)) y (.ins C dx []))
        (fun v H2 => v = .non ∧ Q (.ref y) H2) E) :
    wpAny (model X.prog X.w) X.A (call (.ref C) us) (EP X pins σ Q) X.xe s := by
  have n1 : H (s.heap.objs.size + 1) = none := I.hok.fresh (Nat.le_succ _)
  have n0 : H s.heap.objs.size = none := I.hok.fresh (Nat.le_refl _)
  have hq := h _ _ n1 n0 (Nat.ne_of_lt (Nat.lt_succ_self _))
  have I2 := Inv.made (C := C) I
  have both : Vals (V.ref (s.heap.objs.size + 1) :: (vs ++ dvs))
      (Value.ref (s.heap.objs.size + 1) :: (us ++ ds)) := .cons rfl (r.append hd)
  have hl : (Value.ref (s.heap.objs.size + 1) :: us ++ ds).length = ps.length :=
    both.length.symm.trans (F.len _ _ _ _ hq)
  refine wpAny_call (make_map (f := f) I.kIn M.makes M.init (beq_iff_eq.mp M.fn)
    (codeAny_mono (F.run _ X.stack _ _ ⟨Value.ref (s.heap.objs.size + 1) :: us, []⟩ _ _ _ E
      (hr.make C us []) (hG.make C us []) (I2.env0.make C us [])
      (hb _ (Value.ref (s.heap.objs.size + 1) :: us) I2.kIn hl) both hq) fun r s' hq' => ?_))
  match r, hq' with
  | .error er, hq' => exact hx pins σ _ _ er s' I2 hq'
  | .ok (.ret u), hq' =>
    obtain ⟨v, H', I3, rv, ev, q3⟩ := I2.after hq'
    subst ev
    exact ⟨rv, V.ref (s.heap.objs.size + 1), H', I3, rfl, q3⟩
  | .ok .next, hq' => exact False.elim hq'
  | .ok .brk, hq' => exact False.elim hq'
  | .ok .cont, hq' => exact False.elim hq'

theorem pe_new (M : Mk X.K C f) (F : FnG X.prog X.w X.K X.mg X.base CX k f fd ps sp)
    (hr : Room (k + 1) X.A) (hG : Gd X.A) (hg : Gl X x) (hm : X.mg x = some (.ref C))
    (hb : Binds X.K fd ps ds) (hd : Vals dvs ds) (hx : Passes CX X E) (ha : PA X (e :: es) t)
    (hdb : (x == ("__debug__" : Str)) = false := by decide)
    (he : starEach (e :: es) X.env = (false, eval e X.env) :: starEach es X.env := by rfl)
    (hpl : (backTo pos (starEach es X.env)).any (·.1) = false := by rfl) :
    PE X (.Call (.Name x p) (e :: es) [] pos) (tMake C sp dvs E t) :=
  ⟨fun pins s σ H Q I h => wpAny_Call_Name_kw (ld_glob I hg hm
    (PySem.W.callWith_K (h₀ := X.base) I.ok.mod.kin M.kp
      (thn (ha.run pos pins s σ H _ I h) fun us s1 ⟨vs, H1, I1, r, q⟩ =>
        ⟨I1.kIn, grows M F hr hG hb hd hx I1 r q⟩) he hpl) hdb)⟩

theorem pe_new0 (M : Mk X.K C f) (F : FnG X.prog X.w X.K X.mg X.base CX k f fd ps sp)
    (hr : Room (k + 1) X.A) (hG : Gd X.A) (hg : Gl X x) (hm : X.mg x = some (.ref C))
    (hb : Binds X.K fd ps ds) (hd : Vals dvs ds) (hx : Passes CX X E)
    (hdb : (x == ("__debug__" : Str)) = false := by decide) :
    PE X (.Call (.Name x p) [] [] pos) (tMake C sp dvs E tNil) :=
  ⟨fun pins s σ H Q I h => wpAny_Call_Name_kw (ld_glob I hg hm
    (PySem.W.callWith_K0 I.kIn M.kp (grows (us := []) M F hr hG hb hd hx I .nil h)) hdb)⟩
end

/-! ### a def by its body -/
section
variable {P : Program} {w : World} {K : PySem.W.Frag} {mg : Str → Option Value} {base : Heap}
theorem fn_in {CX : CXT} {x qual : Str} {st : Stmt} {f : Addr} {fd : FuncData} {N ps : List Str}
    {k : Nat} {sp : Sp} (F : Fun K x qual st f fd) (S : FnScope N ps (defScope st))
    (len : ∀ vs H Q E, sp vs H Q E → vs.length = ps.length)
    (body : ∀ (cdv : Value) (A : Around) (outer : List Env) (s : Shared) (H : Hp) (vs : List V)
        (Q : VK) (E : XK), Room k (A.deeper (envOfC qual (defScope st) s.heap.objs.size f cdv)) →
      Gd (A.deeper (envOfC qual (defScope st) s.heap.objs.size f cdv)) → sp vs H Q E →
      ∃ t, PSs (cxOf CX P w K mg base N qual (defScope st) f cdv A outer s H E) (defBody st) t ∧
        t { nx := fun _ H' => Q .non H', rt := Q } (start N vs) H) :
    FnG P w K mg base CX (k + 1) f fd ps sp := by
  obtain ⟨oc, od, kV, doc, pm, an, cdv, ct, osl, rfl, lk, hcd⟩ := F.ex
  refine ⟨len, fun A outer s H ar us vs Q E hr hG e0 hb r hsp => ?_⟩
  have hl := len _ _ _ _ hsp
  have up : ∀ b o, base.get? b = some o → s.heap.get? b = some o := fun b o e => (e0.bs b o e).1
  have KX : K.In s.heap := e0.mod.kin.keeps up
  have lim : s.heap.NoLimit := e0.mod.nolimit.keeps up
  refine codeAny_call_function hr.depth (KX _ _ lk) rfl S.co S.gen rfl
    (PySem.W.codeRec_of KX hcd) (hb _ _ _ _ ?_)
  refine wpAny_newFunctionEnv_cells S.kind (fun ⟨n, v⟩ hy => ?_) fun env he s1 z => ?_
  · exact (S.par n (List.of_mem_zip hy).1).imp id
      fun q => ⟨q, PySem.W.cellsFrom_some _ _ _ (.inl q)⟩
  subst he
  refine ⟨lim.keeps z.toInCall.keep, codeAny_func ?_⟩
  obtain ⟨t, ht, hq⟩ := body cdv A outer s H vs Q E (hr.deeper _) (hG.deeper _) hsp
  have I := inv_start (CX := CX) (E := E) (qual := qual) (f := f) (cd := cdv) S hr.hd e0 hl r z
  refine wpAny_mono (ht.run [] s1 (start N vs) H _ I hq) (fun fl s' hs => ?_) fun e s' hs => hs
  match fl, hs with
  | .ret u, ⟨v, σ', H', J, rv, q⟩ => exact ⟨v, H', J.os, J.bare, J.base, J.hok, rv, q⟩
  | .next, ⟨σ', H', J, q⟩ => exact ⟨V.non, H', J.os, J.bare, J.base, J.hok, rfl, q⟩
  | .brk, ⟨_, _, _, q⟩ => exact False.elim q
  | .cont, ⟨_, _, _, q⟩ => exact False.elim q

/-- nothing leaves the def -/
theorem fn_q {x qual : Str} {st : Stmt} {f : Addr} {fd : FuncData} {N ps : List Str}
    {k : Nat} {sp : Sp} (F : Fun K x qual st f fd) (S : FnScope N ps (defScope st))
    (len : ∀ vs H Q E, sp vs H Q E → vs.length = ps.length)
    (body : ∀ (cdv : Value) (A : Around) (outer : List Env) (s : Shared) (H : Hp) (vs : List V)
        (Q : VK) (E : XK), Room k (A.deeper (envOfC qual (defScope st) s.heap.objs.size f cdv)) →
      Gd (A.deeper (envOfC qual (defScope st) s.heap.objs.size f cdv)) → sp vs H Q E →
      ∃ t, PSs (cxOf CX0 P w K mg base N qual (defScope st) f cdv A outer s H E).nox (defBody st) t ∧
        t { nx := fun _ H' => Q .non H', rt := Q } (start N vs) H) :
    FnG P w K mg base CX0 (k + 1) f fd ps sp :=
  fn_in F S len fun cdv A outer s H vs Q E hr hG hs =>
    let ⟨t, h, q⟩ := body cdv A outer s H vs Q E hr hG hs
    ⟨t, h.nox, q⟩
end
end Rm

set_option maxRecDepth 100000
set_option maxHeartbeats 4000000
namespace Rm
open PySem PySem.Spec L2
open PyProof.Rows hiding St

/-! ### data of any kind: what stands behind a value -/
def keyD : Key → PyData
  | .inl i => .int i
  | .inr x => .str x
mutual
inductive Dx (K : PySem.W.Frag) (H : Hp) : V → PyData → Prop
  | non : Dx K H .non .none
  | bl (b : Bool) : Dx K H (.bl b) (.bool b)
  | int (i : Int) : Dx K H (.int i) (.int i)
  | str (x : Str) : Dx K H (.str x) (.str x)
  | lst {a : Addr} {xs : List V} {ds : List PyData} :
      SqL K H a xs → DxAll K H xs ds → Dx K H (.ref a) (.list ds)
  | tup {a : Addr} {xs : List V} {ds : List PyData} :
      SqT K H a xs → DxAll K H xs ds → Dx K H (.ref a) (.tuple ds)
  | dic {a : Addr} {kvs : List (Key × V)} {es : List (PyData × PyData)} :
      Rd H a (.dK kvs) → DxKv K H kvs es → Dx K H (.ref a) (.dict es)
inductive DxAll (K : PySem.W.Frag) (H : Hp) : List V → List PyData → Prop
  | nil : DxAll K H [] []
  | cons {v : V} {vs : List V} {d : PyData} {ds : List PyData} :
      Dx K H v d → DxAll K H vs ds → DxAll K H (v :: vs) (d :: ds)
inductive DxKv (K : PySem.W.Frag) (H : Hp) : List (Key × V) → List (PyData × PyData) → Prop
  | nil : DxKv K H [] []
  | cons {k : Key} {v : V} {r : List (Key × V)} {d : PyData} {es : List (PyData × PyData)} :
      Dx K H v d → DxKv K H r es → DxKv K H ((k, v) :: r) ((keyD k, d) :: es)
end

/-- what is read stays -/
def SameR (H H' : Hp) : Prop := ∀ a u, Rd H a u → Rd H' a u
theorem SameR.of {H H' : Hp} (e : Same H H') : SameR H H' := fun a u h =>
  h.elim (fun h => .inl (e _ _ h)) fun ⟨o, h⟩ => .inr ⟨o, e _ _ h⟩
theorem SameR.trans {H H' H2 : Hp} (e : SameR H H') (e2 : SameR H' H2) : SameR H H2 := fun a u h => e2 a u (e a u h)
/-- a thing that is locked is read as before -/
theorem SameR.lock {H : Hp} {d : Addr} {o : Obj} {u : HO} (h : H d = some u) (n : ∀ o' u', u ≠ .frz o' u') : SameR H (upd H d (.frz o u)) := fun a w r => by
  by_cases z : a = d
  · subst z
    rcases r with r | ⟨o', r⟩
    · rw [h] at r; cases r
      exact .inr ⟨o, upd_same⟩
    · rw [h] at r; cases r
      exact absurd rfl (n _ _)
  · rcases r with r | ⟨o', r⟩
    · exact .inl (by rw [upd_ne z]; exact r)
    · exact .inr ⟨o', by rw [upd_ne z]; exact r⟩
theorem sq_upR {K : PySem.W.Frag} {H H' : Hp} {a : Addr} {xs : List V} (e : SameR H H')
    (h : SqL K H a xs) : SqL K H' a xs := h.elim (fun h => .inl (e _ _ h)) .inr
theorem st_upR {K : PySem.W.Frag} {H H' : Hp} {a : Addr} {xs : List V} (e : SameR H H')
    (h : SqT K H a xs) : SqT K H' a xs := h.elim (fun h => .inl (e _ _ h)) .inr
theorem sq_up {K : PySem.W.Frag} {H H' : Hp} {a : Addr} {xs : List V} (e : Same H H')
    (h : SqL K H a xs) : SqL K H' a xs := sq_upR (.of e) h
mutual
theorem Dx.upR {K : PySem.W.Frag} {H H' : Hp} (e : SameR H H') : ∀ {v : V} {d : PyData},
    Dx K H v d → Dx K H' v d
  | _, _, .non => .non
  | _, _, .bl b => .bl b
  | _, _, .int i => .int i
  | _, _, .str x => .str x
  | _, _, .lst h r => .lst (sq_upR e h) (DxAll.upR e r)
  | _, _, .tup h r => .tup (st_upR e h) (DxAll.upR e r)
  | _, _, .dic h r => .dic (e _ _ h) (DxKv.upR e r)
theorem DxAll.upR {K : PySem.W.Frag} {H H' : Hp} (e : SameR H H') : ∀ {vs : List V} {ds : List PyData},
    DxAll K H vs ds → DxAll K H' vs ds
  | _, _, .nil => .nil
  | _, _, .cons h r => .cons (Dx.upR e h) (DxAll.upR e r)
theorem DxKv.upR {K : PySem.W.Frag} {H H' : Hp} (e : SameR H H') :
    ∀ {vs : List (Key × V)} {ds : List (PyData × PyData)}, DxKv K H vs ds → DxKv K H' vs ds
  | _, _, .nil => .nil
  | _, _, .cons h r => .cons (Dx.upR e h) (DxKv.upR e r)
end
theorem Dx.up {K : PySem.W.Frag} {H H' : Hp} {v : V} {d : PyData} (e : Same H H') (h : Dx K H v d) : Dx K H' v d := h.upR (.of e)
theorem DxAll.get {K : PySem.W.Frag} {H : Hp} : ∀ {vs : List V} {ds : List PyData} {i : Nat} {v : V}, DxAll K H vs ds → vs[i]? = some v →
    ∃ d, ds[i]? = some d ∧ Dx K H v d
  | _, _, _, _, .nil, h => by simp at h
  | _, _, 0, _, .cons h _, e => by simp at e; subst e; exact ⟨_, rfl, h⟩
  | _, _, i + 1, _, .cons _ r, e => by simp at e; simpa using DxAll.get r e

theorem DxKv.keys {K : PySem.W.Frag} {H : Hp} : ∀ {kvs : List (Key × V)} {es : List (PyData × PyData)},
    DxKv K H kvs es → es.map (·.1) = kvs.map fun p => keyD p.1
  | _, _, .nil => rfl
  | _, _, .cons _ r => by simp only [List.map_cons]; rw [DxKv.keys r]

section
variable {X : Cx} {pins : List (Addr × Obj)} {σ : L2.St} {H : Hp} {s : Shared}

/-- how u is written, and that it can be read -/
def Shw (P : Program) (w : World) (h : Heap) (u : Value) (d : PyData) : Prop :=
  (∃ as, Reads h u d as) ∧ ∃ bs, ReadAtMost h d.depth bs ∧ ReprK P w bs h d.depth u d.shown
def ShwAll (P : Program) (w : World) (h : Heap) (us : List Value) (ds : List PyData) : Prop :=
  (∃ as, ReadsAll h us ds as) ∧ ∃ bs, ReadAtMost h (PyData.depthAll ds) bs ∧
    ReprAllK P w bs h (PyData.depthAll ds) us (PyData.shownAll ds)

theorem ShwAll.none {P : Program} {w : World} {h : Heap} : ShwAll P w h [] [] :=
  ⟨⟨_, .nil⟩, [], (fun _ z => nomatch z), by simp only [PyData.shownAll]; exact .nil⟩
theorem ShwAll.more {P : Program} {w : World} {h : Heap} {u : Value} {us : List Value} {d : PyData}
    {ds : List PyData} (a : Shw P w h u d) (b : ShwAll P w h us ds) : ShwAll P w h (u :: us) (d :: ds) := by
  obtain ⟨⟨_, r1⟩, b1, m1, k1⟩ := a
  obtain ⟨⟨_, r2⟩, b2, m2, k2⟩ := b
  refine ⟨⟨_, .cons r1 r2⟩, b1 ++ b2, ?_, ?_⟩
  · simp only [PyData.depthAll]
    exact (m1.mono (Nat.le_max_left _ _)).append (m2.mono (Nat.le_max_right _ _))
  · simp only [PyData.depthAll, PyData.shownAll]
    exact .cons ((k1.more fun _ z => List.mem_append_left _ z).level_le (Nat.le_max_left _ _))
      (k2.more_le (fun _ z => List.mem_append_right _ z) (Nat.le_max_right _ _))

theorem kv_read : ∀ {kvs : List (Key × V)} {vs : List (Key × Value)} {es : List DictEntry}
    {P : Program} {w : World}, KV kvs vs → Pairs (mixKind P w) es vs →
    (∀ (h : Heap), ∀ (ks : List PyData), ks = kvs.map (fun p => keyD p.1) →
      PyData.showableAll ks = true → (∀ t ∈ PyData.shownAll ks, t.length ≤ sizeLine) →
      ShwAll P w h (es.map (·.key)) ks) ∧ Vals (kvs.map (·.2)) (es.map (·.val))
  | _, _, _, P, w, .nil, .nil => ⟨fun h ks e _ _ => by subst e; exact ShwAll.none, .nil⟩
  | _, _, _, P, w, .cons (a := (k, v)) (b := (k', u)) hr tl, .cons (e := e) hk hv r => by
    obtain ⟨ih1, ih2⟩ := kv_read tl r
    obtain ⟨rfl, rv⟩ := hr
    refine ⟨fun h ks e2 hs hz => ?_, ?_⟩
    · subst e2
      simp only [List.map_cons, PyData.showableAll, Bool.and_eq_true] at hs
      simp only [List.map_cons, PyData.shownAll] at hz ⊢
      refine ShwAll.more ?_ (ih1 h _ rfl hs.2 fun t ht => hz t (List.mem_cons_of_mem _ ht))
      have z0 := hz _ (List.mem_cons_self ..)
      rcases keyIs_shape (k := k) (v := e.key) hk with ⟨i, t, ek, ev⟩ | ⟨x, t, ek, ev⟩
      · subst ek
        rw [ev]
        have hi : i.natAbs.log2 < 1920 := by simpa [keyD, PyData.showable] using hs.1
        refine ⟨⟨_, .int i t⟩, [], (fun _ z => nomatch z), ?_⟩
        simp only [keyD, PyData.shown]
        exact .of_is (ReprIs.int t hi) _ _ _
      · subst ek
        rw [ev]
        refine ⟨⟨_, .str x t⟩, [], (fun _ z => nomatch z), ?_⟩
        simp only [keyD, PyData.shown] at z0 ⊢
        exact .of_is (ReprIs.str x t z0) _ _ _
    · simp only [List.map_cons]
      rw [hv]
      exact .cons rv ih2

mutual
theorem Dx.shw (I : Inv X pins σ H s) : ∀ (d : PyData) (v : V) (u : Value), Dx X.K H v d → RelV v u →
    d.showable = true → d.shown.length ≤ sizeLine → Shw X.prog X.w s.heap u d
  | .none, _, _, h, r, _, _ => by
    cases h; cases r
    exact ⟨⟨_, .none⟩, [], (fun _ z => nomatch z), by simp only [PyData.shown]; exact .of_is ReprIs.none _ _ _⟩
  | .bool b, _, _, h, r, _, _ => by
    cases h; cases r
    exact ⟨⟨_, .bool b⟩, [], (fun _ z => nomatch z), by simp only [PyData.shown]; exact .of_is (ReprIs.bool b) _ _ _⟩
  | .int i, _, _, h, r, hs, _ => by
    cases h
    obtain ⟨t, rfl⟩ := r
    refine ⟨⟨_, .int i t⟩, [], (fun _ z => nomatch z), ?_⟩
    simp only [PyData.shown]
    exact .of_is (ReprIs.int t (by simpa [PyData.showable] using hs)) _ _ _
  | .str x, _, _, h, r, _, hz => by
    cases h
    obtain ⟨t, rfl⟩ := r
    refine ⟨⟨_, .str x t⟩, [], (fun _ z => nomatch z), ?_⟩
    simp only [PyData.shown] at hz ⊢
    exact .of_is (ReprIs.str x t hz) _ _ _
  | .list ds, _, _, h, r, hs, hz => by
    cases h with
    | lst hl ha =>
      cases r
      obtain ⟨its, rv, ⟨o, n, ho, hc, _, hd⟩, _⟩ := I.list hl
      simp only [PyData.shown] at hz
      obtain ⟨⟨as, ra⟩, bs, mb, kb⟩ := Dx.shwAll I ds _ its ha rv (by simpa [PyData.showable] using hs)
        fun t ht => Nat.le_trans (listText_mem_le ht) hz
      have rr := Reads.list ho hc hd ra
      refine ⟨⟨_, rr⟩, _, ReadAtMost.cons rr (by simp only [PyData.depth]; omega) mb, ?_⟩
      simp only [PyData.depth, PyData.shown]
      cases its with
      | nil =>
        cases ra
        simp only [PyData.shownAll, listText_nil]
        exact ReprK.listEmpty ho hc hd
      | cons y l =>
        exact ReprK.list ho hc hd (not_mem_of_deeper rr (by simp only [PyData.depth]; omega) mb)
          (by simpa using kb.length_eq) fun i z e => kb.item i z (by simpa using e)
  | .tuple ds, _, _, h, r, hs, hz => by
    cases h with
    | tup hl ha =>
      cases r
      obtain ⟨its, rv, ⟨o, ho, hc, n, hd⟩, _⟩ := I.tuple hl
      simp only [PyData.shown] at hz
      obtain ⟨⟨as, ra⟩, bs, mb, kb⟩ := Dx.shwAll I ds _ its ha rv (by simpa [PyData.showable] using hs)
        fun t ht => Nat.le_trans (tupleText_mem_le ht) hz
      have rr := Reads.tuple ho hc hd ra
      refine ⟨⟨_, rr⟩, _, ReadAtMost.cons rr (by simp only [PyData.depth]; omega) mb, ?_⟩
      simp only [PyData.depth, PyData.shown]
      exact ReprK.tuple ho hc hd (not_mem_of_deeper rr (by simp only [PyData.depth]; omega) mb) kb
  | .dict es, _, _, h, r, hs, hz => by
    cases h with
    | dic hl ha =>
      cases r
      obtain ⟨hsz, hsys, vs, kv, o, ents, ep, ho, hx, hd, _, hp, _⟩ := dk_rd I.hok hl
      obtain ⟨hs1, hs2⟩ := PyData.showableKv_split es (by simpa [PyData.showable] using hs)
      simp only [PyData.shown] at hz
      obtain ⟨kr, vr⟩ := kv_read kv hp
      have ek := DxKv.keys ha
      obtain ⟨⟨_, r1⟩, b1, m1, k1⟩ := kr s.heap _ ek hs1 fun t ht =>
        let ⟨p, hp, hl⟩ := PyData.shownKv_key_le es t ht
        Nat.le_trans hl (Nat.le_trans (dictText_mem_le hp) hz)
      obtain ⟨⟨_, r2⟩, b2, m2, k2⟩ := Dx.shwAll2 I es _ _ ha vr hs2 fun t ht =>
        let ⟨p, hp, hl⟩ := PyData.shownKv_val_le es t ht
        Nat.le_trans hl (Nat.le_trans (dictText_mem_le hp) hz)
      have rr : Reads s.heap (.ref _) (.dict es) _ := Reads.dict ho hx.1 hd r1 r2
      have mb := (m1.mono (PyData.depthAll_keys_le es)).append (m2.mono (PyData.depthAll_vals_le es))
      refine ⟨⟨_, rr⟩, _, ReadAtMost.cons rr (by simp only [PyData.depth]; omega) mb, ?_⟩
      simp only [PyData.depth, PyData.shown, PyData.shownKv_eq]
      exact ReprK.dict ho hx.1 hd hsys (not_mem_of_deeper rr (by simp only [PyData.depth]; omega) mb)
        (ReprEntriesK.of_two ents.toList _ _
          (k1.more_le (fun _ z => List.mem_append_left _ z) (PyData.depthAll_keys_le es))
          (k2.more_le (fun _ z => List.mem_append_right _ z) (PyData.depthAll_vals_le es)))
theorem Dx.shwAll (I : Inv X pins σ H s) : ∀ (ds : List PyData) (vs : List V) (us : List Value),
    DxAll X.K H vs ds → Vals vs us → PyData.showableAll ds = true →
    (∀ t ∈ PyData.shownAll ds, t.length ≤ sizeLine) → ShwAll X.prog X.w s.heap us ds
  | [], _, _, h, r, _, _ => by
    cases h; cases r
    exact ShwAll.none
  | d :: ds, _, _, h, r, hs, hz => by
    cases h with
    | cons h1 h2 =>
      cases r with
      | cons r1 r2 =>
        simp only [PyData.showableAll, Bool.and_eq_true] at hs
        simp only [PyData.shownAll] at hz
        exact ShwAll.more (Dx.shw I d _ _ h1 r1 hs.1 (hz _ (List.mem_cons_self ..)))
          (Dx.shwAll I ds _ _ h2 r2 hs.2 fun t ht => hz t (List.mem_cons_of_mem _ ht))
theorem Dx.shwAll2 (I : Inv X pins σ H s) : ∀ (es : List (PyData × PyData)) (kvs : List (Key × V))
    (us : List Value), DxKv X.K H kvs es → Vals (kvs.map (·.2)) us →
    PyData.showableAll (es.map (·.2)) = true →
    (∀ t ∈ PyData.shownAll (es.map (·.2)), t.length ≤ sizeLine) → ShwAll X.prog X.w s.heap us (es.map (·.2))
  | [], _, _, h, r, _, _ => by
    cases h; cases r
    exact ShwAll.none
  | (k, d) :: ds, _, _, h, r, hs, hz => by
    cases h with
    | cons h1 h2 =>
      cases r with
      | cons r1 r2 =>
        simp only [List.map_cons, PyData.showableAll, Bool.and_eq_true] at hs
        simp only [List.map_cons, PyData.shownAll] at hz
        exact ShwAll.more (Dx.shw I d _ _ h1 r1 hs.1 (hz _ (List.mem_cons_self ..)))
          (Dx.shwAll2 I ds _ _ h2 r2 hs.2 fun t ht => hz t (List.mem_cons_of_mem _ ht))
end
end
end Rm

set_option maxRecDepth 100000
set_option maxHeartbeats 4000000
namespace Rm
open PySem PySem.Spec L2
open PyProof.Rows hiding St

/-- small enough to be written out -/
structure Sm (d : PyData) : Prop where
  sh : d.showable = true
  lv : d.leavesShort 100 = true
  wt : d.weight ≤ 100000
  dp : d.depth ≤ 50
theorem Sm.len {d : PyData} (h : Sm d) : d.shown.length ≤ sizeLine := by
  have h1 := PyData.shown_le 100 (by decide) d h.lv
  have h2 := h.wt
  rw [sizeLine_eq]
  omega

def rRep (K : PySem.W.Frag) : List V → Hp → VK → Prop := fun xs H Q =>
  ∃ x d, xs = [x] ∧ Dx K H x d ∧ Sm d ∧ Q (.str d.shown) H
theorem call_rep {X : Cx} (hG : Gd X.A) (hu : X.A.units + 64 < cLine) : CallR X (.builtin "repr") (rRep X.K) := by
  intro pins s σ H xs us Q I r h
  obtain ⟨x, d, rfl, hd, hs, q⟩ := h
  obtain ⟨u, rfl, ru⟩ := vals1 r
  have hz := hs.len
  have hdp := hs.dp
  have S := Dx.shw I d x u hd ru hs.sh hz
  have fin : ∀ h' t tk, (∀ b o, s.heap.get? b = some o → h'.get? b = some o) →
      EP X pins σ Q (.str d.shown t) { s with heap := h', toks := tk } := fun h' t tk k =>
    ⟨.str d.shown, H, I.kept k, ⟨t, rfl⟩, q⟩
  cases hd with
  | non =>
    cases ru
    simp only [PyData.shown] at fin
    exact PySem.P.repr_of_none (fin s.heap _ _ fun _ _ e => e)
  | bl b =>
    cases ru
    simp only [PyData.shown] at fin
    exact PySem.P.repr_of_bool (fin s.heap _ _ fun _ _ e => e)
  | int i =>
    obtain ⟨t, rfl⟩ := ru
    simp only [PyData.shown] at fin
    exact PySem.P.repr_of_int (by simpa [PyData.showable] using hs.sh) (fin s.heap _ _ fun _ _ e => e)
  | str z =>
    obtain ⟨t, rfl⟩ := ru
    simp only [PyData.shown] at fin hz
    exact PySem.P.repr_of_str (fin s.heap _ _ fun _ _ e => e) hz
  | lst hl ha =>
    cases ru
    rename_i a xs ds
    obtain ⟨its, rv, ⟨o, n, ho, hc, _, hdt⟩, _⟩ := I.list hl
    simp only [PyData.shown] at hz fin
    simp only [PyData.depth] at hdp
    have ss : PyData.showableAll ds = true := by simpa [PyData.showable] using hs.sh
    obtain ⟨⟨as, ra⟩, bs, mb, kb⟩ := Dx.shwAll I ds _ its ha rv ss
      fun t ht => Nat.le_trans (listText_mem_le ht) hz
    have rr := Reads.list ho hc hdt ra
    refine call_repr_slot (by omega) ⟨o, ho, hc⟩ F.slot_list_repr.toG ?_
    cases its with
    | nil =>
      cases ra
      simp only [PyData.shownAll, listText_nil] at fin
      exact call_list_repr_empty ⟨o, ho, hc⟩ ho hdt ⟨_, _, rfl, fin s.heap _ _ fun _ _ e => e⟩
    | cons y l =>
      exact call_list_reprK ho hc hdt (not_mem_of_deeper rr (by simp only [PyData.depth]; omega) mb)
        (by simpa using kb.length_eq) (fun i z e => kb.item i z (by simpa using e)) hG
        (fun b _ => Clear.nil b) (by show X.A.units + 1 + _ < cLine; omega) (fun _ _ e => e)
        (fun h' t tk k => ⟨_, _, rfl, fin h' t tk k⟩) hz
  | tup hl ha =>
    cases ru
    rename_i a xs ds
    obtain ⟨its, rv, ⟨o, ho, hc, n, hdt⟩, _⟩ := I.tuple hl
    simp only [PyData.shown] at hz fin
    simp only [PyData.depth] at hdp
    have ss : PyData.showableAll ds = true := by simpa [PyData.showable] using hs.sh
    obtain ⟨⟨as, ra⟩, bs, mb, kb⟩ := Dx.shwAll I ds _ its ha rv ss
      fun t ht => Nat.le_trans (tupleText_mem_le ht) hz
    have rr := Reads.tuple ho hc hdt ra
    refine call_repr_slot (by omega) ⟨o, ho, hc⟩ F.slot_tuple_repr ?_
    exact call_tuple_reprK ho hc hdt (not_mem_of_deeper rr (by simp only [PyData.depth]; omega) mb) kb hG
      (fun b _ => Clear.nil b) (by show X.A.units + 1 + _ < cLine; omega) (fun _ _ e => e)
      (fun h' t tk k => ⟨_, _, rfl, fin h' t tk k⟩) hz
  | dic hl ha =>
    cases ru
    rename_i a kvs es
    obtain ⟨hsz, hsys, vs, kv, o, ents, ep, ho, hx, hdt, _, hp, _⟩ := dk_rd I.hok hl
    obtain ⟨hs1, hs2⟩ := PyData.showableKv_split es (by simpa [PyData.showable] using hs.sh)
    simp only [PyData.shown] at hz fin
    simp only [PyData.depth] at hdp
    obtain ⟨kr, vr⟩ := kv_read kv hp
    have ek := DxKv.keys ha
    obtain ⟨⟨_, r1⟩, b1, m1, k1⟩ := kr s.heap _ ek hs1 fun t ht =>
      let ⟨p, hp, hl⟩ := PyData.shownKv_key_le es t ht
      Nat.le_trans hl (Nat.le_trans (dictText_mem_le hp) hz)
    obtain ⟨⟨_, r2⟩, b2, m2, k2⟩ := Dx.shwAll2 I es _ _ ha vr hs2 fun t ht =>
      let ⟨p, hp, hl⟩ := PyData.shownKv_val_le es t ht
      Nat.le_trans hl (Nat.le_trans (dictText_mem_le hp) hz)
    have rr : Reads s.heap (.ref _) (.dict es) _ := Reads.dict ho hx.1 hdt r1 r2
    have mb := (m1.mono (PyData.depthAll_keys_le es)).append (m2.mono (PyData.depthAll_vals_le es))
    rw [PyData.shownKv_eq] at fin hz
    refine call_repr_slot (by omega) ⟨o, ho, hx.1⟩ F.slot_dict_repr ?_
    exact call_dict_reprK ho hx.1 hdt hsys (not_mem_of_deeper rr (by simp only [PyData.depth]; omega) mb)
      (ReprEntriesK.of_two ents.toList _ _
        (k1.more_le (fun _ z => List.mem_append_left _ z) (PyData.depthAll_keys_le es))
        (k2.more_le (fun _ z => List.mem_append_right _ z) (PyData.depthAll_vals_le es))) hG
      (fun b _ => Clear.nil b) (by show X.A.units + 1 + _ < cLine; omega) (fun _ _ e => e)
      (fun h' t tk k => ⟨_, _, rfl, fin h' t tk k⟩) hz

/-! ### powers of great numbers -/
def CPowX (i j : Int) : Prop := 0 ≤ j ∧ (Builtin.Int.intBits i : Int) * j ≤ 2 ^ 27
theorem op_powX {X : Cx} : OpR X (binaryOp .Pow) (rI CPowX fun i j => .int (i ^ j.toNat)) :=
  opI fun _ _ _ _ _ _ _ hc q => pow_int hc.1 hc.2 q
end Rm

set_option maxRecDepth 100000
set_option maxHeartbeats 4000000
namespace Rm
open PySem PySem.Spec L2
open PyProof.Rows hiding St

/-! ### what is called, in one word each -/
/-- the module's name x is a def that keeps sp -/
def Ce (P : Program) (w : World) (K : PySem.W.Frag) (mg : Str → Option Value) (base : Heap) (CX : CXT)
    (k : Nat) (x : Str) (ps : List Str) (sp : Sp) : Prop :=
  ∃ f fd, mg x = some (.ref f) ∧ PySem.W.keepIn K (.ref f) = true ∧ Binds K fd ps [] ∧
    FnG P w K mg base CX k f fd ps sp
/-- the class at C has the method m that keeps sp -/
def Cm (P : Program) (w : World) (K : PySem.W.Frag) (mg : Str → Option Value) (base : Heap) (CX : CXT)
    (k : Nat) (C : Addr) (m : Str) (ps : List Str) (sp : Sp) : Prop :=
  ∃ f fd, Cls K C ∧ Meth K C m f ∧ Binds K fd ps [] ∧ FnG P w K mg base CX k f fd ps sp
/-- the module's name x is a class whose __init__ keeps sp -/
def Cn (P : Program) (w : World) (K : PySem.W.Frag) (mg : Str → Option Value) (base : Heap) (CX : CXT)
    (k : Nat) (x : Str) (C : Addr) (ps : List Str) (sp : Sp) : Prop :=
  ∃ f fd, mg x = some (.ref C) ∧ Mk K C f ∧ Binds K fd ps [] ∧ FnG P w K mg base CX k f fd ps sp
/-- the class at C has the property m that keeps sp -/
def Cp (P : Program) (w : World) (K : PySem.W.Frag) (mg : Str → Option Value) (base : Heap) (CX : CXT)
    (k : Nat) (C : Addr) (m : Str) (sp : Sp) : Prop :=
  ∃ p g fd, Cls K C ∧ PropOf K C m p g ∧ Binds K fd ["self"] [] ∧ FnG P w K mg base CX k g fd ["self"] sp

section
variable {X : Cx} {CX : CXT} {k : Nat} {C : Addr} {ps : List Str} {sp : Sp}
variable {E : XK} {x m : Str} {p pos apos : Pos} {e o : Expr}
variable {es : List Expr} {ta : TE} {t : TA}
theorem pe_ce (D : Ce X.prog X.w X.K X.mg X.base CX k x ps sp) (hr : Room k X.A) (hG : Gd X.A)
    (ha : PA X (e :: es) t) (hx : Passes CX X E) (hg : Gl X x := by rfl)
    (hdb : (x == ("__debug__" : Str)) = false := by decide)
    (he : starEach (e :: es) X.env = (false, eval e X.env) :: starEach es X.env := by rfl)
    (hpl : (backTo pos (starEach es X.env)).any (·.1) = false := by rfl) :
    PE X (.Call (.Name x p) (e :: es) [] pos) (tCall sp [] E t) :=
  let ⟨_, _, hm, hk, hb, F⟩ := D
  pe_fn F hr hG hg hm hk hb .nil hx ha hdb he hpl
theorem pe_ce0 (D : Ce X.prog X.w X.K X.mg X.base CX k x ps sp) (hr : Room k X.A) (hG : Gd X.A)
    (hx : Passes CX X E) (hg : Gl X x := by rfl)
    (hdb : (x == ("__debug__" : Str)) = false := by decide) :
    PE X (.Call (.Name x p) [] [] pos) (tCall sp [] E tNil) :=
  let ⟨_, _, hm, hk, hb, F⟩ := D
  pe_fn0 F hr hG hg hm hk hb .nil hx hdb
theorem pe_cm {pl : Sem Bool} (D : Cm X.prog X.w X.K X.mg X.base CX k C m ps sp) (hr : Room k X.A)
    (hG : Gd X.A) (he : PE X o ta) (ha : PA X (e :: es) t) (hx : Passes CX X E)
    (hst : starEach (e :: es) X.env = (false, eval e X.env) :: starEach es X.env := by rfl)
    (hpl : (backTo pos (starEach es X.env)).any (·.1) = false := by rfl)
    (ht : eval (.Call (.Attribute o m apos) (e :: es) [] pos) X.env = (do
      let ov ← eval o X.env
      standAt apos.atName
      let (g, first) ← holding [ov] (getMethod ov m pl)
      callWith pos g first (backTo pos (starEach (e :: es) X.env))
        (backToKw pos (keywordEach [] X.env))) := by rfl) :
    PE X (.Call (.Attribute o m apos) (e :: es) [] pos) (tMeth C m sp [] E ta t) :=
  let ⟨_, _, c, hm, hb, F⟩ := D
  pe_mth he c hm F hr hG hb .nil hx ha hst hpl ht
theorem pe_cm0 {pl : Sem Bool} (D : Cm X.prog X.w X.K X.mg X.base CX k C m ps sp) (hr : Room k X.A)
    (hG : Gd X.A) (he : PE X o ta) (hx : Passes CX X E)
    (ht : eval (.Call (.Attribute o m apos) [] [] pos) X.env = (do
      let ov ← eval o X.env
      standAt apos.atName
      let (g, first) ← holding [ov] (getMethod ov m pl)
      callWith pos g first (backTo pos (starEach [] X.env))
        (backToKw pos (keywordEach [] X.env))) := by rfl) :
    PE X (.Call (.Attribute o m apos) [] [] pos) (tMeth C m sp [] E ta tNil) :=
  let ⟨_, _, c, hm, hb, F⟩ := D
  pe_mth0 he c hm F hr hG hb .nil hx ht
theorem pe_cn (D : Cn X.prog X.w X.K X.mg X.base CX k x C ps sp) (hr : Room (k + 1) X.A) (hG : Gd X.A)
    (ha : PA X (e :: es) t) (hx : Passes CX X E) (hg : Gl X x := by rfl)
    (hdb : (x == ("__debug__" : Str)) = false := by decide)
    (he : starEach (e :: es) X.env = (false, eval e X.env) :: starEach es X.env := by rfl)
    (hpl : (backTo pos (starEach es X.env)).any (·.1) = false := by rfl) :
    PE X (.Call (.Name x p) (e :: es) [] pos) (tMake C sp [] E t) :=
  let ⟨_, _, hm, M, hb, F⟩ := D
  pe_new M F hr hG hg hm hb .nil hx ha hdb he hpl
theorem pe_cn0 (D : Cn X.prog X.w X.K X.mg X.base CX k x C ps sp) (hr : Room (k + 1) X.A) (hG : Gd X.A)
    (hx : Passes CX X E) (hg : Gl X x := by rfl)
    (hdb : (x == ("__debug__" : Str)) = false := by decide) :
    PE X (.Call (.Name x p) [] [] pos) (tMake C sp [] E tNil) :=
  let ⟨_, _, hm, M, hb, F⟩ := D
  pe_new0 M F hr hG hg hm hb .nil hx hdb
end

/-! ### properties -/
section
variable {X : Cx} {CX : CXT} {k : Nat} {C : Addr} {sp : Sp} {E : XK} {f : Str} {pos : Pos} {e : Expr} {ta : TE}
theorem pe_cp (D : Cp X.prog X.w X.K X.mg X.base CX k C f sp) (hr : Room (k + 1) X.A) (hG : Gd X.A)
    (he : PE X e ta) (hx : Passes CX X.nox E)
    (hab : attributeBase e f X.env (eval e X.env) = eval e X.env := by rfl) :
    PE X (.Attribute e f pos) (tProp C sp [] E ta) := by
  obtain ⟨p, g, fd, c, hp, hb, F⟩ := D
  constructor
  intro pins s σ H Q I h
  refine attr_of hab (thn (he.run pins s σ H _ I h) fun u s1 ⟨x, H1, I1, rx, a, dx, fs, ex, ea, q⟩ => ?_)
  obtain rfl := ex
  have ru : u = Value.ref a := rx
  rw [ru]
  obtain ⟨mA, O, _⟩ := ins_get I1.hok ea
  obtain ⟨od, J, _⟩ := O.look
  obtain ⟨rest, hrec⟩ := hp.rec_
  have I2 := I1.tok (s1.toks + 1)
  have pg := PySem.W.plainGet_of (c.get f)
  have hc : (PySem.W.clsIn X.K C).isSome = true := by
    obtain ⟨cd, z, _⟩ := PySem.W.any_some c.hd
    rw [z]; rfl
  refine PySem.W.get_bind I1.kIn J pg.1 (PySem.W.findObj_data hc hp.at_ hp.get hp.tak) pg.2
    (wpAny_call (PySem.W.prop_get (s := { s1 with toks := s1.toks + 1 }) I1.kIn hrec ?_))
  refine codeAny_mono (F.run X.A.in1 X.stack _ H1 ⟨[.ref a], []⟩ [.ref a] [.ref a] Q E hr.in1 hG.in1
    I2.env0.in1 (hb _ [.ref a] I2.kIn rfl) (.cons rfl .nil) q) fun r s' hq => ?_
  match r, hq with
  | .error er, hq => exact False.elim (hx pins σ H1 _ er s' (I2.wish _) hq)
  | .ok (.ret v), hq =>
    obtain ⟨y, H', I3, rv, q3⟩ := I2.after hq
    show wpAny _ _ (handedOut v) _ _ _
    rw [PySem.W.handedOut_of (handed_of rv)]
    exact wpAny_pure ⟨y, H', I3, rv, q3⟩
  | .ok .next, hq => exact False.elim hq
  | .ok .brk, hq => exact False.elim hq
  | .ok .cont, hq => exact False.elim hq
end

/-! ### the tape -/
def tapeO (dg mx : Int) : HO := .dK [(.inr "digits", .int dg), (.inr "mixed", .int mx)]
structure TapeOk (dg mx : Int) : Prop where
  d0 : 0 ≤ dg
  m0 : 0 ≤ mx
  m1 : mx < 4294967296
def IsTape (o : HO) : Prop := ∃ dg mx, o = tapeO dg mx ∧ TapeOk dg mx
theorem s_dm : ¬ (("digits" : Str) = ("mixed" : Str)) := by decide +kernel
theorem s_md : ¬ (("mixed" : Str) = ("digits" : Str)) := by decide +kernel
theorem k_dm : ¬ ((Sum.inr ("digits" : Str) : Key) = Sum.inr ("mixed" : Str)) := by decide +kernel
theorem k_md : ¬ ((Sum.inr ("mixed" : Str) : Key) = Sum.inr ("digits" : Str)) := by decide +kernel
section
variable {H : Hp} {t : Addr} {dg mx z : Int}
theorem tape_dg (h : H t = some (tapeO dg mx)) : DGet H t (.str "digits") (some (.int dg)) := by
  have e := DGet.k (k := Sum.inr ("digits" : Str)) h
  rw [valV_pos rfl] at e
  exact e
theorem tape_mx (h : H t = some (tapeO dg mx)) : DGet H t (.str "mixed") (some (.int mx)) := by
  have e := DGet.k (k := Sum.inr ("mixed" : Str)) h
  rw [valV_neg k_dm, valV_pos rfl] at e
  exact e
theorem tape_pd (h : H t = some (tapeO dg mx)) : DPut H t (.str "digits") (.int z) (upd H t (tapeO z mx)) := by
  have e := DPut.k (k := Sum.inr ("digits" : Str)) (v := .int z) h (small1000 (by show 2 ≤ 1000; decide))
  have q : putK [((Sum.inr "digits" : Key), V.int dg), (.inr "mixed", .int mx)] (Sum.inr "digits") (V.int z)
      = [(.inr "digits", .int z), (.inr "mixed", .int mx)] := by
    unfold putK
    simp [s_md]
  rw [q] at e
  exact e
theorem tape_pm (h : H t = some (tapeO dg mx)) : DPut H t (.str "mixed") (.int z) (upd H t (tapeO dg z)) := by
  have e := DPut.k (k := Sum.inr ("mixed" : Str)) (v := .int z) h (small1000 (by show 2 ≤ 1000; decide))
  have q : putK [((Sum.inr "digits" : Key), V.int dg), (.inr "mixed", .int mx)] (Sum.inr "mixed") (V.int z)
      = [(.inr "digits", .int dg), (.inr "mixed", .int z)] := by
    unfold putK
    simp [s_dm]
  rw [q] at e
  exact e
end
/-- a number from 0 to many - 1; the tape goes on -/
def spPick : Sp := fun vs H Q _ => ∃ (t : Addr) (o : HO) (n : Int), vs = [.ref t, .int n] ∧ H t = some o ∧ IsTape o ∧
  1 ≤ n ∧ n ≤ 1000000 ∧ ∀ (k : Int) (o' : HO), 0 ≤ k → k < n → IsTape o' → Q (.int k) (upd H t o')
theorem bits32 {m : Int} (h0 : 0 ≤ m) (h1 : m < 4294967296) : Builtin.Int.intBits m ≤ 32 := by
  unfold Builtin.Int.intBits
  split
  · omega
  · have : m.natAbs.log2 < 32 := PySem.Flt.log2_lt_of (by decide) (by omega)
    omega
theorem pow32 {m j : Int} (h0 : 0 ≤ m) (h1 : m < 4294967296) (hj : 0 ≤ j) (hj2 : j ≤ 100) : CPowX m j := by
  refine ⟨hj, ?_⟩
  have b := bits32 h0 h1
  have : (Builtin.Int.intBits m : Int) * j ≤ 32 * 100 :=
    Int.mul_le_mul (by omega) hj2 hj (by decide)
  omega
end Rm

set_option maxRecDepth 100000
set_option maxHeartbeats 4000000
namespace Rm
open PySem PySem.Spec L2
open PyProof.Rows hiding St

theorem ib_lt {x : Int} {n : Nat} (h : Builtin.Int.intBits x ≤ n) : x.natAbs < 2 ^ n := by
  unfold Builtin.Int.intBits at h
  split at h
  · rename_i e
    have : x = 0 := by simpa using e
    subst this
    exact Nat.two_pow_pos n
  · rename_i e
    have e' : x.natAbs ≠ 0 := by
      intro z
      exact e (by simp [Int.natAbs_eq_zero.mp z])
    have q := (Nat.log2_lt e').1 (show x.natAbs.log2 < n by omega)
    exact q
theorem ib_of {x : Int} {n : Nat} (h : x.natAbs < 2 ^ n) : Builtin.Int.intBits x ≤ n := by
  unfold Builtin.Int.intBits
  split
  · omega
  · rename_i e
    have e' : x.natAbs ≠ 0 := by
      intro z
      exact e (by simp [Int.natAbs_eq_zero.mp z])
    have := (Nat.log2_lt e').2 h
    omega
theorem ib_mul {x y : Int} {n m : Nat} (h : Builtin.Int.intBits x ≤ n) (h' : Builtin.Int.intBits y ≤ m) :
    Builtin.Int.intBits (x * y) ≤ n + m := by
  apply ib_of
  rw [Int.natAbs_mul, Nat.pow_add]
  exact Nat.mul_lt_mul'' (ib_lt h) (ib_lt h')
theorem ib_mono {x : Int} {n m : Nat} (h : Builtin.Int.intBits x ≤ n) (hm : n ≤ m) : Builtin.Int.intBits x ≤ m :=
  Nat.le_trans h hm
theorem ib_add {x y : Int} {n : Nat} (h : Builtin.Int.intBits x ≤ n) (h' : Builtin.Int.intBits y ≤ n) :
    Builtin.Int.intBits (x + y) ≤ n + 1 := by
  apply ib_of
  have a := ib_lt h
  have b := ib_lt h'
  have c := Int.natAbs_add_le x y
  rw [Nat.pow_succ]
  omega
/-- the tape's mixing: the power of a cell's square -/
theorem mix_pow {m c : Int} (h0 : 0 ≤ m) (h1 : m < 4294967296) (hc : Builtin.Int.intBits c ≤ 1048576) :
    CMulX m 30013 ∧ CMulX c c ∧ CPowX (m * 30013 + c * c + 11) 2 := by
  have bm := bits32 h0 h1
  have b3 : Builtin.Int.intBits (30013 : Int) ≤ 32 := bits32 (by decide) (by decide)
  have b1 : Builtin.Int.intBits (11 : Int) ≤ 32 := bits32 (by decide) (by decide)
  have s1 := ib_add (n := 2097152) (ib_mono (ib_mul bm b3) (by decide)) (ib_mono (ib_mul hc hc) (by decide))
  have s2 := ib_add (n := 2097153) s1 (ib_mono b1 (by decide))
  refine ⟨?_, ?_, by decide, ?_⟩
  · unfold CMulX; omega
  · unfold CMulX; omega
  · have e : (2 : Int) ^ 27 = 134217728 := by decide
    rw [e]
    omega
/-- a list that is read stands while the tape goes on -/
theorem sq_tape {K : PySem.W.Frag} {H : Hp} {t l : Addr} {o o' : HO} {xs : List V} (h : SqL K H l xs)
    (ht : H t = some o) (ho : IsTape o) : SqL K (upd H t o') l xs := by
  obtain ⟨dg, mx, rfl, _⟩ := ho
  rcases h with (h | ⟨ob, h⟩) | h
  · have ne : l ≠ t := fun e => by
      subst e; rw [ht] at h; cases h
    exact .inl (.inl (by rw [upd_ne ne]; exact h))
  · have ne : l ≠ t := fun e => by
      subst e; rw [ht] at h; cases h
    exact .inl (.inr ⟨ob, by rw [upd_ne ne]; exact h⟩)
  · exact .inr h
/-- a drawn item -/
def spOne (K : PySem.W.Frag) : Sp := fun vs H Q _ => ∃ (t l : Addr) (o : HO) (xs : List V), vs = [.ref t, .ref l] ∧
  H t = some o ∧ IsTape o ∧ SqL K H l xs ∧ 1 ≤ xs.length ∧ xs.length ≤ 1000000 ∧
  ∀ (i : Nat) (v : V) (o' : HO), xs[i]? = some v → IsTape o' → Q v (upd H t o')
/-- a new tape -/
def spTape (K : PySem.W.Frag) : Sp := fun vs H Q _ => ∃ (a : Addr) (ns : List Int) (z : Int), vs = [.ref a, .int z] ∧
  SqL K H a (ns.map V.int) ∧ ns.length ≤ 63 ∧ (∀ n ∈ ns, Builtin.Int.intBits n ≤ 1048576) ∧ 0 ≤ z ∧ z ≤ 1000 ∧
  ∀ (p : Addr) (o : HO), H p = none → IsTape o → Q (.ref p) (upd H p o)
end Rm

set_option maxRecDepth 100000
set_option maxHeartbeats 4000000
namespace Rm
open PySem PySem.Spec L2
open PyProof.Rows hiding St

/-! ### an own error whose __init__ says super().__init__(text); self.y = y -/
/-- the built-in __init__, bound to the error e, is called -/
theorem call_mw {prog : Program} {w : World} {A : Around} {E : Value → Shared → Prop} {h : Heap}
    {g : Array GenState} {d : Drawn} {tk : Nat} {os : OsState} {u e C t0 : Addr} {dv : Option Addr}
    {rest : List Value} {Q : Value → Shared → Prop} {nm q : Str} {N : Addr} {bs bm : List Value}
    {hdct : Bool} {sn : List Str} {sub : List Value} {ab : Bool} {col : Option Bool} {dd : Option Addr}
    {k0 k1 k2 k3 k5 : Option Value}
    (hC : h.get? C = some (excClassObj nm q C N bs bm hdct sn sub ab col dd k0 k1 k2 k3 k5 "ValueError.__new__"))
    (he : h.get? e = some (PySem.W.excObj C t0 dv .none))
    (hu : h.get? u = some (PySem.W.kxs_mw "ValueError.__init__" e)) (hz : rest.length ≤ sizeLine)
    (k : ∀ h', (∀ b o, b ≠ e → h.get? b = some o → h'.get? b = some o) →
      h'.get? e = some (PySem.W.excObj C h.objs.size dv .none) → Q .none ⟨h', g, d, tk, os⟩) :
    wpAny (model prog w) A (call (.ref u) rest) Q E ⟨h, g, d, tk, os⟩ := by
  apply wpAny_call
  apply codeAny_of_tree
  show wpAny _ A.in1 (callAny (.ref u) ⟨rest, []⟩) _ _ _
  unfold callAny
  apply wpAny_bind
  apply wpAny_load hu
  have t1 : (Value.type "method-wrapper" == Value.type "method") = false := by decide
  have t2 : (Value.type "method-wrapper" == Value.type "builtin_function_or_method") = false := by decide
  have t3 : (Value.type "method-wrapper" == Value.type "method-wrapper") = true := by decide
  simp only [PySem.W.kxs_mw, t1, t2, t3, Bool.false_or, Bool.or_true, if_true]
  refine PySem.W.KFB.if_so (by decide) ?_
  apply wpAny_bind
  refine PySem.W.check_bound_init F.excBase_ValueError.toExcCallFacts hC he rfl ?_
  apply wpAny_pure
  refine ⟨plainId_quiet F.excBase_ValueError.init.plain _, codeAny_builtin F.excBase_ValueError.initEntry ?_⟩
  exact PySem.W.exc_init_tree (cls := .ref C) (t0 := t0) (dv := dv) (c2 := .none) (c3 := .none)
    (b4 := .bool false) he hz fun h' k1 k2 _ => k h' k1 k2

/-- what the written part says of the error class at C, its def f of __init__ (name, text), and what these lean on -/
structure ErrC (prog : Program) (K : PySem.W.Frag) (C f : Addr) (qual y : Str) (params : Arguments)
    (body : List Stmt) (scope : Scope) (fd : FuncData) : Prop where
  ox : OexC K C
  fn : ∃ (oc : Value) (od : Option Addr) (dV kV doc pm : Value) (an : Option Addr) (cda cc : Addr) (ct : Value)
    (osl : Array (Option Value)) (ccl cl : Value) (cdd cld : Option Addr) (vs : Array Value) (ccs csl : Array (Option Value)) (file : Str) (tf : Tok),
    fd = PySem.W.ksFn "__init__" qual params body scope dV kV doc pm an (.ref cda) ct cc ∧
    K.lookup f = some ⟨oc, od, .func fd, osl⟩ ∧ PySem.W.codeIn K (.ref cda) qual = true ∧
    K.lookup cda = some ⟨ccl, cdd, .fields vs, ccs⟩ ∧ vs[2]? = some (.str file tf) ∧
    ((prog.main.file : Str) == file) = true ∧ K.lookup cc = some ⟨cl, cld, .cell (some (.ref C)), csl⟩
  any_ : PySem.W.nsIn K cStatics "thirdparty.any" = some none
  sup : PySem.W.ks_superIn K C C "__init__" = some (some (.builtin "ValueError.__init__"))
  sub : PySem.W.subIn K (.ref C) (.type "ValueError") = some true
  self_ : PySem.W.mroIn K C (.ref C) = some true
  no : PySem.W.findIn K (.ref C) y = some none
  ini : PySem.W.findIn K (.ref C) "__init__" = some (some (.ref f))
  typ : PySem.W.typeIn K (.ref f) = some (.type "function")

/-- the promise of such an __init__ -/
def spErr (K : PySem.W.Frag) (C : Addr) (y : Str) : Sp := fun vs H Q _ => ∃ (a : Addr) (v : V), vs = [.ref a, v] ∧
  H a = some (exo a C none) ∧ ∀ dx, H dx = none → dx ≠ a →
    Q .non (upd (upd H dx (exd dx [(y, v)])) a (exo a C (some dx)))


section
variable {P : Program} {w : World} {K : PySem.W.Frag} {mg : Str → Option Value} {base : Heap}
theorem fn_err {f C : Addr} {fd : FuncData} {qual y : Str} {params : Arguments} {body : List Stmt} {scope : Scope}
    {CX : CXT} {msg : Str} {j : Nat} {p0 p1 p2 p3 p4 p5 q0 q1 q2 q3 : Pos} {ar : Arg} {ars : List Arg}
    (T : ErrC P K C f qual y params body scope fd)
    (hbody : body = [.Expr (.Call (.Attribute (.Call (.Name "super" p0) [] [] p1) "__init__" p2) [.Constant (.str msg) j p3] [] p4) p5,
      .Assign [.Attribute (.Name "self" q0) y q1] (.Name y q2) q3])
    (hsc : scope.names = ([(("self" : Str), NameKind.local), (y, .local), (("__class__" : Str), .free), (("super" : Str), .globalImplicit)] : List (Str × NameKind)))
    (hk : scope.kind = .function) (hco : scope.isCoroutine = false) (hgen : scope.isGenerator = false)
    (hpar : (params.posonlyargs ++ params.args).head? = some ar) (har : ar.arg = "self")
    (hsup : mg "super" = none) (htop : (P.main.scope.names.lookup ("super" : Str)).isSome = false)
    (hy1 : ¬ y = "self") (hy2 : ¬ y = "__class__") (hy3 : ¬ y = "super") (hmsg : msg.length ≤ 1000)
    {pl : Env → Sem Bool} (hev : ∀ env : Env,
      eval (.Call (.Attribute (.Call (.Name "super" p0) [] [] p1) "__init__" p2) [.Constant (.str msg) j p3] [] p4) env = (do
        let ov ← attributeBase (.Call (.Name "super" p0) [] [] p1) "__init__" env (eval (.Call (.Name "super" p0) [] [] p1) env)
        standAt p2.atName
        let (g, first) ← holding [ov] (getMethod ov "__init__" (pl env))
        callWith p4 g first (backTo p4 (starEach [.Constant (.str msg) j p3] env)) []))
    (hyd : (y == ("__debug__" : Str)) = false) (hyc : (y == ("__classdict__" : Str)) = false) :
    FnG P w K mg base CX 2 f fd ([("self" : Str), y] : List Str) (spErr K C y) := by
  refine ⟨fun vs H Q E h => ?_, fun A outer s H args us vs Q E hr hG e0 hb r hsp => ?_⟩
  · obtain ⟨a, v, rfl, _⟩ := h
    rfl
  obtain ⟨oc, od, dV, kV, doc, pm, an, cda, cc, ct, osl, ccl, cl, cdd, cld, fvs, ccs, csl, file, tf, rfl, lk, hcd, lcd, hvs, hfile, lcc⟩ := T.fn
  obtain ⟨a, v, rfl, ha, q⟩ := hsp
  obtain ⟨u0, u, rfl, r0, ru⟩ := vals2 r
  obtain rfl : u0 = Value.ref a := r0
  have up : ∀ b o, base.get? b = some o → s.heap.get? b = some o := fun b o e => (e0.bs b o e).1
  have KX : K.In s.heap := e0.mod.kin.keeps up
  have lim : s.heap.NoLimit := e0.mod.nolimit.keeps up
  have l1 : scope.names.lookup ("self" : Str) = some .local := by rw [hsc]; rfl
  have l2 : scope.names.lookup y = some .local := by
    rw [hsc]
    have e : (y == ("self" : Str)) = false := by simpa using hy1
    simp [List.lookup, e]
  have l3 : scope.names.lookup ("__class__" : Str) = some .free := by
    rw [hsc]
    have e : (("__class__" : Str) == y) = false := by simpa using fun z => hy2 z.symm
    have e2 : (("__class__" : Str) == ("self" : Str)) = false := by decide +kernel
    simp [List.lookup, e, e2]
  have l4 : scope.names.lookup ("super" : Str) = some .globalImplicit := by
    rw [hsc]
    have e : (("super" : Str) == y) = false := by simpa using fun z => hy3 z.symm
    have e2 : (("super" : Str) == ("self" : Str)) = false := by decide +kernel
    have e3 : (("super" : Str) == ("__class__" : Str)) = false := by decide +kernel
    simp [List.lookup, e, e2, e3]
  refine ks_codeAny_call_defAt (fd := PySem.W.ksFn "__init__" qual params body scope dV kV doc pm an (.ref cda) ct cc)
    (body := body) (binds := ([("self" : Str), y] : List Str).zip [Value.ref a, u]) hr.depth (KX _ _ lk) rfl lim
    (PySem.W.codeRec_of KX hcd) rfl hb ?_ ?_ (fun h1 hns hk1 => ?_) hco hgen hk
  · intro x hx
    have hx' : x ∈ scope.names := hx
    rw [hsc] at hx'
    simp only [List.mem_cons, List.not_mem_nil, or_false] at hx'
    rcases hx' with rfl | rfl | rfl | rfl <;> simp
  · intro x hx
    simp only [List.zip_cons_cons, List.zip_nil_left, List.mem_cons, List.not_mem_nil, or_false] at hx
    rcases hx with rfl | rfl
    · exact l1
    · exact l2
  generalize hE : callEnv (PySem.W.ksFn "__init__" qual params body scope dV kV doc pm an (.ref cda) ct cc) s.heap.objs.size f = env
  have eenv : env = PySem.W.ksEnv qual scope s.heap.objs.size f (.ref cda) cc := by rw [← hE] <;> rfl
  have hcells : env.cells = ([(("__class__" : Str), cc)] : List (Str × Addr)) := by rw [eenv]
  let X : Cx := { prog := P, w := w, K := K, mg := mg, base := base, A := A.deeper env, N := [("self" : Str), y], s_0 := s, H_0 := H, env := env, outer := outer, stack := env :: outer, ex := [], calm := true, fn := fun _ => false, pn := [], xe := fun _ _ => False }
  have bcc : base.get? cc = some ⟨cl, cld, .cell (some (.ref C)), csl⟩ := e0.mod.kin _ _ lcc
  have okX : X.Ok := {
    mod := e0.mod
    kind := by show env.scope.kind = .function; rw [eenv]; exact hk
    glob := by show env.globals = _; rw [eenv]
    blt := by show env.builtins = _; rw [eenv]
    above := by show s.heap.objs.size ≤ env.locals; rw [eenv]; exact Nat.le_refl _
    inj := fun x z c h1 h2 => by
      have h1' : env.cells.lookup x = some c := h1
      have h2' : env.cells.lookup z = some c := h2
      rw [hcells] at h1' h2'
      have k1 : x = "__class__" := by
        have := PySem.mem_of_lookup h1'
        simp at this; exact this.1
      have k2 : z = "__class__" := by
        have := PySem.mem_of_lookup h2'
        simp at this; exact this.1
      rw [k1, k2]
    has := fun x hx => by
      have hx' : scope.names.lookup x = some .cell ∨ scope.names.lookup x = some .free := by
        have z : env.scope.names.lookup x = some .cell ∨ env.scope.names.lookup x = some .free := hx
        rw [eenv] at z; exact z
      have hm : x = "__class__" := by
        rcases hx' with hx' | hx' <;> (have := PySem.mem_of_lookup hx'; rw [hsc] at this; simp at this)
        exact this
      exact ⟨cc, by show env.cells.lookup x = some cc; rw [hcells, hm]; rfl⟩
    cab := fun x c h _ => by cases h
    hd := fun _ => hr.hd
    frames := Around.frames_deeper e0.frames
    stk := .inr ⟨rfl, by show env.frame = some env.locals; rw [eenv]⟩
    exf := fun b z => by cases z
    bs := e0.bs
    bsz := e0.bsz
    noex := fun b o _ z => by cases z
    exfs := fun b z => by cases z
    funs := e0.funs
    frf := e0.frf }
  have elocs : env.locals = s.heap.objs.size := by rw [eenv]
  have ekind : env.scope.kind = .function := by rw [eenv]; exact hk
  have enames : env.scope.names = scope.names := by rw [eenv]
  have bm : ([("self" : Str), y].zip [Value.ref a, u]).reverse = [(y, u), (("self" : Str), Value.ref a)] := rfl
  rw [bm] at hns
  have ey : (("self" : Str) == y) = false := by simpa using fun z => hy1 z.symm
  have m1 : List.lookup ("self" : Str) [(y, u), (("self" : Str), Value.ref a)] = some (Value.ref a) := by
    simp [List.lookup, ey]
  have m2 : List.lookup y [(y, u), (("self" : Str), Value.ref a)] = some u := by
    simp [List.lookup]
  have hns' : h1.Ns env.locals (fun x => List.lookup x [(y, u), (("self" : Str), Value.ref a)]) := by rw [elocs]; exact hns
  have hcc1 : (Heap.IsCell h1 cc (some (.ref C))) := ⟨_, hk1 _ _ (up _ _ bcc), rfl⟩
  have onecell : ∀ x c, env.cells.lookup x = some c → c = cc := fun x c hx => by
    rw [hcells] at hx
    have := PySem.mem_of_lookup hx
    simp at this
    exact this.2
  have I : Inv X [] [some (.ref a), some v] H { s with heap := h1, toks := s.toks + ([("self" : Str), y].zip [Value.ref a, u]).length } := {
    ok := okX
    os := rfl
    bare := e0.bare
    base := Un.kept hk1
    loc := ⟨_, hns', fun i x z n1 n2 n3 => by
      match i, n1, n2 with
      | 0, n1, n2 =>
        cases (show some ("self" : Str) = some x from n1)
        cases (show some (some (V.ref a)) = some (some z) from n2)
        exact ⟨_, rfl, .inl ⟨by show env.scope.names.lookup _ = _; rw [enames]; exact l1, m1⟩⟩
      | 1, n1, n2 =>
        cases (show some y = some x from n1)
        cases (show some (some v) = some (some z) from n2)
        exact ⟨u, ru, .inl ⟨by show env.scope.names.lookup _ = _; rw [enames]; exact l2, m2⟩⟩
      | i + 2, n1, n2 => cases (show (none : Option Str) = some x from n1)⟩
    cell := fun x c hx => ⟨some (.ref C), (onecell x c hx).symm ▸ hcc1⟩
    free := by show H env.locals = none; rw [elocs]; exact e0.hok.fresh (Nat.le_refl _)
    freeC := fun x c hx => by rw [onecell x c hx]; exact (e0.bs _ _ bcc).2
    pin := fun p hp => by cases hp
    hok := e0.hok.kept hk1
    len := rfl }
  subst hbody
  obtain ⟨nm, qn, N, bs, bm', sn, sub, ab, col, dd, k0, k1, k2, k3, k5, lC, hbm⟩ := T.ox.cls
  have hcl : PySem.W.clsIn K C = some { name := nm, bases := bs, mro := .ref C :: bm', ns := N, qualname := qn, hasDict := true, slotNames := sn, subclasses := sub, abstract := ab, collection := col, hasDel := false } := by
    unfold PySem.W.clsIn; rw [lC] <;> rfl
  refine ks_wpAt_execs_cons (ks_wpAt_Expr_any (ks_wpAt_MethodCall ?_ (hev env)) I.quiet)
  have e1 : env.kindOf "super" = some .globalImplicit := by show env.scope.names.lookup _ = _; rw [enames]; exact l4
  have e2 : env.kindOf "__class__" = some .free := by show env.scope.names.lookup _ = _; rw [enames]; exact l3
  have e3 : env.kindOf "self" = some .local := by show env.scope.names.lookup _ = _; rw [enames]; exact l1
  have e4 : env.func = some f := by rw [eenv]
  have e5 : env.code = .ref cda := by rw [eenv]
  refine ks_wpAt_super_base e1 e2 (by decide +kernel) e4 (hk1 _ _ (KX _ _ lk)) rfl hpar e5 (hk1 _ _ (KX _ _ lcd)) rfl hvs hfile htop ?_
  obtain ⟨mb, b1, b2⟩ := e0.mod.blt
  have up1 : ∀ b o, base.get? b = some o → h1.get? b = some o := fun b o e => hk1 _ _ (up b o e)
  have g1 : env.globals = mainGlobals := by rw [eenv]
  have g2 : env.builtins = builtinsNs := by rw [eenv]
  refine PySem.W.ks_loadName_global ekind e1 (Calls.loadGlobal_builtin (by rw [g1]; exact e0.mod.glob.keeps up1) hsup (by rw [g2]; exact b1.keeps up1) ((b2 _ (by decide +kernel)).trans (by decide +kernel)) ⟨rfl, ?_⟩)
  refine wpAny_loadName_free ekind e2 (by rw [hcells]; rfl) hcc1 ?_
  rw [har]
  refine wpAny_loadName_local ekind e3 hns' m1 ?_
  have KX1 : K.In h1 := KX.keeps hk1
  refine ks_wpAny_isType_cls (KX1 _ _ lC) rfl ⟨rfl, ?_⟩
  obtain ⟨t1, hx1⟩ := exo_at I.hok ha
  have iat : PySem.W.InstAt h1 a (PySem.W.excObj C t1 none .none) C none := ⟨hx1, rfl, rfl, trivial⟩
  refine ks_wpAny_call_super (KX1 _ _ lC) rfl hx1 rfl (fun c e => by cases e) (PySem.W.looks_mroIn KX1 T.self_) fun h2 hso hk2 => ?_
  have I2 := I.kept (t' := s.toks + ([("self" : Str), y].zip [Value.ref a, u]).length) hk2
  have KX2 : K.In h2 := KX1.keeps hk2
  have iat2 : PySem.W.InstAt h2 a (PySem.W.excObj C t1 none .none) C none := ⟨hk2 _ _ hx1, rfl, rfl, trivial⟩
  have hsu := T.sup
  unfold PySem.W.ks_superIn at hsu
  rw [hcl] at hsu
  refine PySem.W.kxs_getMethod PySem.W.kxs_ValueError hso (PySem.W.looks_opaque KX2 T.any_) (l₀ := .ref C :: bm')
    ((PySem.W.looks_clsIn KX2 hcl).andThen .now) rfl KX2 hsu (iat2.type.andThen (PySem.W.looks_subIn KX2 T.sub))
    (PySem.W.ks_ne KX2 iat2 hcl) (by decide +kernel) ?_
  have kp : ∀ b o, h2.get? b = some o → (h2.push (PySem.W.kxs_mw "ValueError.__init__" a)).get? b = some o :=
    fun b o e => Heap.get?_push_of_some _ e
  have I3 := I2.kept (t' := s.toks + ([("self" : Str), y].zip [Value.ref a, u]).length + 1) kp
  have hmw : (h2.push (PySem.W.kxs_mw "ValueError.__init__" a)).get? h2.objs.size = some (PySem.W.kxs_mw "ValueError.__init__" a) := Heap.get?_push_at rfl rfl
  refine PySem.W.kxs_callWith (i := "ValueError.__init__") (x := a) rfl (Calls.evalArgs_plain ?_)
  refine Calls.spliced_cons (Calls.Constant_str (k := j) (pos := p3) ?_)
  refine Calls.spliced_nil ⟨hmw, ?_⟩
  have I3' := I3.tok (s.toks + ([("self" : Str), y].zip [Value.ref a, u]).length + 1 + 1)
  refine call_mw ((KX2.keeps kp) _ _ lC) (kp _ _ (hk2 _ _ hx1)) hmw (by show 1 ≤ sizeLine; decide) fun h4 k4 hx4 => ?_
  have J := I3'.write (t' := s.toks + ([("self" : Str), y].zip [Value.ref a, u]).length + 1 + 1) (x := a) (e := a) (o := exo a C none) (by rw [ha]; exact True.intro) (.inl rfl) k4 ⟨_, hx4⟩ (exo_ok hx4)
  have eu : upd H a (exo a C none) = H := by
    funext b
    by_cases hb' : b = a
    · rw [hb', upd_same, ha]
    · rw [upd_ne hb']
  rw [eu] at J
  show PySem.wpAt _ _ _ _ _ _ _
  refine wpAt_of_wpAny ?_
  have P1 : PE X (.Name "self" q0) (tVar 0) := pe_var (i := 0) rfl (.inl e3) (by decide) (by decide)
  have P2 : PE X (.Name y q2) (tVar 1) := pe_var (i := 1) rfl (.inl (by show env.scope.names.lookup _ = _; rw [enames]; exact l2)) hyd hyc
  have body2 : PSs X [.Assign [.Attribute (.Name "self" q0) y q1] (.Name y q2) q3] (tOst K y (tVar 0) (tVar 1)) := pss_one (ps_ost P1 P2)
  refine wpAny_mono (body2.run [] _ _ H { nx := fun _ H' => Q .non H', rt := fun _ _ => False } J
    ⟨v, rfl, V.ref a, rfl, a, C, rfl, T.ox, T.no, .inl ⟨ha, fun dx n ne => q dx n ne⟩⟩) (fun fl s' hs => ?_) fun _ _ z => False.elim z
  match fl, hs with
  | .next, ⟨σ', H', J', q'⟩ => exact ⟨V.non, H', J'.os, J'.bare, J'.base, J'.hok, rfl, q'⟩
  | .ret _, ⟨_, _, _, _, _, q'⟩ => exact False.elim q'
  | .brk, ⟨_, _, _, q'⟩ => exact False.elim q'
  | .cont, ⟨_, _, _, q'⟩ => exact False.elim q'
end
end Rm

set_option maxRecDepth 100000
set_option maxHeartbeats 4000000
namespace Rm
open PySem PySem.Spec L2
open PyProof.Rows hiding St

/-- an own error class: x names the class at C, whose __init__ stores y -/
def Er (P : Program) (w : World) (K : PySem.W.Frag) (mg : Str → Option Value) (base : Heap) (x : Str)
    (C : Addr) (y : Str) : Prop :=
  ∃ f fd, mg x = some (.ref C) ∧ OexC K C ∧ PySem.W.findIn K (.ref C) "__init__" = some (some (.ref f)) ∧
    PySem.W.typeIn K (.ref f) = some (.type "function") ∧ PySem.W.keepIn K (.ref C) = true ∧
    Binds K fd [("self" : Str), y] [] ∧ FnG P w K mg base CX0 2 f fd [("self" : Str), y] (spErr K C y)

section
variable {X : Cx} {C : Addr} {y : Str}
/-- the call of the class: what stands behind it -/
structure Born (X : Cx) (pins : List (Addr × Obj)) (σ : L2.St) (H : Hp) (s : Shared) (C : Addr) (y : Str) (v : V) (u : Value) (s' : Shared) : Prop where
  ex : ∃ (a d : Addr) (hp2 : Heap), u = .ref a ∧ s.heap.objs.size ≤ a ∧ H a = none ∧ H d = none ∧ d ≠ a ∧
    (∀ b o, s.heap.get? b = some o → hp2.get? b = some o) ∧
    Un (frs X.stack) [] (upd H a (exo a C none)) (upd (upd (upd H a (exo a C none)) d (exd d [(y, v)])) a (exo a C (some d))) hp2 s'.heap ∧
    HOk X.prog X.w (upd (upd (upd H a (exo a C none)) d (exd d [(y, v)])) a (exo a C (some d))) s'.heap ∧ s'.os = s.os ∧ AllBare s'.gens

theorem born {x : Str} {pins : List (Addr × Obj)} {σ : L2.St} {H : Hp} {s : Shared} {v : V} {u : Value} {E : Value → Shared → Prop}
    (D : Er X.prog X.w X.K X.mg X.base x C y) (hr : Room 3 X.A) (hG : Gd X.A) (I : Inv X pins σ H s) (r : RelV v u) :
    wpAny (model X.prog X.w) X.A (call (.ref C) [u]) (Born X pins σ H s C y v) E s := by
  obtain ⟨f, fd, hm, T, iC, tI, kC, hb, F0⟩ := D
  obtain ⟨nm, q, N, bs, bm, sn, sub, ab, col, dd, k0, k1, k2, k3, k5, lC, hbm⟩ := T.cls
  obtain ⟨hp, g, dr, tk, os⟩ := s
  have one : hp.objs.size ≤ hp.objs.size + 1 := Nat.le_succ _
  have hn : H (hp.objs.size + 1) = none := I.hok.fresh one
  let hp2 := (hp.push (PySem.W.kdv_tup [u])).push (PySem.HandSPX.excO C hp.objs.size)
  have kk : ∀ b o, hp.get? b = some o → hp2.get? b = some o := fun b o e =>
    Heap.get?_push_of_some _ (Heap.get?_push_of_some _ e)
  have hget : hp2.get? (hp.objs.size + 1) = some (PySem.HandSPX.excO C hp.objs.size) := by
    show ((hp.push _).push _).get? _ = _
    heap_get
  have I2 := I.laid (t' := tk) (a := hp.objs.size + 1) (o := exo (hp.objs.size + 1) C none) (h' := hp2) kk one (exo_ok hget)
  have both : Vals [V.ref (hp.objs.size + 1), v] [Value.ref (hp.objs.size + 1), u] := .cons rfl (.cons r .nil)
  have hsp : spErr X.K C y [V.ref (hp.objs.size + 1), v] (upd H (hp.objs.size + 1) (exo (hp.objs.size + 1) C none))
      (fun z H2 => z = .non ∧ ∃ d, H d = none ∧ d ≠ hp.objs.size + 1 ∧
        H2 = upd (upd (upd H (hp.objs.size + 1) (exo (hp.objs.size + 1) C none)) d (exd d [(y, v)])) (hp.objs.size + 1) (exo (hp.objs.size + 1) C (some d)))
      (fun _ _ _ => False) :=
    ⟨_, v, rfl, upd_same, fun d n ne => ⟨rfl, d, by rw [upd_ne ne] at n; exact n, ne, rfl⟩⟩
  refine wpAny_call (PySem.HandSPX.call_own F.excBase_ValueError (fun Y => PySem.HandSPX.refsVE_contains Y bm hbm)
    (I.kIn _ _ lC) (PySem.W.looks_findIn I.kIn iC) (fun self => PySem.W.bind_fn I.kIn self tI) (by show 1 ≤ sizeLine; decide)
    (codeAny_mono (F0.run _ X.stack _ _ ⟨[Value.ref (hp.objs.size + 1), u], []⟩ _ _ _ (fun _ _ _ => False)
      (hr.make C [u] []) (hG.make C [u] []) (I2.env0.make C [u] []) (hb _ [Value.ref (hp.objs.size + 1), u] I2.kIn rfl) both hsp)
      fun rr s' hq => ?_))
  match rr, hq with
  | .ok (.ret z), ⟨zz, H2, os2, bare2, un2, hok2, rz, ez, d, hd, ne, eH⟩ =>
    subst ez
    subst eH
    exact ⟨rz, ⟨_, d, hp2, rfl, one, hn, hd, ne, kk, un2, hok2, os2, bare2⟩⟩
  | .error er, hq => exact False.elim hq
  | .ok .next, hq => exact False.elim hq
  | .ok .brk, hq => exact False.elim hq
  | .ok .cont, hq => exact False.elim hq

theorem born_eq {H : Hp} {a d : Addr} {o1 o2 o3 : HO} (ne : d ≠ a) :
    upd (upd (upd H a o1) d o2) a o3 = upd (upd H d o2) a o3 := by
  funext b
  by_cases h1 : b = a
  · rw [h1, upd_same, upd_same]
  · rw [upd_ne h1, upd_ne h1]
    by_cases h2 : b = d
    · rw [h2, upd_same, upd_same]
    · rw [upd_ne h2, upd_ne h2, upd_ne h1]

/-- C(e) as a value: a new error, its dict -/
def tBorn (C : Addr) (y : Str) (te : TE) : TE := fun σ H Q => tCons te tNil σ H fun vs H1 => ∃ v, vs = [v] ∧ ∀ a d, H1 a = none → H1 d = none → d ≠ a →
  Q (.ref a) (upd (upd H1 d (exd d [(y, v)])) a (exo a C (some d)))
/-- C(e) to be raised: its dict stands as an exception's dict -/
def tErr (C : Addr) (y : Str) (te : TE) : L2.St → Hp → XK → Prop := fun σ H Q => tCons te tNil σ H fun vs H1 => ∃ v, vs = [v] ∧ ∀ d, H1 d = none →
  Q (.ref C) (some d) (upd H1 d (.xd [(y, v)]))
variable {x : Str} {e : Expr} {te : TE} {p pos : Pos}
theorem pe_er (D : Er X.prog X.w X.K X.mg X.base x C y) (hr : Room 3 X.A) (hG : Gd X.A) (he : PE X e te) (hg : Gl X x := by rfl)
    (hdb : (x == ("__debug__" : Str)) = false := by decide)
    (hs : starEach [e] X.env = (false, eval e X.env) :: starEach [] X.env := by rfl)
    (hpl : (backTo pos (starEach [] X.env)).any (·.1) = false := by rfl) :
    PE X (.Call (.Name x p) [e] [] pos) (tBorn C y te) := by
  have D' := D
  obtain ⟨f, fd, hm, T, iC, tI, kC, hb, F0⟩ := D'
  refine ⟨fun pins s σ H Q I h => wpAny_Call_Name_kw (ld_glob I hg hm
    (PySem.W.callWith_K (h₀ := X.base) I.ok.mod.kin kC
      (thn ((pa_cons (X := X) (es := []) he pa_nil hs).run pos pins s σ H _ I (show tCons te tNil σ H _ from h)) fun us s1 ⟨vs, H1, I1, r, v, ev, q⟩ => ⟨I1.kIn, ?_⟩) hs hpl) hdb)⟩
  subst ev
  obtain ⟨u, rfl, ru⟩ := vals1 r
  refine thn (born D hr hG I1 ru) fun u2 s2 B => ?_
  obtain ⟨a, d, hp2, rfl, sz, na, nd, ne, kk, un, hok, ho, hb2⟩ := B.ex
  rw [born_eq ne] at un hok
  refine ⟨.ref a, _, ?_, rfl, q a d na nd ne⟩
  have un0 : Un (frs X.stack) [] H1 (upd (upd H1 d (exd d [(y, v)])) a (exo a C (some d))) s1.heap s2.heap := by
    have nha : ∀ {b : Addr} {o : Obj}, s1.heap.get? b = some o → b ≠ a := fun z => Nat.ne_of_lt (Nat.lt_of_lt_of_le (Heap.lt_size z) sz)
    have upn : ∀ {b : Addr}, b ≠ a → H1 b = none → upd H1 a (exo a C none) b = none := fun hb n => by rw [upd_ne hb]; exact n
    exact {
      keep := fun b o z n hf hx => un.keep b o (kk b o z) (upn (nha z) n) hf hx
      slot := fun b o z n hf hx => un.slot b o (kk b o z) (upn (nha z) n) hf hx
      free := fun b o z n hx => un.free b o (kk b o z) (upn (nha z) n) hx
      there := fun b o z hx => un.there b o (kk b o z) hx
      tups := fun b xs z => un.tups b xs (by rw [upd_ne (ne_of_none z na)]; exact z)
      frzs := fun b o w z => un.frzs b o w (by rw [upd_ne (ne_of_none z na)]; exact z)
      tbls := fun b ps z => un.tbls b ps (by rw [upd_ne (ne_of_none z na)]; exact z) }
  exact I1.call' (ch := []) ho un0 hok hb2 fun b z => absurd z (by simp)
/-- raise C(e) -/
theorem pmk_er (D : Er X.prog X.w X.K X.mg X.base x C y) (hr : Room 3 X.A) (hG : Gd X.A) (he : PE X e te) (hg : Gl X x := by rfl)
    (hdb : (x == ("__debug__" : Str)) = false := by decide)
    (hs : starEach [e] X.env = (false, eval e X.env) :: starEach [] X.env := by rfl)
    (hpl : (backTo pos (starEach [] X.env)).any (·.1) = false := by rfl) :
    PMk X (.Call (.Name x p) [e] [] pos) (tErr C y te) := by
  have D' := D
  obtain ⟨f, fd, hm, T, iC, tI, kC, hb, F0⟩ := D'
  intro pins s σ H Q I h
  refine wpAny_Call_Name_kw (ld_glob I hg hm (PySem.W.callWith_K (h₀ := X.base) I.ok.mod.kin kC
    (thn ((pa_cons (X := X) (es := []) he pa_nil hs).run pos pins s σ H _ I (show tCons te tNil σ H _ from h)) fun us s1 ⟨vs, H1, I1, r, v, ev, q⟩ => ⟨I1.kIn, ?_⟩) hs hpl) hdb)
  subst ev
  obtain ⟨u, rfl, ru⟩ := vals1 r
  refine thn (born D hr hG I1 ru) fun u2 s2 B => ?_
  obtain ⟨a, d, hp2, rfl, sz, na, nd, ne, kk, un, hok, ho, hb2⟩ := B.ex
  obtain ⟨h1, g1, d1, t1, o1⟩ := s1
  obtain ⟨h2, g2, d2, t2, o2⟩ := s2
  have q2 := q d nd
  have eq : upd (del (upd (upd (upd H1 a (exo a C none)) d (exd d [(y, v)])) a (exo a C (some d))) a) d (.xd [(y, v)]) = upd H1 d (.xd [(y, v)]) := by
    funext b
    by_cases h1 : b = d
    · rw [h1, upd_same, upd_same]
    · rw [upd_ne h1, upd_ne h1]
      by_cases h2 : b = a
      · rw [h2, del_same, na]
      · rw [del_ne h2, upd_ne h2, upd_ne h1, upd_ne h2]
  rw [← eq] at q2
  have ed : (upd (upd (upd H1 a (exo a C none)) d (exd d [(y, v)])) a (exo a C (some d))) d = some (exd d [(y, v)]) := by
    rw [upd_ne ne, upd_same]
  exact mk_end (raises_own T.exC T.tyC) I1 sz kk un hok ho hb2 upd_same ed nd q2
end
end Rm

set_option maxRecDepth 100000
set_option maxHeartbeats 4000000
namespace Rm
open PySem PySem.Spec L2
open PyProof.Rows hiding St

/-! ### calls whose errors are wished for at the caller's names -/
section
variable {X : Cx} {CX : CXT} {k : Nat} {f C : Addr} {fd : FuncData} {ps : List Str} {sp : Sp}
variable {dvs : List V} {ds : List Value} {E : L2.St → XK} {x m : Str} {p pos apos : Pos} {e o : Expr}
variable {es : List Expr} {ta : TE} {t : TA}
/-- behind a callee's end -/
theorem cameS {pins : List (Addr × Obj)} {σ : St} {H : Hp} {s s' : Shared} {Q : VK} {r : Result}
    (hx : ∀ σ, PassesAt CX X σ (E σ)) (I : Inv X pins σ H s)
    (hq : CR CX X.stack X.prog X.w H s Q (E σ) r s') :
    wants (EP X pins σ Q) X.xe r s' := by
  match r, hq with
  | .error e, hq => exact hx σ pins H s e s' I hq
  | .ok (.ret u), hq => exact I.after hq
  | .ok .next, hq => exact False.elim hq
  | .ok .brk, hq => exact False.elim hq
  | .ok .cont, hq => exact False.elim hq

theorem goesS {pins : List (Addr × Obj)} {σ : St} {H : Hp} {s : Shared} {Q : VK}
    {us : List Value} {vs : List V}
    (F : FnG X.prog X.w X.K X.mg X.base CX k f fd ps sp) (hr : Room k X.A) (hG : Gd X.A)
    (hb : Binds X.K fd ps ds) (hd : Vals dvs ds) (hx : ∀ σ, PassesAt CX X σ (E σ))
    (I : Inv X pins σ H s) (r : Vals vs us) (h : sp (vs ++ dvs) H Q (E σ)) :
    wpAny (model X.prog X.w) X.A (call (.ref f) us) (EP X pins σ Q) X.xe s := by
  have both := r.append hd
  have hl : (us ++ ds).length = ps.length := both.length.symm.trans (F.len _ _ _ _ h)
  exact wpAny_call (codeAny_mono (F.run X.A X.stack s H ⟨us, []⟩ _ _ Q (E σ) hr hG I.env0
    (hb s us I.kIn hl) both h) fun r s' hq => cameS hx I hq)

theorem growsS {pins : List (Addr × Obj)} {σ : St} {H : Hp} {s : Shared} {Q : VK}
    {us : List Value} {vs : List V} (M : Mk X.K C f)
    (F : FnG X.prog X.w X.K X.mg X.base CX k f fd ps sp) (hr : Room (k + 1) X.A) (hG : Gd X.A)
    (hb : Binds X.K fd ps ds) (hd : Vals dvs ds) (hx : ∀ σ, PassesAt CX X σ (E σ))
    (I : Inv X pins σ H s) (r : Vals vs us)
    (h : ∀ y dx, H y = none → H dx = none → dx ≠ y →
      sp (.ref y :: (vs ++ dvs)) (upd (upd H dx (.own y)) y (.ins C dx []))
        (fun v H2 => v = .non ∧ Q (.ref y) H2) (E σ)) :
    wpAny (model X.prog X.w) X.A (call (.ref C) us) (EP X pins σ Q) X.xe s := by
  have n1 : H (s.heap.objs.size + 1) = none := I.hok.fresh (Nat.le_succ _)
  have n0 : H s.heap.objs.size = none := I.hok.fresh (Nat.le_refl _)
  have hq := h _ _ n1 n0 (Nat.ne_of_lt (Nat.lt_succ_self _))
  have I2 := Inv.made (C := C) I
  have both : Vals (V.ref (s.heap.objs.size + 1) :: (vs ++ dvs))
      (Value.ref (s.heap.objs.size + 1) :: (us ++ ds)) := .cons rfl (r.append hd)
  have hl : (Value.ref (s.heap.objs.size + 1) :: us ++ ds).length = ps.length :=
    both.length.symm.trans (F.len _ _ _ _ hq)
  refine wpAny_call (make_map (f := f) I.kIn M.makes M.init (beq_iff_eq.mp M.fn)
    (codeAny_mono (F.run _ X.stack _ _ ⟨Value.ref (s.heap.objs.size + 1) :: us, []⟩ _ _ _ (E σ)
      (hr.make C us []) (hG.make C us []) (I2.env0.make C us [])
      (hb _ (Value.ref (s.heap.objs.size + 1) :: us) I2.kIn hl) both hq) fun r s' hq' => ?_))
  match r, hq' with
  | .error er, hq' => exact hx σ pins _ _ er s' I2 hq'
  | .ok (.ret u), hq' =>
    obtain ⟨v, H', I3, rv, ev, q3⟩ := I2.after hq'
    subst ev
    exact ⟨rv, V.ref (s.heap.objs.size + 1), H', I3, rfl, q3⟩
  | .ok .next, hq' => exact False.elim hq'
  | .ok .brk, hq' => exact False.elim hq'
  | .ok .cont, hq' => exact False.elim hq'


def tCallE (sp : Sp) (E : L2.St → XK) (t : TA) : TE := fun σ H Q => t σ H fun vs H1 => sp vs H1 Q (E σ)
def tMethE (C : Addr) (m : Str) (sp : Sp) (E : L2.St → XK) (ta : TE) (t : TA) : TE := fun σ H Q => ta σ H fun x H1 =>
  ∃ a dx fs, x = .ref a ∧ H1 a = some (.ins C dx fs) ∧ fs.lookup m = none ∧ t σ H1 fun vs H2 => sp (x :: vs) H2 Q (E σ)
def tMakeE (C : Addr) (sp : Sp) (E : L2.St → XK) (t : TA) : TE := fun σ H Q => t σ H fun vs H1 => ∀ x dx, H1 x = none → H1 dx = none → dx ≠ x →
  sp (.ref x :: vs) (upd (upd H1 dx (.own x)) x (.ins C dx [])) (fun v H2 => v = .non ∧ Q (.ref x) H2) (E σ)
theorem pe_ceE (D : Ce X.prog X.w X.K X.mg X.base CX k x ps sp) (hr : Room k X.A) (hG : Gd X.A)
    (ha : PA X (e :: es) t) (hx : ∀ σ, PassesAt CX X σ (E σ)) (hg : Gl X x := by rfl)
    (hdb : (x == ("__debug__" : Str)) = false := by decide)
    (he : starEach (e :: es) X.env = (false, eval e X.env) :: starEach es X.env := by rfl)
    (hpl : (backTo pos (starEach es X.env)).any (·.1) = false := by rfl) :
    PE X (.Call (.Name x p) (e :: es) [] pos) (tCallE sp E t) :=
  let ⟨_, _, hm, hk, hb, F⟩ := D
  ⟨fun pins s σ H Q I h => wpAny_Call_Name_kw (ld_glob I hg hm
    (PySem.W.callWith_K (h₀ := X.base) I.ok.mod.kin hk
      (thn (ha.run pos pins s σ H _ I h) fun us s1 ⟨vs, H1, I1, r, q⟩ =>
        ⟨I1.kIn, goesS (dvs := []) (ds := []) F hr hG hb .nil hx I1 r (by rw [List.append_nil]; exact q)⟩) he hpl) hdb)⟩
theorem pe_cnE (D : Cn X.prog X.w X.K X.mg X.base CX k x C ps sp) (hr : Room (k + 1) X.A) (hG : Gd X.A)
    (ha : PA X (e :: es) t) (hx : ∀ σ, PassesAt CX X σ (E σ)) (hg : Gl X x := by rfl)
    (hdb : (x == ("__debug__" : Str)) = false := by decide)
    (he : starEach (e :: es) X.env = (false, eval e X.env) :: starEach es X.env := by rfl)
    (hpl : (backTo pos (starEach es X.env)).any (·.1) = false := by rfl) :
    PE X (.Call (.Name x p) (e :: es) [] pos) (tMakeE C sp E t) :=
  let ⟨_, _, hm, M, hb, F⟩ := D
  ⟨fun pins s σ H Q I h => wpAny_Call_Name_kw (ld_glob I hg hm
    (PySem.W.callWith_K (h₀ := X.base) I.ok.mod.kin M.kp
      (thn (ha.run pos pins s σ H _ I h) fun us s1 ⟨vs, H1, I1, r, q⟩ =>
        ⟨I1.kIn, growsS (dvs := []) (ds := []) M F hr hG hb .nil hx I1 r (by rw [List.append_nil]; exact q)⟩) he hpl) hdb)⟩
theorem pe_cmE {pl : Sem Bool} (D : Cm X.prog X.w X.K X.mg X.base CX k C m ps sp) (hr : Room k X.A)
    (hG : Gd X.A) (he : PE X o ta) (ha : PA X (e :: es) t) (hx : ∀ σ, PassesAt CX X σ (E σ))
    (hst : starEach (e :: es) X.env = (false, eval e X.env) :: starEach es X.env := by rfl)
    (hpl : (backTo pos (starEach es X.env)).any (·.1) = false := by rfl)
    (ht : eval (.Call (.Attribute o m apos) (e :: es) [] pos) X.env = (do
      let ov ← eval o X.env
      standAt apos.atName
      let (g, first) ← holding [ov] (getMethod ov m pl)
      callWith pos g first (backTo pos (starEach (e :: es) X.env))
        (backToKw pos (keywordEach [] X.env))) := by rfl) :
    PE X (.Call (.Attribute o m apos) (e :: es) [] pos) (tMethE C m sp E ta t) := by
  obtain ⟨f, fd, c, hm, hb, F⟩ := D
  constructor
  intro pins s σ H Q I h
  refine PySem.W.methodCall_KW (pl := pl)
    (thn (he.run pins s σ H _ I h) fun u s1 ⟨y, H1, I1, ry, a, dx, fs, ey, ea, l, q⟩ => ?_) ht
  obtain rfl := ey
  have ru : u = Value.ref a := ry
  rw [ru]
  exact getmeth_ok I1 ea c hm l (PySem.W.callWith_K (first := [.ref a]) (h₀ := X.base)
    I.ok.mod.kin hm.kp (thn (ha.run pos pins s1 σ H1 _ I1 q) fun us s2 ⟨vs, H2, I2, r, q2⟩ =>
      ⟨I2.kIn, goesS (dvs := []) (ds := []) (us := .ref a :: us) (vs := .ref a :: vs) F hr hG hb .nil hx I2 (.cons rfl r) (by rw [List.append_nil]; exact q2)⟩) hst hpl)
theorem pe_cmE0 {pl : Sem Bool} (D : Cm X.prog X.w X.K X.mg X.base CX k C m ps sp) (hr : Room k X.A)
    (hG : Gd X.A) (he : PE X o ta) (hx : ∀ σ, PassesAt CX X σ (E σ))
    (ht : eval (.Call (.Attribute o m apos) [] [] pos) X.env = (do
      let ov ← eval o X.env
      standAt apos.atName
      let (g, first) ← holding [ov] (getMethod ov m pl)
      callWith pos g first (backTo pos (starEach [] X.env))
        (backToKw pos (keywordEach [] X.env))) := by rfl) :
    PE X (.Call (.Attribute o m apos) [] [] pos) (tMethE C m sp E ta tNil) := by
  obtain ⟨f, fd, c, hm, hb, F⟩ := D
  constructor
  intro pins s σ H Q I h
  refine PySem.W.methodCall_KW (pl := pl)
    (thn (he.run pins s σ H _ I h) fun u s1 ⟨y, H1, I1, ry, a, dx, fs, ey, ea, l, q⟩ => ?_) ht
  obtain rfl := ey
  have ru : u = Value.ref a := ry
  rw [ru]
  exact getmeth_ok I1 ea c hm l (PySem.W.callWith_K0 (first := [.ref a]) I1.kIn hm.kp
    (goesS (dvs := []) (ds := []) (us := [.ref a]) (vs := [.ref a]) F hr hG hb .nil hx I1 (.cons rfl .nil) q))
end
end Rm

set_option maxRecDepth 100000
set_option maxHeartbeats 4000000
namespace Rm
open PySem PySem.Spec L2
open PyProof.Rows hiding St
open SeqAt MeetsSeq

/-! ### a built-in value on the left declines an own instance on the right -/
section
variable {M : Model} {prog : Program} {w : World} {A : Around} {E : Value → Shared → Prop} {K : PySem.W.Frag} {x C : Addr} {ox : Obj} {od : Option Obj} {hp : Heap} {g : Array GenState} {d : Drawn} {tk : Nat} {os : OsState}
theorem look_in {T : String} (X : K.In hp) (I : PySem.W.InstAt hp x ox C od) (e : PySem.W.subIn K (.ref C) (.type T) = some false) :
    PySem.W.Looks M hp (isInstance (.ref x) (.type T)) false := I.type.andThen (PySem.W.looks_subIn X e)
theorem dec_int {dx : Addr} (X : K.In hp) (I : PySem.W.InstAt hp x (PySem.W.instObj C dx) C od) {a : Int} {t : Tok} {Q : Fin → Shared → Prop}
    (hq : Q (.done (.ret .notImplemented)) ⟨hp, g, d, tk, os⟩) : wpAny M A (Builtin.«int.__eq__» ⟨[.int a t, .ref x], []⟩) Q E ⟨hp, g, d, tk, os⟩ := by
  have hx := I.at_
  wp_walk using wpAny_load hx
  exact hq
theorem dec_bool {dx : Addr} (X : K.In hp) (I : PySem.W.InstAt hp x (PySem.W.instObj C dx) C od) {a : Bool} {Q : Fin → Shared → Prop}
    (hq : Q (.done (.ret .notImplemented)) ⟨hp, g, d, tk, os⟩) : wpAny M A (Builtin.«int.__eq__» ⟨[.bool a, .ref x], []⟩) Q E ⟨hp, g, d, tk, os⟩ := by
  have hx := I.at_
  wp_walk using wpAny_load hx
  exact hq
theorem dec_str {dx : Addr} (X : K.In hp) (I : PySem.W.InstAt hp x (PySem.W.instObj C dx) C od) {a : Str} {t : Tok} {Q : Fin → Shared → Prop}
    (hq : Q (.done (.ret .notImplemented)) ⟨hp, g, d, tk, os⟩) : wpAny M A (Builtin.«str.__eq__» ⟨[.str a t, .ref x], []⟩) Q E ⟨hp, g, d, tk, os⟩ := by
  have hx := I.at_
  wp_walk using wpAny_load hx
  exact hq
theorem dec_none {Q : Fin → Shared → Prop}
    (hq : Q (.done (.ret .notImplemented)) ⟨hp, g, d, tk, os⟩) : wpAny M A (Builtin.«NoneType.__eq__» ⟨[.none, .ref x], []⟩) Q E ⟨hp, g, d, tk, os⟩ := by
  wp_walk
  exact hq
theorem dec_list {dx l : Addr} (X : K.In hp) (I : PySem.W.InstAt hp x (PySem.W.instObj C dx) C od) (e : PySem.W.subIn K (.ref C) (.type "list") = some false)
    {Q : Fin → Shared → Prop}
    (hq : Q (.done (.ret .notImplemented)) ⟨hp, g, d, tk, os⟩) : wpAny M A (Builtin.«list.__eq__» ⟨[.ref l, .ref x], []⟩) Q E ⟨hp, g, d, tk, os⟩ := by
  have hL := look_in (M := M) X I e
  wp_walk using PySem.W.Looks.at hL
  exact hq
theorem dec_tuple {dx l : Addr} (X : K.In hp) (I : PySem.W.InstAt hp x (PySem.W.instObj C dx) C od) (e : PySem.W.subIn K (.ref C) (.type "tuple") = some false)
    {Q : Fin → Shared → Prop}
    (hq : Q (.done (.ret .notImplemented)) ⟨hp, g, d, tk, os⟩) : wpAny M A (Builtin.«tuple.__eq__» ⟨[.ref l, .ref x], []⟩) Q E ⟨hp, g, d, tk, os⟩ := by
  have hL := look_in (M := M) X I e
  wp_walk using PySem.W.Looks.at hL
  exact hq
theorem dec_dict {dx l : Addr} (X : K.In hp) (I : PySem.W.InstAt hp x (PySem.W.instObj C dx) C od) (e : PySem.W.subIn K (.ref C) (.type "dict") = some false)
    {Q : Fin → Shared → Prop}
    (hq : Q (.done (.ret .notImplemented)) ⟨hp, g, d, tk, os⟩) : wpAny M A (Builtin.«dict.__eq__» ⟨[.ref l, .ref x], []⟩) Q E ⟨hp, g, d, tk, os⟩ := by
  have hL := look_in (M := M) X I e
  wp_walk using PySem.W.Looks.at hL
  exact hq
end

/-- the class at C has an own __eq__ that keeps sp, and is none of the built-in ones -/
structure OwnE (P : Program) (w : World) (K : PySem.W.Frag) (mg : Str → Option Value) (base : Heap) (n : Nat) (C : Addr) (sp : Sp) : Prop where
  fn : ∃ f fd ps, PySem.W.findIn K (.ref C) "__eq__" = some (some (.ref f)) ∧ PySem.W.isFn K (.ref f) = true ∧
    Binds K fd ps [] ∧ FnG P w K mg base CX0 n f fd ps sp
  l : PySem.W.subIn K (.ref C) (.type "list") = some false
  t : PySem.W.subIn K (.ref C) (.type "tuple") = some false
  d : PySem.W.subIn K (.ref C) (.type "dict") = some false
  i : PySem.W.subIn K (.ref C) (.type "int") = some false
  b : PySem.W.subIn K (.ref C) (.type "bool") = some false
  s : PySem.W.subIn K (.ref C) (.type "str") = some false
  n : PySem.W.subIn K (.ref C) (.type "NoneType") = some false
def tyD : PyData → String
  | .none => "NoneType" | .bool _ => "bool" | .int _ => "int" | .str _ => "str" | .list _ => "list" | .tuple _ => "tuple" | .dict _ => "dict"
section
variable {X : Cx} {C : Addr} {n : Nat} {sp : Sp} {pins : List (Addr × Obj)} {σ : L2.St} {H : Hp} {s : Shared}
theorem OwnE.sub {P : Program} {w : World} {K : PySem.W.Frag} {mg : Str → Option Value} {base : Heap} (D : OwnE P w K mg base n C sp) :
    ∀ d : PyData, PySem.W.subIn K (.ref C) (.type (tyD d)) = some false
  | .none => D.n | .bool _ => D.b | .int _ => D.i | .str _ => D.s | .list _ => D.l | .tuple _ => D.t | .dict _ => D.d
theorem Dx.typ (I : Inv X pins σ H s) {v : V} {d : PyData} {u : Value} (h : Dx X.K H v d) (r : RelV v u) : s.TypeIs u (tyD d) := by
  cases h with
  | non => cases r; rfl
  | bl b => cases r; rfl
  | int i => obtain ⟨t, rfl⟩ := r; rfl
  | str x => obtain ⟨t, rfl⟩ := r; rfl
  | lst h _ =>
    cases r
    obtain ⟨its, rv, pl, hz⟩ := I.list h
    exact pl.isList.typeIs
  | tup h _ =>
    cases r
    obtain ⟨its, rv, ⟨o, h1, h2, _⟩, hz⟩ := I.tuple h
    exact ⟨o, h1, h2⟩
  | dic h _ =>
    cases r
    obtain ⟨_, _, vs, _, p⟩ := dk_rd I.hok h
    exact p.typeIs
theorem looks_ty {M : Model} {u : Value} {T : String} (t : s.TypeIs u T) : PySem.W.Looks M s.heap (typeOf u) (.type T) := by
  cases u with
  | ref a =>
    obtain ⟨o, ho, hc⟩ := t
    exact hc ▸ (PySem.W.Looks.ld ho).andThen .now
  | _ => exact PySem.W.Looks.of_pure t
/-- x == y, y an instance with its own ==, x of a built-in kind: y is asked -/
def rFlip (K : PySem.W.Frag) (C : Addr) (sp : Sp) : R2 := fun x y H Q => ∃ a dx fs d, y = .ref a ∧ H a = some (.ins C dx fs) ∧ Dx K H x d ∧
  sp [y, x] H (fun z H' => ∃ b, z = .bl b ∧ Q z H') E0
theorem op_flip (D : OwnE X.prog X.w X.K X.mg X.base n C sp) (hr : Room n X.A) (hG : Gd X.A) : OpR X (compareOp .Eq) (rFlip X.K C sp) := by
  intro pins s σ H x y v u Q I rx ry h
  obtain ⟨a, dx, fs, d, rfl, ha, hd, q⟩ := h
  cases ry
  obtain ⟨f, fd, ps, hs, hf, hb, F0⟩ := D.fn
  obtain ⟨mA, O, _⟩ := ins_get I.hok ha
  obtain ⟨od, J, _⟩ := O.look
  have tv := Dx.typ I hd rx
  have lv := looks_ty (M := model X.prog X.w) tv
  have dec : ∃ id, Slot (tyD d) "__eq__" id ∧ ∀ {Q' : Value → Shared → Prop}, Q' .notImplemented s →
      wpAny (model X.prog X.w) X.A (call (.builtin id) [v, .ref a]) Q' X.xe s := by
    obtain ⟨hp, g, dr, tk, os⟩ := s
    cases hd with
    | non => cases rx; exact ⟨_, F.slot_NoneType_eq, fun hq => wpAny_call_entry F.slot_NoneType_eq tv F.entry_NoneType_eq (dec_none ⟨_, rfl, hq⟩) (F.args_NoneType_eq_2 _ _)⟩
    | bl b => cases rx; exact ⟨_, F.slot_bool_eq, fun hq => wpAny_call_entry F.slot_bool_eq tv F.entry_int_eq (dec_bool I.kIn J ⟨_, rfl, hq⟩) (F.args_int_eq_2 _ _)⟩
    | int i => obtain ⟨t, rfl⟩ := rx; exact ⟨_, F.slot_int_eq, fun hq => wpAny_call_entry F.slot_int_eq tv F.entry_int_eq (dec_int I.kIn J ⟨_, rfl, hq⟩) (F.args_int_eq_2 _ _)⟩
    | str z => obtain ⟨t, rfl⟩ := rx; exact ⟨_, F.slot_str_eq, fun hq => wpAny_call_entry F.slot_str_eq tv F.entry_str_eq (dec_str I.kIn J ⟨_, rfl, hq⟩) (F.args_str_eq_2 _ _)⟩
    | lst hl _ =>
      cases rx
      obtain ⟨its, rv, ⟨o, n, ho, hc, _, hdt⟩, _⟩ := I.list hl
      exact ⟨_, F.slot_list_eq, fun hq => wpAny_call_entry F.slot_list_eq tv F.entry_list_eq (dec_list I.kIn J D.l ⟨_, rfl, hq⟩) (F.args_list_eq_2 _ _)⟩
    | tup hl _ => cases rx; exact ⟨_, F.slot_tuple_eq, fun hq => wpAny_call_entry F.slot_tuple_eq tv F.entry_tuple_eq (dec_tuple I.kIn J D.t ⟨_, rfl, hq⟩) (F.args_tuple_eq_2 _ _)⟩
    | dic hl _ => cases rx; exact ⟨_, F.slot_dict_eq, fun hq => wpAny_call_entry F.slot_dict_eq tv F.entry_dict_eq (dec_dict I.kIn J D.d ⟨_, rfl, hq⟩) (F.args_dict_eq_2 _ _)⟩
  obtain ⟨id, sl, dec⟩ := dec
  have two : wpAny (model X.prog X.w) X.A (tryCompare (.ref a) "__eq__" v) (fun r s' => ∃ b, r = some (.bool b) ∧ EP X pins σ Q (.bool b) s') X.xe s := by
    unfold tryCompare
    have hl : ([Value.ref a] ++ [v]).length = ps.length := by
      have := F0.len _ _ _ _ q
      exact this
    refine wpAny_bind (PySem.W.ifBound_K I.kIn J hs hf (wpAny_call (codeAny_mono (F0.run X.A X.stack s H ⟨[.ref a, v], []⟩ [.ref a, v] [.ref a, x] _ _ hr hG I.env0
      (by have := hb s [.ref a, v] I.kIn (by simpa using hl); simpa using this) (.cons rfl (.cons rx .nil)) q) fun rr s' hq => ?_)))
    match rr, hq with
    | .error er, hq => exact False.elim hq
    | .ok (.ret z), hq =>
      obtain ⟨y, H', I2, ry, ⟨b, ey, qq⟩⟩ := I.after hq
      subst ey
      cases ry
      exact wpAny_pure ⟨b, rfl, .bl b, H', I2, rfl, qq⟩
    | .ok .next, hq => exact False.elim hq
    | .ok .brk, hq => exact False.elim hq
    | .ok .cont, hq => exact False.elim hq
  show wpAny _ _ (richCompare .Eq v (.ref a)) _ _ _
  simp only [richCompare, cmpInfo_Eq, tv.oneThing_none]
  refine wpAny_holding (wpAny_bind (wpAny_cRoomFor hr.units0 ?_))
  refine wpAny_bind (lv.here (wpAny_bind (J.type.here ?_)))
  split
  · refine wpAny_bind ((PySem.W.looks_subIn I.kIn (D.sub d)).here ?_)
    simp only [Bool.false_eq_true, if_false, Bool.not_false, if_true]
    refine wpAny_bind (m := tryCompare v _ (.ref a)) (wpAny_tryCompare_declines tv sl (dec ⟨rfl, ?_⟩))
    refine wpAny_bind (m := tryCompare (.ref a) _ v) (thn two fun r s' z => ?_)
    obtain ⟨b, rfl, z⟩ := z
    exact wpAny_pure z
  · rename_i z
    exact absurd (by simp) z

/-- x == y, x an instance with its own ==, y of a built-in kind or of the same class -/
def rOwnL (K : PySem.W.Frag) (C : Addr) (sp : Sp) : R2 := fun x y H Q => ∃ a dx fs, x = .ref a ∧ H a = some (.ins C dx fs) ∧
  ((∃ d, Dx K H y d ∧ PySem.W.subIn K (.type (tyD d)) (.ref C) = some false) ∨ ∃ b dy gs, y = .ref b ∧ H b = some (.ins C dy gs)) ∧
  sp [x, y] H (fun z H' => ∃ b, z = .bl b ∧ Q z H') E0
theorem op_ownL (D : OwnE X.prog X.w X.K X.mg X.base n C sp) (hr : Room n X.A) (hG : Gd X.A) : OpR X (compareOp .Eq) (rOwnL X.K C sp) := by
  intro pins s σ H x y v u Q I rx ry h
  obtain ⟨a, dx, fs, rfl, ha, hy, q⟩ := h
  cases rx
  obtain ⟨f, fd, ps, hs, hf, hb, F0⟩ := D.fn
  obtain ⟨mA, O, _⟩ := ins_get I.hok ha
  obtain ⟨od, J, _⟩ := O.look
  obtain ⟨m, hF⟩ := I.fr
  have ty : ∃ tb, PySem.W.Looks (model X.prog X.w) s.heap (typeOf u) tb ∧ PySem.W.notFirst X.K C tb = true := by
    rcases hy with ⟨d, hd, e⟩ | ⟨b, dy, gs, rfl, hb'⟩
    · exact ⟨_, looks_ty (Dx.typ I hd ry), by unfold PySem.W.notFirst; rw [e]; simp⟩
    · cases ry
      obtain ⟨mB, O', _⟩ := ins_get I.hok hb'
      obtain ⟨od', J', _⟩ := O'.look
      exact ⟨_, J'.type, by simp [PySem.W.notFirst]⟩
  obtain ⟨tb, t1, t2⟩ := ty
  have hl : ([Value.ref a] ++ [u]).length = ps.length := F0.len _ _ _ _ q
  refine PySem.W.cmp_K (op := .Eq) (tb := tb) hr.units0 hF I.ok.mod.kin J t1 t2 hs hf ?_
  refine wpAny_call (codeAny_mono (F0.run X.A X.stack s H ⟨[.ref a, u], []⟩ [.ref a, u] [.ref a, y] _ _ hr hG I.env0
      (by have := hb s [.ref a, u] I.kIn (by simpa using hl); simpa using this) (.cons rfl (.cons ry .nil)) q) fun rr s' hq => ?_)
  match rr, hq with
  | .error er, hq => exact False.elim hq
  | .ok (.ret z), hq =>
    obtain ⟨y, H', I2, ry, ⟨b, ey, qq⟩⟩ := I.after hq
    subst ey
    cases ry
    exact ⟨.bl b, H', I2, rfl, qq⟩
  | .ok .next, hq => exact False.elim hq
  | .ok .brk, hq => exact False.elim hq
  | .ok .cont, hq => exact False.elim hq
end
end Rm

set_option maxRecDepth 100000
set_option maxHeartbeats 4000000
namespace Rm
open PySem PySem.Spec L2
open PyProof.Rows hiding St

theorem Dx.tyx {K : PySem.W.Frag} {H : Hp} {v : V} {d : PyData} (h : Dx K H v d) : TyX K H v (.type (tyD d)) := by
  cases h with
  | non => exact .base .non
  | bl b => exact .base (.bl b)
  | int i => exact .base (.int i)
  | str x => exact .base (.str x)
  | lst h _ =>
    rcases h with (h | ⟨o, h⟩) | ⟨o, its, n, h, c, _⟩
    · exact .base (.lst h)
    · exact .base (.frz h)
    · exact .kList h c
  | tup h _ =>
    rcases h with (h | ⟨o, h⟩) | ⟨o, its, n, h, c, _⟩
    · exact .base (.tup h)
    · exact .fTuple h
    · exact .kTuple h c
  | dic h _ =>
    rcases h with h | ⟨o, h⟩
    · exact .base (.dK h)
    · exact .fDict h
def isS : PyData → Bool
  | .str _ => true
  | _ => false
theorem kit_str {K : PySem.W.Frag} : ∀ d : PyData, PySem.W.kitOne K (.type (tyD d)) (.type "str") = some (isS d)
  | .none => kit_ty (a := "NoneType") (r := false) (by decide +kernel) | .bool _ => kit_ty (a := "bool") (r := false) (by decide +kernel)
  | .int _ => kit_ty (a := "int") (r := false) (by decide +kernel) | .str _ => kit_ty (a := "str") (r := true) (by decide +kernel)
  | .list _ => kit_ty (a := "list") (r := false) (by decide +kernel) | .tuple _ => kit_ty (a := "tuple") (r := false) (by decide +kernel)
  | .dict _ => kit_ty (a := "dict") (r := false) (by decide +kernel)
/-- isinstance(x, str) for data -/
theorem isi_str {K : PySem.W.Frag} {H : Hp} {v : V} {d : PyData} {Q : VK} (h : Dx K H v d) (q : Q (.bl (isS d)) H) :
    rIsi K [v, .ty "str"] H Q := ⟨v, .ty "str", _, _, _, rfl, .ty _, h.tyx, kit_str d, q⟩

/-! ### the four words -/
def rkS (z : Str) : Option Int :=
  if z = "hold" then some 1 else if z = "keep" then some 2 else if z = "change" then some 3 else if z = "replace" then some 4 else none
def rkD : PyData → Option Int
  | .str z => rkS z
  | _ => none
structure Rk (w : World) (K : PySem.W.Frag) (mg : Str → Option Value) (R : Addr) : Prop where
  g : mg "RANKS" = some (.ref R)
  kd : ∃ es n, KDict K w R es n
  yes : ∀ z i, rkS z = some i → ∃ t, PySem.W.nsIn K R z = some (some (.int i t))
  no : ∀ z, rkS z = none → PySem.W.nsIn K R z = some none
theorem rk_of {w : World} {K : PySem.W.Frag} {mg : Str → Option Value} {R : Addr} {t1 t2 t3 t4 u1 u2 u3 u4 : Tok} {n : Nat}
    (g : mg "RANKS" = some (.ref R)) (low : (R == sysModules) = false)
    (h : K.lookup R = some ⟨.type "dict", none, .dict #[⟨PyData.keyHash w.params "hold", .str "hold" t1, .int 1 u1⟩,
      ⟨PyData.keyHash w.params "keep", .str "keep" t2, .int 2 u2⟩, ⟨PyData.keyHash w.params "change", .str "change" t3, .int 3 u3⟩,
      ⟨PyData.keyHash w.params "replace", .str "replace" t4, .int 4 u4⟩] n, #[]⟩) : Rk w K mg R := by
  refine ⟨g, ⟨_, _, h, ⟨⟨_, _, rfl, rfl⟩, ⟨_, _, rfl, rfl⟩, ⟨_, _, rfl, rfl⟩, ⟨_, _, rfl, rfl⟩, True.intro⟩, low⟩, fun z i e => ?_, fun z e => ?_⟩
  · unfold rkS at e
    unfold PySem.W.nsIn
    rw [h]
    simp only [List.find?_cons, Value.isStr, List.find?_nil]
    split at e
    · rename_i q; subst q; cases e; exact ⟨u1, by simp⟩
    split at e
    · rename_i q0 q; subst q; cases e; exact ⟨u2, by simp [show (("hold" : Str) == "keep") = false by decide +kernel]⟩
    split at e
    · rename_i q0 q1 q; subst q; cases e; exact ⟨u3, by simp [show (("hold" : Str) == "change") = false by decide +kernel, show (("keep" : Str) == "change") = false by decide +kernel]⟩
    split at e
    · rename_i q0 q1 q2 q; subst q; cases e; exact ⟨u4, by simp [show (("hold" : Str) == "replace") = false by decide +kernel, show (("keep" : Str) == "replace") = false by decide +kernel, show (("change" : Str) == "replace") = false by decide +kernel]⟩
    · cases e
  · unfold rkS at e
    unfold PySem.W.nsIn
    rw [h]
    simp only [List.find?_cons, Value.isStr, List.find?_nil]
    split at e
    · cases e
    split at e
    · cases e
    split at e
    · cases e
    split at e
    · cases e
    rename_i q0 q1 q2 q3
    have f : ∀ {a b : Str}, ¬ a = b → (a == b) = false := fun h => by simpa using h
    simp [f q0, f q1, f q2, f q3, f (fun e => q0 e.symm), f (fun e => q1 e.symm), f (fun e => q2 e.symm), f (fun e => q3 e.symm), DictEntry.refKey]

/-! ### a class of the program -/
def allTy (l : List Value) : Bool := l.all fun v => match v with
  | .type _ => true
  | _ => false
theorem allTy_no {C : Addr} : ∀ {l : List Value}, allTy l = true → l.contains (.ref C) = false
  | [], _ => rfl
  | v :: r, h => by
    unfold allTy at h
    rw [List.all_cons, Bool.and_eq_true] at h
    rw [List.contains_cons, allTy_no (l := r) h.2]
    cases v with
    | type _ => rfl
    | _ => exact absurd h.1 (by simp)
theorem sub_own {K : PySem.W.Frag} {C : Addr} {T : String} (h : (fastBuiltinMro T).map allTy = some true) : PySem.W.subIn K (.type T) (.ref C) = some false := by
  unfold PySem.W.subIn
  dsimp only
  obtain ⟨l, e, q⟩ := Option.map_eq_some_iff.mp h
  rw [e]
  exact congrArg some (allTy_no q)
theorem sub_ownD {K : PySem.W.Frag} {C : Addr} : ∀ d : PyData, PySem.W.subIn K (.type (tyD d)) (.ref C) = some false
  | .none => sub_own (T := "NoneType") (by decide +kernel) | .bool _ => sub_own (T := "bool") (by decide +kernel)
  | .int _ => sub_own (T := "int") (by decide +kernel) | .str _ => sub_own (T := "str") (by decide +kernel)
  | .list _ => sub_own (T := "list") (by decide +kernel) | .tuple _ => sub_own (T := "tuple") (by decide +kernel)
  | .dict _ => sub_own (T := "dict") (by decide +kernel)
structure OwnC (K : PySem.W.Frag) (C : Addr) : Prop where
  cls : Cls K C
  ty : PySem.W.typeIn K (.ref C) = some (.type "type")
  ha : PySem.W.findIn K (.ref C) "__class__" = some (some (.builtin "object.__class__"))
  hn : PySem.W.specialIn K (.builtin "object.__class__") "__get__" = some (some (.builtin "getset_descriptor.__get__"))
  htk : PySem.W.takesIn K (.builtin "object.__class__") = some true
  hm : PySem.W.mroIn K C (.type "object") = some true
section
variable {K : PySem.W.Frag} {H : Hp} {C a b dx dy : Addr} {fs gs : List (Str × V)} {x v : V} {d : PyData} {Q : VK}
theorem OwnC.isi_not (c : OwnC K C) (h : Dx K H v d) (q : Q (.bl false) H) : rIsi K [v, .ref C] H Q := by
  refine ⟨v, .ref C, _, _, false, rfl, .own C, h.tyx, ?_, q⟩
  unfold PySem.W.kitOne
  rw [if_neg (by simp)]
  unfold PySem.W.kitCls
  have e : (PySem.W.clsIn K C).isSome = true := by
    obtain ⟨cd, z, _⟩ := PySem.W.any_some c.cls.hd
    rw [z]; rfl
  dsimp only
  rw [if_pos (by rw [e, c.ty]; simp)]
  exact sub_ownD d
theorem OwnC.isi_so (c : OwnC K C) (h : H b = some (.ins C dy gs)) (q : Q (.bl true) H) : rIsi K [.ref b, .ref C] H Q := by
  refine ⟨.ref b, .ref C, _, _, true, rfl, .own C, .base (.ins h c.cls c.ha c.hn c.htk c.hm), ?_, q⟩
  unfold PySem.W.kitOne
  rw [if_pos (by simp)]
end

/-! ### what the modes' defs keep -/
def mdO (C dx : Addr) (z : Str) : HO := .ins C dx [("_word", .str z)]
def spIs (K : PySem.W.Frag) : Sp := fun vs H Q _ => ∃ x d, vs = [x] ∧ Dx K H x d ∧ Q (.bl (rkD d).isSome) H
def spRank : Sp := fun vs H Q _ => ∃ z i, vs = [.str z] ∧ rkS z = some i ∧ Q (.int i) H
/-- a mode is made of any value -/
def spModeX (K : PySem.W.Frag) (C BM : Addr) : Sp := fun vs H Q E => ∃ a dx x d, vs = [.ref a, x] ∧ H a = some (.ins C dx []) ∧ Dx K H x d ∧
  (rkD d = none → ∀ e, H e = none → E (.ref BM) (some e) (upd H e (.xd [("value", x)]))) ∧
  (∀ z i, d = .str z → rkS z = some i → Q .non (upd H a (mdO C dx z)))
/-- a mode is made of one of the words -/
def spModeQ (K : PySem.W.Frag) (C : Addr) : Sp := fun vs H Q _ => ∃ a dx z i, vs = [.ref a, .str z] ∧ H a = some (.ins C dx []) ∧ rkS z = some i ∧
  Q .non (upd H a (mdO C dx z))
def spWord (C : Addr) : Sp := fun vs H Q _ => ∃ a dx z, vs = [.ref a] ∧ H a = some (mdO C dx z) ∧ Q (.str z) H
def spRk (C : Addr) : Sp := fun vs H Q _ => ∃ a dx z i, vs = [.ref a] ∧ H a = some (mdO C dx z) ∧ rkS z = some i ∧ Q (.int i) H
def spEqM (K : PySem.W.Frag) (C : Addr) : Sp := fun vs H Q _ => ∃ a dx z y, vs = [.ref a, y] ∧ H a = some (mdO C dx z) ∧
  ((∃ d, Dx K H y d ∧ Q (.bl false) H) ∨ ∃ b dy z', y = .ref b ∧ H b = some (mdO C dy z') ∧ Q (.bl (decide (z = z'))) H)

/-! ### values that are small -/
structure Sv (d : PyData) : Prop where
  sh : d.showable = true
  lv : d.leavesShort 100 = true
  wt : d.weight ≤ 1000
  dp : d.depth ≤ 10
theorem Sv.sm {d : PyData} (h : Sv d) : Sm d := ⟨h.sh, h.lv, by have := h.wt; omega, by have := h.dp; omega⟩
def svB (d : PyData) : Bool := d.showable && (d.leavesShort 100 && (decide (d.weight ≤ 1000) && decide (d.depth ≤ 10)))
theorem Sv.of {d : PyData} (h : svB d = true) : Sv d := by
  unfold svB at h
  simp only [Bool.and_eq_true, decide_eq_true_eq] at h
  exact ⟨h.1, h.2.1, h.2.2.1, h.2.2.2⟩
theorem Sv.all {ds : List PyData} (h : ds.all svB = true) {i : Nat} {d : PyData} (e : ds[i]? = some d) : Sv d :=
  Sv.of (List.all_eq_true.mp h d (List.mem_of_getElem? e))
/-! ### drawn values -/
/-- all but the tape at t is as it was -/
structure Nxt (t : Addr) (H H' : Hp) : Prop where
  keep : ∀ b u, H b = some u → b ≠ t → H' b = some u
  tape : ∃ o, H' t = some o ∧ IsTape o
def spAny (K : PySem.W.Frag) : Sp := fun vs H Q _ => ∃ t o, vs = [.ref t] ∧ H t = some o ∧ IsTape o ∧
  ∀ v d H', Dx K (del H' t) v d → Sv d → Nxt t H H' → Q v H'
theorem del_upd {H : Hp} {t : Addr} {o : HO} : del (upd H t o) t = del H t := by
  funext b
  by_cases h : b = t
  · rw [h, del_same, del_same]
  · rw [del_ne h, del_ne h, upd_ne h]
/-- a new thing beside the tape -/
structure New (t p : Addr) (o ot : HO) (H : Hp) : Prop where
  th : upd H p o t = some ot
  s : Same H (upd H p o)
  d : Same (del H t) (del (upd H p o) t)
  a : del (upd H p o) t p = some o
theorem new_at {t p : Addr} {H : Hp} (o : HO) {ot : HO} (hp : H p = none) (ht : H t = some ot) : New t p o ot H := by
  have ne : p ≠ t := fun e => by rw [e, ht] at hp; cases hp
  have nb : ∀ {b : Addr} {u : HO}, H b = some u → b ≠ p := fun h e => by rw [e, hp] at h; cases h
  refine ⟨by rw [upd_ne (Ne.symm ne)]; exact ht, fun b u h => by rw [upd_ne (nb h)]; exact h, fun b u h => ?_, by rw [del_ne ne, upd_same]⟩
  by_cases e : b = t
  · rw [e, del_same] at h; cases h
  · rw [del_ne e] at h ⊢
    rw [upd_ne (nb h)]
    exact h
theorem Sm.of {d : PyData} (h : (d.showable && (d.leavesShort 100 && (decide (d.weight ≤ 100000) && decide (d.depth ≤ 50)))) = true) : Sm d := by
  simp only [Bool.and_eq_true, decide_eq_true_eq] at h
  exact ⟨h.1, h.2.1, h.2.2.1, h.2.2.2⟩
/-- what _law_made tells of a value -/
def madeD (d : PyData) : PyData := match rkD d with
  | some i => .list [.str "made", d, .int i]
  | none => .list [.str "bad", d]
def spMade (K : PySem.W.Frag) : Sp := fun vs H Q _ => ∃ x d, vs = [x] ∧ Dx K H x d ∧
  ∀ v H', Same H H' → Dx K H' v (madeD d) → Q v H'
theorem same_new {H : Hp} {p : Addr} {o : HO} (n : H p = none) : Same H (upd H p o) := fun b u h => by
  rw [upd_ne (fun e => by rw [e, n] at h; cases h)]
  exact h
end Rm

set_option maxRecDepth 100000
set_option maxHeartbeats 4000000
namespace Rm
open PySem PySem.Spec L2
open PyProof.Rows hiding St
open SeqAt MeetsSeq

/-! ### != of two instances of a class with its own == -/
section
variable {M : Model} {A : Around} {E : Value → Shared → Prop} {s : Shared} {K : PySem.W.Frag} {x C : Addr} {ox : Obj} {od : Option Obj}
theorem bound_ne {args : List Value} {Q : Option Value → Shared → Prop} (X : K.In s.heap) (I : PySem.W.InstAt s.heap x ox C od)
    (hs : PySem.W.findIn K (.ref C) "__ne__" = some (some (.builtin "object.__ne__")))
    (h : wpAny M A (call (.builtin "object.__ne__") (.ref x :: args)) (fun v => Q (some v)) E s) : wpAny M A (callSpecialIfBound? (.ref x) "__ne__" args) Q E s := by
  simp only [callSpecialIfBound?, bindSpecialIfBound?]
  refine wpAny_holding (wpAny_bind (wpAny_bind (wpAny_bind (I.type.here ((PySem.W.looks_findIn X hs).here ?_)))))
  refine wpAny_bind (wpAny_askSetting (wpAny_ite ?_))
  have fin : wpAny M A (call (.builtin "object.__ne__") ([.ref x] ++ args) >>= fun v => pure (some v)) Q E s :=
    wpAny_bind (wpAny_mono h (fun v s' h' => wpAny_pure h') fun _ _ h' => h')
  split
  · exact wpAny_bind (wpAny_of_eq (F.cmp_object.ne.bind _) (wpAny_pure (by exact fin)))
  · exact wpAny_tryCatch (wpAny_bind (wpAny_of_eq (F.cmp_object.ne.bind _) (wpAny_pure (by exact fin))))
theorem entry_ne {y : Value} {Q : Fin → Shared → Prop} (hu : A.units < cLine)
    (h : wpAny M A (callSpecialIfBound? (.ref x) "__eq__" [y]) (fun r s' => ∃ b, r = some (.bool b) ∧ Q (.done (.ret (.bool (!b)))) s') E s) :
    wpAny M A (Builtin.«object.__ne__» ⟨[.ref x, y], []⟩) Q E s := by
  unfold Builtin.«object.__ne__»
  repeat (first
    | with_reducible refine wpAny_cRoomFor hu ?_
    | (refine wpAny_bind (m := callSpecialIfBound? (.ref x) (Str.ofString "__eq__") [y]) (wpAny_mono h (fun r s' hr => by
          obtain ⟨b, rfl, hq⟩ := hr
          repeat (first | exact hq | exact wpAny_pure hq | exact wpAny_truthy_bool hq | (refine wpAny_bind (m := truthy (.bool _)) (wpAny_truthy_bool ?_)) | wp_step)) fun _ _ e => e))
    | wp_step)
end
def rOwnNe (C : Addr) (sp : Sp) : R2 := fun x y H Q => ∃ a dx fs b dy gs, x = .ref a ∧ H a = some (.ins C dx fs) ∧ y = .ref b ∧ H b = some (.ins C dy gs) ∧
  sp [x, y] H (fun z H' => ∃ c, z = .bl c ∧ Q (.bl (!c)) H') E0
section
variable {X : Cx} {C : Addr} {n : Nat} {sp : Sp}
theorem op_ownNe (D : OwnE X.prog X.w X.K X.mg X.base n C sp) (hm : PySem.W.mroIn X.K C (.type "object") = some true)
    (hne : PySem.W.findIn X.K (.ref C) "__ne__" = some (some (.builtin "object.__ne__"))) (hr : Room (n + 1) X.A) (hG : Gd X.A)
    (h1 : X.A.units + 1 < cLine) : OpR X (compareOp .NotEq) (rOwnNe C sp) := by
  intro pins s σ H x y v u Q I rx ry h
  obtain ⟨a, dx, fs, b, dy, gs, rfl, ha, rfl, hb', q⟩ := h
  cases rx
  cases ry
  obtain ⟨f, fd, ps, hs, hf, hb, F0⟩ := D.fn
  obtain ⟨mA, O, _⟩ := ins_get I.hok ha
  obtain ⟨od, J, _⟩ := O.look
  obtain ⟨mB, O', _⟩ := ins_get I.hok hb'
  obtain ⟨od', J', _⟩ := O'.look
  have hl : ([Value.ref a] ++ [Value.ref b]).length = ps.length := F0.len _ _ _ _ q
  have two : wpAny (model X.prog X.w) X.A (tryCompare (.ref a) "__ne__" (.ref b)) (fun r s' => ∃ c, r = some (.bool c) ∧ EP X pins σ Q (.bool c) s') X.xe s := by
    unfold tryCompare
    refine wpAny_bind (bound_ne I.kIn J hne (wpAny_call (codeAny_call_builtin F.cmp_object.ne.plain F.cmpEntry_ne
      (PySem.W.check_slot F.cmpKind_ne F.cmpSplit_ne (J.type.andThen (PySem.W.looks_mroIn I.kIn hm)) (F.cmpArgs_ne _ _) ?_))))
    refine entry_ne (A := X.A.in1) h1 (PySem.W.ifBound_K I.kIn J hs hf (wpAny_call (codeAny_mono (F0.run X.A.in1 X.stack s H ⟨[.ref a, .ref b], []⟩ [.ref a, .ref b] [.ref a, .ref b] _ _ hr.in1 hG.in1 I.env0.in1
      (by have := hb s [.ref a, .ref b] I.kIn (by simpa using hl); simpa using this) (.cons rfl (.cons rfl .nil)) q) fun rr s' hq => ?_)))
    match rr, hq with
    | .error er, hq => exact False.elim hq
    | .ok (.ret z), hq =>
      obtain ⟨y, H', I2, ry, ⟨c, ey, qq⟩⟩ := I.after hq
      subst ey
      cases ry
      have fin : ∃ c', some (Value.bool !c) = some (.bool c') ∧ EP X pins σ Q (.bool c') s' := ⟨_, rfl, .bl (!c), H', I2, rfl, qq⟩
      first | exact ⟨c, rfl, wpAny_pure fin⟩ | exact ⟨c, rfl, _, rfl, wpAny_pure fin⟩ | exact ⟨c, rfl, rfl, wpAny_pure fin⟩ | exact ⟨c, rfl, wpAny_pure (wpAny_pure fin)⟩
    | .ok .next, hq => exact False.elim hq
    | .ok .brk, hq => exact False.elim hq
    | .ok .cont, hq => exact False.elim hq
  show wpAny _ _ (richCompare .NotEq (.ref a) (.ref b)) _ _ _
  simp only [richCompare, cmpInfo_NotEq, oneThing_ref]
  refine wpAny_holding (wpAny_bind (wpAny_cRoomFor hr.units0 ?_))
  refine wpAny_bind (J.type.here (wpAny_bind (J'.type.here ?_)))
  rw [show (Value.ref C != Value.ref C) = false from by simp]
  simp only [Bool.false_eq_true, if_false]
  refine wpAny_bind (wpAny_pure ?_)
  simp only [Bool.false_eq_true, if_false]
  refine wpAny_bind (thn two fun r s' z => ?_)
  obtain ⟨c, rfl, z⟩ := z
  exact wpAny_pure z
end

/-- the law's own promise: a script of at most 63 numbers -/
def spLaw (K : PySem.W.Frag) : Sp := fun vs H Q _ => ∃ (a : Addr) (ns : List Int), vs = [.ref a] ∧ SqL K H a (ns.map V.int) ∧ ns.length ≤ 63 ∧
  (∀ n ∈ ns, Builtin.Int.intBits n ≤ 1048576) ∧ ∀ H', Q (.bl true) H'
end Rm

set_option maxRecDepth 100000
set_option maxHeartbeats 4000000
namespace Rm
open PySem PySem.Spec L2
open PyProof.Rows hiding St

/-! ### blocks with a middle -/
theorem seq_mid {A B : TS} {D : Ends} {σ : L2.St} {H : Hp} (Mid : L2.St → Hp → Prop) (h2 : ∀ σ' H', Mid σ' H' → B D σ' H')
    (h1 : ∀ N : L2.St → Hp → Prop, (∀ σ' H', Mid σ' H' → N σ' H') → A { D with nx := N } σ H) : tSeq A B D σ H := h1 (B D) h2
theorem asg_mid {A B : TS} {D : Ends} {σ : L2.St} {H : Hp} {i : Nat} {v : V} (Mid : L2.St → Hp → Prop) (h2 : ∀ σ' H', Mid σ' H' → B D σ' H')
    (h1 : ∀ N : L2.St → Hp → Prop, (∀ σ' H', Mid σ' H' → N σ' H') → A { D with nx := N } (σ.set i (some v)) H) : gName i v σ H (tSeq A B D) := h1 (B D) h2
/-- a walk through the keys of a locked dict -/
theorem for_keys {d : Addr} {o : Obj} {kvs : List (Key × V)} {g : TG} {tb : TS} {D : Ends} {σ : L2.St} {H : Hp} (Pv : Nat → L2.St → Hp → Prop)
    (h0 : Pv 0 σ H) (hl : ∀ i σ H, i ≤ kvs.length → Pv i σ H → H d = some (.frz o (.dK kvs)))
    (hs : ∀ i k v σ H, kvs[i]? = some (k, v) → Pv i σ H → g (kV k) σ H fun σ2 H2 => tb { D with nx := Pv (i + 1), ct := Pv (i + 1), bk := D.nx } σ2 H2)
    (hd : ∀ σ H, Pv kvs.length σ H → D.nx σ H) :
    ∃ W : Nat → Nat → L2.St → Hp → Prop, (∃ m, W 0 m σ H) ∧ ∀ i m σ H, W i m σ H →
      ((Itk d o kvs).stop i H ∧ D.nx σ H) ∨ ((Itk d o kvs).go i H ∧ ∃ N : L2.St → Hp → Prop, (∀ σ' H', N σ' H' → ∃ m', m' < m ∧ W (i + 1) m' σ' H') ∧
        ∀ x H', (Itk d o kvs).yld i H x H' → g x σ H' fun σ2 H2 => tb { D with nx := N, ct := N, bk := D.nx } σ2 H2) := by
  refine ⟨fun i m σ H => m = kvs.length - i ∧ i ≤ kvs.length ∧ Pv i σ H, ⟨kvs.length, by simp, Nat.zero_le _, h0⟩, ?_⟩
  rintro i m σ H ⟨rfl, hi, p⟩
  have q := hl i σ H hi p
  by_cases hlt : i < kvs.length
  · refine .inr ⟨⟨q, hlt⟩, Pv (i + 1), fun σ' H' p' => ⟨kvs.length - (i + 1), by omega, rfl, hlt, p'⟩, fun x H' y => ?_⟩
    obtain ⟨rfl, k, v, e, rfl⟩ := y
    exact hs i k v σ _ e p
  · have e : i = kvs.length := by omega
    subst e
    exact .inl ⟨⟨q, Nat.le_refl _⟩, hd σ H p⟩

/-! ### heaps beside the tape -/
theorem same_del {H : Hp} {t : Addr} : Same (del H t) H := fun b u h => by
  by_cases e : b = t
  · rw [e, del_same] at h; cases h
  · rw [del_ne e] at h; exact h
theorem same_dels {H H' : Hp} {t : Addr} (s : Same H H') : Same (del H t) (del H' t) := fun b u h => by
  by_cases e : b = t
  · rw [e, del_same] at h; cases h
  · rw [del_ne e] at h ⊢
    exact s b u h
theorem Nxt.same {t : Addr} {H0 H H' : Hp} (n : Nxt t H H') (f : H0 t = none) (s : Same H0 H) : Same H0 H' := fun b u h =>
  n.keep b u (s b u h) fun e => by rw [e, f] at h; cases h
theorem same_tape {t : Addr} {H0 H : Hp} {o : HO} (f : H0 t = none) (s : Same H0 H) : Same H0 (upd H t o) := fun b u h => by
  rw [upd_ne (fun e => by rw [e, f] at h; cases h)]
  exact s b u h
theorem same_two {H : Hp} {x dx : Addr} {o o' : HO} (nd : H dx = none) (nx : H x = none) (ne : dx ≠ x) : Same H (upd (upd H dx o) x o') :=
  (same_new nd).trans (same_new (by rw [upd_ne (Ne.symm ne)]; exact nx))

/-! ### the ranks as the law has them -/
def rkKV : List (Key × V) := [(.inr "hold", .int 1), (.inr "keep", .int 2), (.inr "change", .int 3), (.inr "replace", .int 4)]
theorem mergeK_rk : mergeK [] [((.inr "hold" : Key), V.int 1), (.inr "keep", .int 2), (.inr "change", .int 3), (.inr "replace", .int 4)] = rkKV := by
  simp [mergeK, putK, rkKV, show ¬ (("hold" : Str) = "keep") by decide +kernel, show ¬ (("hold" : Str) = "change") by decide +kernel, show ¬ (("keep" : Str) = "change") by decide +kernel,
    show ¬ (("hold" : Str) = "replace") by decide +kernel, show ¬ (("keep" : Str) = "replace") by decide +kernel, show ¬ (("change" : Str) = "replace") by decide +kernel]
theorem valV_rk (z : Str) : valV rkKV (.inr z) = (rkS z).map V.int := by
  unfold rkKV rkS
  have f : ∀ {a : Str}, ¬ z = a → ¬ ((Sum.inr a : Key) = Sum.inr z) := fun h e => h (Sum.inr.inj e).symm
  by_cases h1 : z = "hold"
  · subst h1; rw [valV_pos rfl, if_pos rfl]; rfl
  rw [valV_neg (f h1), if_neg h1]
  by_cases h2 : z = "keep"
  · subst h2; rw [valV_pos rfl, if_pos rfl]; rfl
  rw [valV_neg (f h2), if_neg h2]
  by_cases h3 : z = "change"
  · subst h3; rw [valV_pos rfl, if_pos rfl]; rfl
  rw [valV_neg (f h3), if_neg h3]
  by_cases h4 : z = "replace"
  · subst h4; rw [valV_pos rfl, if_pos rfl]; rfl
  rw [valV_neg (f h4), if_neg h4, valV_nil]
  rfl
theorem rk_key {i : Nat} {k : Key} {v : V} (h : rkKV[i]? = some (k, v)) : ∃ z n, k = .inr z ∧ rkS z = some n := by
  match i, h with
  | 0, h => cases h; exact ⟨_, 1, rfl, rfl⟩
  | 1, h => cases h; exact ⟨_, 2, rfl, rfl⟩
  | 2, h => cases h; exact ⟨_, 3, rfl, rfl⟩
  | 3, h => cases h; exact ⟨_, 4, rfl, rfl⟩
  | n + 4, h => cases h
theorem tape_rk {o : HO} (h : IsTape o) : o ≠ .dK rkKV := by
  obtain ⟨dg, mx, rfl, _⟩ := h
  intro e
  have e1 := congrArg (fun u : HO => match u with | .dK l => l.length | _ => 0) e
  simp [tapeO, rkKV] at e1

/-! ### values that are small -/
theorem rk_word {d : PyData} {i : Int} (h : rkD d = some i) : (d, i) = (.str "hold", 1) ∨ (d, i) = (.str "keep", 2) ∨ (d, i) = (.str "change", 3) ∨ (d, i) = (.str "replace", 4) := by
  cases d with
  | str z =>
    have h : rkS z = some i := h
    unfold rkS at h
    split at h
    · rename_i e; subst e; cases h; exact .inl rfl
    split at h
    · rename_i e; subst e; cases h; exact .inr (.inl rfl)
    split at h
    · rename_i e; subst e; cases h; exact .inr (.inr (.inl rfl))
    split at h
    · rename_i e; subst e; cases h; exact .inr (.inr (.inr rfl))
    · cases h
  | _ => cases h
theorem Sv.made {d : PyData} (h : Sv d) : Sm (madeD d) := by
  unfold madeD
  cases e : rkD d with
  | some i =>
    rcases rk_word e with q | q | q | q <;> (cases q; exact Sm.of (by decide +kernel))
  | none =>
    obtain ⟨h1, h2, h3, h4⟩ := h
    have w3 : (PyData.str "bad").weight = 3 := by decide +kernel
    have d3 : (PyData.str "bad").depth = 0 := by decide +kernel
    have l3 : (PyData.str "bad").leavesShort 100 = true := by decide +kernel
    have s3 : (PyData.str "bad").showable = true := by decide +kernel
    refine ⟨by simp [PyData.showable, PyData.showableAll, h1], by simp [PyData.leavesShort, PyData.leavesShortAll, h2] at l3 ⊢; exact l3, ?_, ?_⟩
    · simp only [PyData.weight, PyData.weightAll] at w3 ⊢
      omega
    · simp only [PyData.depth, PyData.depthAll]
      omega

/-! ### texts cut and put together -/
def smC (z : Str) : Bool := z.cps.toList.all fun c => decide (c < 16 ^ 8)
theorem smC_cut {z : Str} {lo hi : Option Int} (h : smC z = true) : smC (cutS z lo hi) = true := by
  unfold smC at h ⊢
  rw [List.all_eq_true] at h ⊢
  intro c hc
  unfold cutS at hc
  simp only at hc
  exact h c (List.mem_of_mem_drop (List.mem_of_mem_take hc))
theorem smC_app {x y : Str} (h : smC x = true) (h' : smC y = true) : smC (x ++ y) = true := by
  unfold smC at h h' ⊢
  have e : (x ++ y).cps.toList = x.cps.toList ++ y.cps.toList := by
    show (x.cps ++ y.cps).toList = _
    simp
  rw [e, List.all_append, h, h']
  rfl
theorem len_app (x y : Str) : (x ++ y).length = x.length + y.length := by
  show (x.cps ++ y.cps).size = _
  simp [Str.length]
theorem Sv.str {z : Str} (h : smC z = true) (hl : z.length ≤ 1000) : Sv (.str z) :=
  ⟨by simp [PyData.showable], by simp only [PyData.leavesShort]; exact h, by simp only [PyData.weight]; exact hl, by simp [PyData.depth]⟩
theorem rk_str {i : Nat} {v : V} (h : (rkKV.map fun kv => kV kv.1)[i]? = some v) : ∃ z n, v = .str z ∧ rkS z = some n := by
  rw [List.getElem?_map] at h
  cases e : rkKV[i]? with
  | none => rw [e] at h; cases h
  | some p =>
    obtain ⟨k, x⟩ := p
    rw [e] at h
    obtain ⟨z, n, rfl, hz⟩ := rk_key e
    cases h
    exact ⟨z, n, rfl, hz⟩
theorem rk_len {z : Str} {n : Int} (h : rkS z = some n) : z.length ≤ 7 ∧ smC z = true := by
  rcases rk_word (d := .str z) h with q | q | q | q <;> (cases q; exact ⟨by decide +kernel, by decide +kernel⟩)
theorem sign_str {i : Nat} {v : V} (h : [V.str "", V.str " ", V.str "e", V.str "H"][i]? = some v) : ∃ z, v = .str z ∧ z.length ≤ 1 ∧ smC z = true := by
  match i, h with
  | 0, h => cases h; exact ⟨_, rfl, by decide +kernel, by decide +kernel⟩
  | 1, h => cases h; exact ⟨_, rfl, by decide +kernel, by decide +kernel⟩
  | 2, h => cases h; exact ⟨_, rfl, by decide +kernel, by decide +kernel⟩
  | 3, h => cases h; exact ⟨_, rfl, by decide +kernel, by decide +kernel⟩
  | n + 4, h => cases h

/-! ### two modes made and compared -/
section
variable {K : PySem.W.Frag} {CM : Addr} {σ : L2.St} {H : Hp} {z z' : Str} {n n' : Int} {i j : Nat} {Q : Bool → Hp → Prop}
theorem pair_eq (hi : σ[i]? = some (some (.str z))) (hj : σ[j]? = some (some (.str z'))) (hz : rkS z = some n) (hz' : rkS z' = some n')
    (q : ∀ H3, Same H H3 → Q (decide (z = z')) H3) :
    tTest (tOp (rOwnL K CM (spEqM K CM)) (tMake CM (spModeQ K CM) [] E0 (tCons (tVar i) tNil)) (tMake CM (spModeQ K CM) [] E0 (tCons (tVar j) tNil))) σ H Q := by
  refine ⟨_, hi, fun x dx nx nd ne => ⟨x, dx, z, n, rfl, upd_same, hz, rfl, ?_⟩⟩
  rw [upd_upd]
  have S1 := same_two (o := .own x) (o' := mdO CM dx z) nd nx ne
  refine ⟨_, hj, fun x2 dx2 nx2 nd2 ne2 => ⟨x2, dx2, z', n', rfl, upd_same, hz', rfl, ?_⟩⟩
  rw [upd_upd]
  have S2 := same_two (o := .own x2) (o' := mdO CM dx2 z') nd2 nx2 ne2
  have h1 := S2 _ _ (upd_same (H := upd H dx (.own x)) (a := x) (o := mdO CM dx z))
  exact ⟨x, dx, _, rfl, h1, .inr ⟨x2, dx2, _, rfl, upd_same⟩, x, dx, z, .ref x2, rfl, h1, .inr ⟨x2, dx2, z', rfl, upd_same, _, rfl, _, rfl, q _ (S1.trans S2)⟩⟩
theorem pair_ne (hi : σ[i]? = some (some (.str z))) (hj : σ[j]? = some (some (.str z'))) (hz : rkS z = some n) (hz' : rkS z' = some n')
    (q : ∀ H3, Same H H3 → Q (!decide (z = z')) H3) :
    tTest (tOp (rOwnNe CM (spEqM K CM)) (tMake CM (spModeQ K CM) [] E0 (tCons (tVar i) tNil)) (tMake CM (spModeQ K CM) [] E0 (tCons (tVar j) tNil))) σ H Q := by
  refine ⟨_, hi, fun x dx nx nd ne => ⟨x, dx, z, n, rfl, upd_same, hz, rfl, ?_⟩⟩
  rw [upd_upd]
  have S1 := same_two (o := .own x) (o' := mdO CM dx z) nd nx ne
  refine ⟨_, hj, fun x2 dx2 nx2 nd2 ne2 => ⟨x2, dx2, z', n', rfl, upd_same, hz', rfl, ?_⟩⟩
  rw [upd_upd]
  have S2 := same_two (o := .own x2) (o' := mdO CM dx2 z') nd2 nx2 ne2
  have h1 := S2 _ _ (upd_same (H := upd H dx (.own x)) (a := x) (o := mdO CM dx z))
  exact ⟨x, dx, _, x2, dx2, _, rfl, h1, rfl, upd_same, x, dx, z, .ref x2, rfl, h1, .inr ⟨x2, dx2, z', rfl, upd_same, _, rfl, _, rfl, q _ (S1.trans S2)⟩⟩
end
/-- the words of the law's dict -/
def rkV : List V := rkKV.map fun kv => kV kv.1
theorem take_yes {p : V → Bool} {i : Nat} {x : V} (e : rkV[i]? = some x) (h : p x = true) : (rkV.take (i + 1)).filter p = (rkV.take i).filter p ++ [x] := by
  rw [List.take_succ, e, List.filter_append]
  simp [h]
theorem take_no {p : V → Bool} {i : Nat} {x : V} (e : rkV[i]? = some x) (h : p x = false) : (rkV.take (i + 1)).filter p = (rkV.take i).filter p := by
  rw [List.take_succ, e, List.filter_append]
  simp [h]
theorem mates {z : Str} {n : Int} (h : rkS z = some n) : (rkV.filter fun y => decide (y = V.str z)) = [V.str z] ∧ (rkV.filter fun y => !decide (y = V.str z)).length = 3 ∧
    SeqAt.shaped (.list [.str z]) = true ∧ PyData.eqv (.list [.str z]) (.list [.str z]) = true := by
  rcases rk_word (d := .str z) h with q | q | q | q <;> (cases q; exact ⟨by decide +kernel, by decide +kernel, by decide +kernel, by decide +kernel⟩)
theorem rkV_len {p : V → Bool} {i : Nat} : ((rkV.take i).filter p).length < sizeLine := by
  have h1 := List.length_filter_le p (rkV.take i)
  have h2 : (rkV.take i).length ≤ 4 := by rw [List.length_take]; exact Nat.min_le_right _ _
  have h3 : 16 < sizeLine := by decide
  omega
end Rm

set_option maxRecDepth 100000
set_option maxHeartbeats 4000000
namespace Rm
open PySem PySem.Spec L2
open PyProof.Rows hiding St

/-! ### the end: the law's promise, asked by the caller that has no display under way -/
section
variable {P : Program} {w : World} {K : PySem.W.Frag} {mg mb : Str → Option Value} {k : Nat} {fa a : Addr} {fd : FuncData} {x : Str} {sp : Sp}
variable {s : Shared} {vs : List Value} {ns : List Int}
/-- what the caller is told -/
def Told (s : Shared) (r : Result) (s' : Shared) : Prop :=
  r = .ok (.ret (.bool true)) ∧ OldK s.heap s'.heap ∧ s'.os = s.os ∧ AllBare s'.gens
/-- the heap H tracks the script at most -/
structure Bare (P : Program) (w : World) (K : PySem.W.Frag) (s : Shared) (a : Addr) (H : Hp) : Prop where
  only : Only H
  hok : HOk P w H s.heap
  at_ : ∀ b u, H b = some u → b = a
  out : ∀ u, H a = some u → K.lookup a = none
  lst : ∃ vs : List Value, s.heap.get? a = some { cls := .type "list", data := .seq vs.toArray }
theorem Bare.dict {H : Hp} (B : Bare P w K s a H) {b : Addr} {o : Obj} {es : Array DictEntry} {ep : Nat}
    (e : s.heap.get? b = some o) (d : o.data = .dict es ep) : H b = none := by
  cases q : H b with
  | none => rfl
  | some u =>
    obtain ⟨vs, l⟩ := B.lst
    have z := B.at_ b u q
    rw [z, l] at e
    cases e
    exact absurd (show Data.seq vs.toArray _ = Data.dict es ep from d) (by intro y; cases y)
theorem Bare.names {H : Hp} (B : Bare P w K s a H) {b : Addr} {m : Str → Option Value} (h : s.heap.Ns b m) : (hidT s.heap H).Ns b m := by
  obtain ⟨o, es, ep, e, d, r⟩ := h
  exact ⟨o, es, ep, hidT_get e (B.dict e d), d, r⟩
theorem Bare.kin {H : Hp} (B : Bare P w K s a H) (KX : K.In s.heap) : K.In (hidT s.heap H) := fun b o e => by
  refine hidT_get (KX b o e) ?_
  cases q : H b with
  | none => rfl
  | some u =>
    have z := B.at_ b u q
    subst z
    rw [B.out u q] at e
    cases e
theorem told_of {H : Hp} (B : Bare P w K s a H) (KX : K.In s.heap) (hns : s.heap.Ns mainGlobals mg) (hb : s.heap.Ns builtinsNs mb)
    (hbb : ∀ y : Str, y ≠ "__name__" → mb y = bootBuiltins y) (hlim : s.heap.NoLimit) (hg : s.gens = #[]) (hr : Room k callerA)
    (F : ∀ base : Heap, K.In base → base.Ns mainGlobals mg → FnG P w K mg base CX0 k fa fd [x] sp)
    (hbind : ∀ (s : Shared) (u : Value), BindsTo s fd ⟨[u], []⟩ [(x, u)])
    (q : sp [.ref a] H (fun v _ => v = .bl true) E0) :
    codeAny (model P w) callerA (.call (.ref fa) ⟨[.ref a], []⟩) (Told s) s := by
  have kin := B.kin KX
  have lim : (hidT s.heap H).NoLimit := by
    obtain ⟨mc, h1, h2⟩ := hlim
    exact ⟨mc, B.names h1, h2⟩
  have md : Mod K mg (hidT s.heap H) := ⟨kin, B.names hns, ⟨mb, B.names hb, hbb⟩, lim⟩
  have none_in : ∀ b : Addr, b ∉ ([] : List Addr) := fun b z => by cases z
  have env : Env0 P w K mg (hidT s.heap H) callerA [] s H :=
    ⟨rfl, md, fun b o e => of_hidT e, Nat.le_of_eq (hidT_size _ _), trivial, fun b z => absurd z (none_in b), B.hok, .of_eq hg⟩
  have run := (F _ kin (B.names hns)).run callerA [] s H ⟨[.ref a], []⟩ [.ref a] [.ref a] _ _ hr rfl env (hbind s (.ref a)) (.cons rfl .nil) q
  refine codeAny_mono run fun r s' h => ?_
  match r, h with
  | .error e, h => exact False.elim h
  | .ok .next, h => exact False.elim h
  | .ok .brk, h => exact False.elim h
  | .ok .cont, h => exact False.elim h
  | .ok (.ret u), ⟨v, H', os, bare, un, hok', r', ev⟩ =>
    have ev : v = .bl true := ev
    subst ev
    have eu : u = Value.bool true := r'
    subst eu
    refine ⟨rfl, OldK.of_keep fun b o e => ?_, os, bare⟩
    rcases B.only b with z | ⟨ob, xs, z⟩
    · exact un.keep b o e z (none_in b) (none_in b)
    · have e1 := (B.hok b _ z).1
      have e2 := (hok' b _ (un.frzs b ob _ z)).1
      exact e2.trans (e1.symm.trans e)
/-- the script as the one tracked thing -/
def scH (a : Addr) (vs : List Value) (ns : List Int) : Hp := fun b =>
  if b = a then some (.frz { cls := .type "list", data := .seq vs.toArray } (.lst (ns.map V.int))) else none
theorem bare_sc (hk : K.lookup a = none) (ha : s.heap.get? a = some { cls := .type "list", data := .seq vs.toArray }) (hi : IntsAre vs ns)
    (hl : ns.length ≤ sizeLine) : Bare P w K s a (scH a vs ns) := by
  have at_ : ∀ b u, scH a vs ns b = some u → b = a := fun b u z => by
    unfold scH at z
    split at z
    · assumption
    · cases z
  refine ⟨fun b => ?_, fun b u z => ?_, at_, fun _ _ => hk, vs, ha⟩
  · unfold scH
    split
    · exact .inr ⟨_, _, rfl⟩
    · exact .inl rfl
  · have e := at_ b u z
    subst e
    unfold scH at z
    rw [if_pos rfl] at z
    cases z
    exact ⟨ha, by rw [List.length_map]; exact hl, vs, _, vals_ints hi, ha⟩
theorem bare_k (ha : s.heap.get? a = some { cls := .type "list", data := .seq vs.toArray }) : Bare P w K s a (fun _ => none) :=
  ⟨fun _ => .inl rfl, fun _ _ z => (nomatch z), fun _ _ z => (nomatch z), fun _ z => (nomatch z), vs, ha⟩
end
theorem walkG {l : PySem.W.OpenLaw} {k : Nat} {q : Program} {loose : List Str} {XP : (Str → Option Value) → Heap → Prop} {YP : World → Heap → Prop} {d : DefRec}
    {K : Params → PySem.W.Frag} (hn : l.most = some 63) (hdf : d.params.defaults = []) (hr : Room k callerA)
    (hY : ∀ (w : World) (h : Heap), YP w h → (K w.params).In h)
    (F : ∀ (w : World) (mg : Str → Option Value) (fa : Addr) (h : Heap), (K w.params).In h → h.Ns mainGlobals mg → mg d.name = some (.ref fa) →
      ∃ fd : FuncData, (∀ (s : Shared) (u : Value), BindsTo s fd ⟨[u], []⟩ [("_law_script", u)]) ∧
        ∀ base : Heap, (K w.params).In base → base.Ns mainGlobals mg → FnG l.prog w (K w.params) mg base CX0 k fa fd ["_law_script"] (spLaw (K w.params))) :
    PySem.W.WalkO q loose XP YP l.row.toRowW d [] (fun f vs => PySem.call f vs) := by
  refine Att.attach_callB hn hdf fun w s₀ s mg mb fa o pm cd doc a vs ns G Y ho hd hcd hmg ha hi hlen hbits hg => ?_
  have KX := hY w _ Y
  obtain ⟨fd, hb, hF⟩ := F w mg fa _ KX G.T.g hmg
  have hl : ns.length ≤ sizeLine := Nat.le_trans hlen (by decide)
  have go : ∀ H : Hp, Bare l.prog w (K w.params) s a H → SqL (K w.params) H a (ns.map V.int) →
      codeAny (model l.prog w) callerA (.call (.ref fa) ⟨[.ref a], []⟩) (Told s) s := fun H B S =>
    told_of B KX G.T.g G.T.b G.T.builtins G.T.nolimit hg hr hF hb ⟨a, ns, rfl, S, hlen, hbits, fun _ => rfl⟩
  cases hk : (K w.params).lookup a with
  | none => exact go _ (bare_sc hk ha hi hl) (.inl (.inr ⟨_, if_pos rfl⟩))
  | some ob =>
    have e := KX a ob hk
    rw [ha] at e
    cases e
    refine go _ (bare_k ha) (.inr ⟨_, vs.toArray, _, hk, rfl, rfl, rfl, ?_, ?_⟩)
    · rw [List.size_toArray, hi.length]; exact hl
    · simpa using vals_ints hi
/-- an error of the class at C is what `except` of C names -/
theorem em_self {K : PySem.W.Frag} {C : Addr} (h1 : PySem.W.subIn K (.ref C) (.type "BaseException") = some true) (h2 : PySem.W.hasDictIn K C = true)
    (h3 : PySem.W.typeIn K (.ref C) = some (.type "type")) (h4 : PySem.W.mroIn K C (.ref C) = some true) : PySem.W.exmOne K (.ref C) (.ref C) = some true := by
  have e : (PySem.W.clsIn K C).isSome = true := by
    obtain ⟨cd, z, _⟩ := PySem.W.any_some h2
    rw [z]; rfl
  unfold PySem.W.exmOne PySem.W.kitCls
  dsimp only
  rw [if_pos (by rw [h1]; rfl), if_pos (by rw [e, h3]; rfl)]
  exact h4
end Rm

set_option maxRecDepth 100000
set_option maxHeartbeats 4000000
namespace Rm
open PySem PySem.Spec L2
open PyProof.Rows hiding St

/-! ### one keyword and nothing else -/
/-- the keyword y fills the last of ps, behind n values -/
structure Kw1 (fd : FuncData) (ps : List Str) (n : Nat) (y : Str) : Prop where
  to : ∀ (s : Shared) (us : List Value) (w : Value), us.length = n → BindsTo s fd ⟨us, [(y, w)]⟩ (ps.zip (us ++ [w]))
def CmK (P : Program) (w : World) (K : PySem.W.Frag) (mg : Str → Option Value) (base : Heap) (CX : CXT)
    (k : Nat) (C : Addr) (m : Str) (ps : List Str) (y : Str) (sp : Sp) : Prop :=
  ∃ f fd, Cls K C ∧ Meth K C m f ∧ Kw1 fd ps 1 y ∧ FnG P w K mg base CX k f fd ps sp
def CnK (P : Program) (w : World) (K : PySem.W.Frag) (mg : Str → Option Value) (base : Heap) (CX : CXT)
    (k : Nat) (x : Str) (C : Addr) (ps : List Str) (y : Str) (sp : Sp) : Prop :=
  ∃ f fd, mg x = some (.ref C) ∧ Mk K C f ∧ Kw1 fd ps 1 y ∧ FnG P w K mg base CX k f fd ps sp
section
variable {X : Cx} {CX : CXT} {k n : Nat} {f C : Addr} {fd : FuncData} {ps : List Str} {sp : Sp} {E : XK} {x m y : Str} {p pos apos kpos : Pos} {e o : Expr} {te ta : TE}
theorem goes1 {pins : List (Addr × Obj)} {σ : L2.St} {H : Hp} {s : Shared} {Q : VK} {us : List Value} {vs : List V} {u : Value} {v : V}
    (F : FnG X.prog X.w X.K X.mg X.base CX k f fd ps sp) (hr : Room k X.A) (hG : Gd X.A) (hb : Kw1 fd ps n y) (hx : Passes CX X E)
    (I : Inv X pins σ H s) (r : Vals vs us) (rv : RelV v u) (hl : vs.length = n) (h : sp (vs ++ [v]) H Q E) :
    wpAny (model X.prog X.w) X.A (call (.ref f) us [(y, u)]) (EP X pins σ Q) X.xe s :=
  wpAny_call (codeAny_mono (F.run X.A X.stack s H ⟨us, [(y, u)]⟩ (us ++ [u]) (vs ++ [v]) Q E hr hG I.env0
    (hb.to s us u (r.length.symm.trans hl)) (r.append (.cons rv .nil)) h) fun r s' hq => came hx I hq)
theorem kw_one {pins : List (Addr × Obj)} {σ : L2.St} {H : Hp} {s : Shared} {Q : VK} (ha : PE X e te) (I : Inv X pins σ H s) (h : te σ H Q) :
    wpAny (model X.prog X.w) X.A (evalAll ((backToKw pos (keywordEach [⟨some y, e, kpos⟩] X.env)).map (·.2)))
      (fun us s' => ∃ v u H', us = [u] ∧ Inv X pins σ H' s' ∧ RelV v u ∧ Q v H') X.xe s := by
  show wpAny _ _ (evalAll ((do let v ← eval e X.env; standAt pos; pure v) :: [])) _ _ s
  refine wpAny_evalAll_cons (wpAny_bind (thn (ha.run pins s σ H _ I h) fun u s1 hh => wpAny_bind (wpAny_standAt (wpAny_pure ?_))))
  obtain ⟨v, H1, I1, r1, q1⟩ := hh
  exact wpAny_evalAll_nil ⟨v, u, H1, rfl, I1, r1, q1⟩
theorem pe_cmK {pl : Sem Bool} (D : CmK X.prog X.w X.K X.mg X.base CX k C m ps y sp) (hr : Room k X.A) (hG : Gd X.A)
    (he : PE X o ta) (ha : PE X e te) (hx : Passes CX X E)
    (ht : eval (.Call (.Attribute o m apos) [] [⟨some y, e, kpos⟩] pos) X.env = (do
      let ov ← eval o X.env
      standAt apos.atName
      let (g, first) ← holding [ov] (getMethod ov m pl)
      callWith pos g first (backTo pos (starEach [] X.env)) (backToKw pos (keywordEach [⟨some y, e, kpos⟩] X.env))) := by rfl) :
    PE X (.Call (.Attribute o m apos) [] [⟨some y, e, kpos⟩] pos) (tMeth C m sp [] E ta (tCons te tNil)) := by
  obtain ⟨f, fd, c, hm, hb, F⟩ := D
  constructor
  intro pins s σ H Q I h
  refine PySem.W.methodCall_KW (pl := pl)
    (thn (he.run pins s σ H _ I h) fun u s1 ⟨z, H1, I1, rz, a, dx, fs, ez, ea, l, q⟩ => ?_) ht
  subst ez
  cases rz
  refine getmeth_ok I1 ea c hm l (PySem.W.callWith_KW0 (first := [.ref a]) (h₀ := X.base) I1.ok.mod.kin hm.kp rfl
    (thn (kw_one ha I1 q) fun us s2 hh => ?_) rfl)
  obtain ⟨v, u, H2, rfl, I2, r1, q2⟩ := hh
  exact ⟨I2.kIn, goes1 (us := [.ref a]) (vs := [.ref a]) F hr hG hb hx I2 (.cons rfl .nil) r1 rfl q2⟩
theorem grows1 {pins : List (Addr × Obj)} {σ : L2.St} {H : Hp} {s : Shared} {Q : VK} {v : V} {u : Value} (M : Mk X.K C f)
    (F : FnG X.prog X.w X.K X.mg X.base CX k f fd ps sp) (hr : Room (k + 1) X.A) (hG : Gd X.A) (hb : Kw1 fd ps 1 y) (hx : Passes CX X E)
    (I : Inv X pins σ H s) (rv : RelV v u)
    (h : ∀ z dx, H z = none → H dx = none → dx ≠ z → sp [.ref z, v] (upd (upd H dx (.own z)) z (.ins C dx [])) (fun v H2 => v = .non ∧ Q (.ref z) H2) E) :
    wpAny (model X.prog X.w) X.A (call (.ref C) [] [(y, u)]) (EP X pins σ Q) X.xe s := by
  have hq := h (s.heap.objs.size + 1) s.heap.objs.size (I.hok.fresh (Nat.le_succ _)) (I.hok.fresh (Nat.le_refl _)) (Nat.ne_of_lt (Nat.lt_succ_self _))
  have I2 := Inv.made (C := C) I
  refine wpAny_call (make_map (f := f) I.kIn M.makes M.init (beq_iff_eq.mp M.fn)
    (codeAny_mono (F.run _ X.stack _ _ ⟨[Value.ref (s.heap.objs.size + 1)], [(y, u)]⟩ [Value.ref (s.heap.objs.size + 1), u] _ _ E
      (hr.make C [] [(y, u)]) (hG.make C [] [(y, u)]) (I2.env0.make C [] [(y, u)])
      (hb.to _ [Value.ref (s.heap.objs.size + 1)] u rfl) (show Vals [V.ref (s.heap.objs.size + 1), v] _ from .cons rfl (.cons rv .nil)) hq) fun r s' hq' => ?_))
  match r, hq' with
  | .error er, hq' => exact hx pins σ _ _ er s' I2 hq'
  | .ok (.ret z), hq' =>
    obtain ⟨v, H', I3, rz, ev, q3⟩ := I2.after hq'
    subst ev
    exact ⟨rz, V.ref (s.heap.objs.size + 1), H', I3, rfl, q3⟩
  | .ok .next, hq' => exact False.elim hq'
  | .ok .brk, hq' => exact False.elim hq'
  | .ok .cont, hq' => exact False.elim hq'
theorem pe_cnK (D : CnK X.prog X.w X.K X.mg X.base CX k x C ps y sp) (hr : Room (k + 1) X.A) (hG : Gd X.A) (ha : PE X e te) (hx : Passes CX X E)
    (hg : Gl X x := by rfl) (hdb : (x == ("__debug__" : Str)) = false := by decide) :
    PE X (.Call (.Name x p) [] [⟨some y, e, kpos⟩] pos) (tMake C sp [] E (tCons te tNil)) := by
  obtain ⟨f, fd, hm, M, hb, F⟩ := D
  constructor
  intro pins s σ H Q I h
  refine wpAny_Call_Name_kw (ld_glob I hg hm ?_ hdb)
  refine PySem.W.callWith_KW0 (first := []) (h₀ := X.base) I.ok.mod.kin M.kp rfl (thn (kw_one ha I h) fun us s2 hh => ?_) rfl
  obtain ⟨v, u, H2, rfl, I2, r1, q2⟩ := hh
  exact ⟨I2.kIn, grows1 M F hr hG hb hx I2 r1 q2⟩

/-! ### | by an own __or__ -/
def rOwnOr (C : Addr) (sp : Sp) : R2 := fun x y H Q => ∃ a dx fs b dy gs, x = .ref a ∧ H a = some (.ins C dx fs) ∧ y = .ref b ∧ H b = some (.ins C dy gs) ∧
  sp [x, y] H (fun z H' => (∃ c, z = .ref c) ∧ Q z H') E0
theorem op_ownOr (D : Cm X.prog X.w X.K X.mg X.base CX0 k C "__or__" ps sp) (sf : PySem.W.selfFirst X.K C = true) (hr : Room k X.A) (hG : Gd X.A) :
    OpR X (binaryOp .BitOr) (rOwnOr C sp) := by
  intro pins s σ H x y v u Q I rx ry h
  obtain ⟨a, dx, fs, b, dy, gs, rfl, ha, rfl, hb', q⟩ := h
  cases rx
  cases ry
  obtain ⟨f, fd, c, hm, hb, F0⟩ := D
  obtain ⟨mA, O, _⟩ := ins_get I.hok ha
  obtain ⟨od, J, _⟩ := O.look
  obtain ⟨mB, O', _⟩ := ins_get I.hok hb'
  obtain ⟨od', J', _⟩ := O'.look
  obtain ⟨m, hF⟩ := I.fr
  have hl : ([Value.ref a] ++ [Value.ref b]).length = ps.length := F0.len _ _ _ _ q
  refine PySem.W.binop_K (op := .BitOr) hF I.ok.mod.kin J J'.type sf hm.at_ hm.fn ?_
  refine wpAny_call (codeAny_mono (F0.run X.A X.stack s H ⟨[.ref a, .ref b], []⟩ [.ref a, .ref b] [.ref a, .ref b] _ _ hr hG I.env0
      (by have := hb s [.ref a, .ref b] I.kIn (by simpa using hl); simpa using this) (.cons rfl (.cons rfl .nil)) q) fun rr s' hq => ?_)
  match rr, hq with
  | .error er, hq => exact False.elim hq
  | .ok (.ret z), hq =>
    obtain ⟨y, H', I2, ry, ⟨⟨c, ey⟩, qq⟩⟩ := I.after hq
    subst ey
    cases ry
    exact ⟨.ref c, H', I2, rfl, qq⟩
  | .ok .next, hq => exact False.elim hq
  | .ok .brk, hq => exact False.elim hq
  | .ok .cont, hq => exact False.elim hq
end
end Rm

set_option maxRecDepth 100000
set_option maxHeartbeats 4000000
namespace Rm
open PySem PySem.Spec L2
open PyProof.Rows hiding St

/-! ### static methods -/
structure StM (K : PySem.W.Frag) (C : Addr) (m : Str) (f : Addr) : Prop where
  ga : PySem.W.specialIn K (.ref C) "__getattribute__" = some (some (.builtin "type.__getattribute__"))
  cls : Cls K C
  ty : PySem.W.typeIn K (.ref C) = some (.type "type")
  rd : PySem.W.readsIn K C (.type "type") = true
  at_ : ∃ p rest, PySem.W.findCls K (.ref C) (.type "type") m = some (.get (.builtin "staticmethod.__get__") (.ref p) .none (.ref C)) ∧
    PySem.W.recIn K p "staticmethod" = some (.ref f :: rest) ∧ PySem.W.findIn K (.ref C) m = some (some (.ref p)) ∧ PySem.W.typeIn K (.ref p) = some (.type "staticmethod") ∧
    PySem.W.specialIn K (.ref p) "__get__" = some (some (.builtin "staticmethod.__get__")) ∧ PySem.W.takesIn K (.ref p) = some false
  cp : PySem.W.copiedNames.contains m = false
  kp : PySem.W.keepIn K (.ref f) = true
def Cs (P : Program) (w : World) (K : PySem.W.Frag) (mg : Str → Option Value) (base : Heap) (CX : CXT)
    (k : Nat) (C : Addr) (m : Str) (ps : List Str) (y : Str) (sp : Sp) : Prop :=
  ∃ f fd, StM K C m f ∧ Binds K fd ps [] ∧ Kw1 fd ps 0 y ∧ FnG P w K mg base CX k f fd ps sp
def tStat (C : Addr) (sp : Sp) (E : XK) (ta : TE) (t : TA) : TE := fun σ H Q => ta σ H fun x H1 => x = .ref C ∧ t σ H1 fun vs H2 => sp vs H2 Q E
def tStatI (C : Addr) (m : Str) (sp : Sp) (E : XK) (ta : TE) (t : TA) : TE := fun σ H Q => ta σ H fun x H1 =>
  ∃ a dx fs, x = .ref a ∧ H1 a = some (.ins C dx fs) ∧ fs.lookup m = none ∧ t σ H1 fun vs H2 => sp vs H2 Q E
section
variable {X : Cx} {CX : CXT} {k : Nat} {f C : Addr} {ps : List Str} {sp : Sp} {E : XK} {m y : Str} {pos apos kpos : Pos} {e o : Expr} {es : List Expr} {te ta : TE} {t : TA}
theorem get_sm {pl : Sem Bool} {pins : List (Addr × Obj)} {σ : L2.St} {H : Hp} {s : Shared} {Q : Value × List Value → Shared → Prop} (S : StM X.K C m f) (I : Inv X pins σ H s)
    (h : ∀ s', Inv X pins σ H s' → Q (.ref f, []) s') : wpAny (model X.prog X.w) X.A (getMethod (.ref C) m pl) Q X.xe s := by
  obtain ⟨p, rest, h1, h2, _⟩ := S.at_
  obtain ⟨n, hF⟩ := I.fr
  exact PySem.W.method_of_cls hF I.ok.mod.kin S.ga (PySem.W.cls_sm hF I.ok.mod.kin S.ty S.rd h1 h2 rfl (h _ (I.tok _)))
theorem get_smI {pl : Sem Bool} {pins : List (Addr × Obj)} {σ : L2.St} {H : Hp} {s : Shared} {Q : Value × List Value → Shared → Prop} {a dx : Addr} {fs : List (Str × V)}
    (S : StM X.K C m f) (I : Inv X pins σ H s) (ea : H a = some (.ins C dx fs)) (l : fs.lookup m = none)
    (h : ∀ s', Inv X pins σ H s' → Q (.ref f, []) s') : wpAny (model X.prog X.w) X.A (getMethod (.ref a) m pl) Q X.xe s := by
  obtain ⟨p, rest, _, h2, h3, h4, h5, h6⟩ := S.at_
  obtain ⟨mA, O, r, _⟩ := ins_get I.hok ea
  have hn : mA m = none := RelO.none_of (by rw [← l]; exact r m)
  obtain ⟨od, J, lk⟩ := O.look
  have pg := PySem.W.plainGet_of (S.cls.get m)
  refine PySem.W.method_usual (r := some (.ref p)) I.kIn J pg.1 pg.2 h3 (by simp only [Option.all_some, h4, Option.any_some]; decide +kernel) ?_
  refine PySem.W.get_bind I.kIn J pg.1 (PySem.W.findObj_fn S.cls.hd h3 h5 h6 S.cp (by rw [lk, hn])) pg.2 ?_
  exact wpAny_call (PySem.W.sm_get (s := { s with toks := s.toks + 1 }) I.kIn h2 (PySem.W.handed_on rfl (h _ (I.tok _))))
theorem pe_cs {pl : Sem Bool} (D : Cs X.prog X.w X.K X.mg X.base CX k C m ps y sp) (hr : Room k X.A) (hG : Gd X.A)
    (he : PE X o ta) (ha : PA X (e :: es) t) (hx : Passes CX X E)
    (hst : starEach (e :: es) X.env = (false, eval e X.env) :: starEach es X.env := by rfl)
    (hpl : (backTo pos (starEach es X.env)).any (·.1) = false := by rfl)
    (ht : eval (.Call (.Attribute o m apos) (e :: es) [] pos) X.env = (do
      let ov ← eval o X.env
      standAt apos.atName
      let (g, first) ← holding [ov] (getMethod ov m pl)
      callWith pos g first (backTo pos (starEach (e :: es) X.env)) (backToKw pos (keywordEach [] X.env))) := by rfl) :
    PE X (.Call (.Attribute o m apos) (e :: es) [] pos) (tStat C sp E ta t) := by
  obtain ⟨f, fd, S, hb, _, F⟩ := D
  constructor
  intro pins s σ H Q I h
  refine PySem.W.methodCall_KW (pl := pl) (thn (he.run pins s σ H _ I h) fun u s1 ⟨z, H1, I1, rz, ez, q⟩ => ?_) ht
  subst ez
  cases rz
  refine get_sm S I1 fun s2 I2 => PySem.W.callWith_K (first := []) (h₀ := X.base) I.ok.mod.kin S.kp (thn (ha.run pos pins s2 σ H1 _ I2 q) fun us s3 ⟨vs, H2, I3, r, q2⟩ =>
      ⟨I3.kIn, goes (dvs := []) (ds := []) F hr hG hb .nil hx I3 r (by rw [List.append_nil]; exact q2)⟩) hst hpl
theorem pe_csI {pl : Sem Bool} (D : Cs X.prog X.w X.K X.mg X.base CX k C m ps y sp) (hr : Room k X.A) (hG : Gd X.A)
    (he : PE X o ta) (ha : PA X (e :: es) t) (hx : Passes CX X E)
    (hst : starEach (e :: es) X.env = (false, eval e X.env) :: starEach es X.env := by rfl)
    (hpl : (backTo pos (starEach es X.env)).any (·.1) = false := by rfl)
    (ht : eval (.Call (.Attribute o m apos) (e :: es) [] pos) X.env = (do
      let ov ← eval o X.env
      standAt apos.atName
      let (g, first) ← holding [ov] (getMethod ov m pl)
      callWith pos g first (backTo pos (starEach (e :: es) X.env)) (backToKw pos (keywordEach [] X.env))) := by rfl) :
    PE X (.Call (.Attribute o m apos) (e :: es) [] pos) (tStatI C m sp E ta t) := by
  obtain ⟨f, fd, S, hb, _, F⟩ := D
  constructor
  intro pins s σ H Q I h
  refine PySem.W.methodCall_KW (pl := pl) (thn (he.run pins s σ H _ I h) fun u s1 ⟨z, H1, I1, rz, a, dx, fs, ez, ea, l, q⟩ => ?_) ht
  subst ez
  cases rz
  refine get_smI S I1 ea l fun s2 I2 => PySem.W.callWith_K (first := []) (h₀ := X.base) I.ok.mod.kin S.kp (thn (ha.run pos pins s2 σ H1 _ I2 q) fun us s3 ⟨vs, H2, I3, r, q2⟩ =>
      ⟨I3.kIn, goes (dvs := []) (ds := []) F hr hG hb .nil hx I3 r (by rw [List.append_nil]; exact q2)⟩) hst hpl
theorem pe_csK {pl : Sem Bool} (D : Cs X.prog X.w X.K X.mg X.base CX k C m ps y sp) (hr : Room k X.A) (hG : Gd X.A)
    (he : PE X o ta) (ha : PE X e te) (hx : Passes CX X E)
    (ht : eval (.Call (.Attribute o m apos) [] [⟨some y, e, kpos⟩] pos) X.env = (do
      let ov ← eval o X.env
      standAt apos.atName
      let (g, first) ← holding [ov] (getMethod ov m pl)
      callWith pos g first (backTo pos (starEach [] X.env)) (backToKw pos (keywordEach [⟨some y, e, kpos⟩] X.env))) := by rfl) :
    PE X (.Call (.Attribute o m apos) [] [⟨some y, e, kpos⟩] pos) (tStat C sp E ta (tCons te tNil)) := by
  obtain ⟨f, fd, S, _, hb, F⟩ := D
  constructor
  intro pins s σ H Q I h
  refine PySem.W.methodCall_KW (pl := pl) (thn (he.run pins s σ H _ I h) fun u s1 ⟨z, H1, I1, rz, ez, q⟩ => ?_) ht
  subst ez
  cases rz
  refine get_sm S I1 fun s2 I2 => PySem.W.callWith_KW0 (first := []) (h₀ := X.base) I.ok.mod.kin S.kp rfl (thn (kw_one ha I2 q) fun us s3 hh => ?_) rfl
  obtain ⟨v, u, H2, rfl, I3, r1, q2⟩ := hh
  exact ⟨I3.kIn, goes1 (us := []) (vs := []) F hr hG hb hx I3 .nil r1 rfl q2⟩
end
end Rm

set_option maxRecDepth 100000
set_option maxHeartbeats 4000000
namespace Rm
open PySem PySem.Spec L2
open PyProof.Rows hiding St

/-! ### max(list of words, key=own def, default=None) -/
/-- an object that nothing of ours knows -/
structure Apart (X : Cx) (pins : List (Addr × Obj)) (H : Hp) (a : Addr) : Prop where
  na : H a = none
  nL : a ≠ X.env.locals
  nF : a ∉ X.fs
  n0 : X.s_0.heap.get? a = none
  nC : ∀ x c, X.env.cells.lookup x = some c → c ≠ a
  nP : ∀ p ∈ X.pn ++ pins, p.1 ≠ a
section
variable {X : Cx} {pins : List (Addr × Obj)} {σ : L2.St} {H : Hp} {s : Shared} {a : Addr}
theorem Apart.new (I : Inv X pins σ H s) (h : s.heap.objs.size ≤ a) : Apart X pins H a := by
  have no : s.heap.get? a = none := Heap.get?_none_of_le h
  refine ⟨I.hok.fresh h, fun e => ?_, I.nofs h, Heap.get?_none_of_le (Nat.le_trans I.sz h), fun x c e z => ?_, fun p hp z => ?_⟩
  · rw [e] at h
    exact absurd (Nat.lt_of_lt_of_le I.lt h) (Nat.lt_irrefl _)
  · obtain ⟨v, o, ho, _⟩ := I.cell x c e
    rw [z, no] at ho
    cases ho
  · have := (I.pin p hp).1
    rw [z, no] at this
    cases this
theorem Inv.other {h' : Heap} {t' : Nat} (I : Inv X pins σ H s) (A : Apart X pins H a)
    (k : ∀ b o, b ≠ a → s.heap.get? b = some o → h'.get? b = some o) : Inv X pins σ H { s with heap := h', toks := t' } := by
  obtain ⟨m, hn, hlk⟩ := id I.loc
  have ne0 : ∀ b o, X.s_0.heap.get? b = some o → b ≠ a := fun b o e z => by rw [z, A.n0] at e; cases e
  have ns : h'.Ns X.env.locals m := by
    obtain ⟨o, es, ep, e, d, r⟩ := hn
    exact ⟨o, es, ep, k _ _ (Ne.symm A.nL) e, d, r⟩
  refine ⟨I.ok, I.os, I.bare, ⟨fun b o e n hb hx => ?_, fun b o e n hb hx => ?_, I.base.free, fun b o e hx => ?_, I.base.tups, I.base.frzs, I.base.tbls⟩,
    ⟨m, ns, fun i x v e1 e2 e3 => ?_⟩, fun x c e => ?_, I.free, I.freeC, fun p hp => ?_, fun b ob e => ?_, I.len⟩
  · exact k _ _ (ne0 b o e) (I.base.keep b o e n hb hx)
  · obtain ⟨sl, e1⟩ := I.base.slot b o e n hb hx
    exact ⟨sl, k _ _ (ne0 b o e) e1⟩
  · obtain ⟨o', e1⟩ := I.base.there b o e hx
    exact ⟨o', k _ _ (ne0 b o e) e1⟩
  · obtain ⟨u, r, q⟩ := hlk i x v e1 e2 e3
    refine ⟨u, r, ?_⟩
    rcases q with q | ⟨kk, c, e, z⟩
    · exact .inl q
    · obtain ⟨o, ho, hd⟩ := z
      exact .inr ⟨kk, c, e, o, k _ _ (A.nC x c e) ho, hd⟩
  · obtain ⟨v, o, ho, hd⟩ := I.cell x c e
    exact ⟨v, o, k _ _ (A.nC x c e) ho, hd⟩
  · obtain ⟨e, r⟩ := I.pin p hp
    exact ⟨k _ _ (A.nP p hp) e, r⟩
  · refine (I.hok b ob e).stay (fun c w' hc q => k _ _ ?_ q) (fun _ q => q) fun _ _ q => q
    intro z
    subst z
    rcases hc with hc | hc
    · rw [← hc, A.na] at e; cases e
    · rw [A.na] at hc; cases hc
end
/-- the first of the greatest -/
def better (b : Option (Str × Int)) (p : Str × Int) : Option (Str × Int) := match b with
  | none => some p
  | some q => if p.2 > q.2 then some p else some q
def bestL (ws : List (Str × Int)) : Option (Str × Int) := ws.foldl better none
def bestV (ws : List (Str × Int)) : V := match bestL ws with
  | none => .non
  | some p => .str p.1
theorem best_next {ws : List (Str × Int)} {i : Nat} {p : Str × Int} (e : ws[i]? = some p) : bestL (ws.take (i + 1)) = better (bestL (ws.take i)) p := by
  unfold bestL
  rw [List.take_succ, e, List.foldl_append]
  rfl
/-- what the loop keeps of the best one so far -/
def Held (b : Option (Str × Int)) (items : List Value) : Prop := match b with
  | none => items = []
  | some p => ∃ t t', items = [.str p.1 t, .int p.2 t']
theorem max_args (a v d : Value) : argsOk "max" ⟨[a], [(Str.ofString "key", v), (Str.ofString "default", d)]⟩ := by unfold argsOk; kernel_rfl
section
variable {X : Cx} {pins : List (Addr × Obj)} {σ : L2.St} {H : Hp} {l q it S : Addr} {ws : List (Str × Int)} {fd : FuncData} {R : Result → Shared → Prop}
theorem max_loop (F0 : FnG X.prog X.w X.K X.mg X.base CX0 1 q fd ["word"] spRank) (hb : Binds X.K fd ["word"] []) (hr : Room 2 X.A) (hG : Gd X.A)
    (hh : X.A.handled = none) (hw : ∀ p ∈ ws, rkS p.1 = some p.2) (hl : SqL X.K H l (ws.map fun p => V.str p.1))
    (aI : Apart X pins H it) (aS : Apart X pins H S) (ne : it ≠ S)
    (hR : ∀ u s', Inv X pins σ H s' → RelV (bestV ws) u → R (.ok (.ret u)) s') :
    ∀ (r i : Nat) (s : Shared) (items : List Value) (c : Nat), ws.length - i = r → i ≤ ws.length → Inv X pins σ H s → s.heap.IsListIter it l i →
      s.heap.get? S = some (seqObj "list" items.toArray c) → Held (bestL (ws.take i)) items →
      codeAny (model X.prog X.w) X.A (.builtin "max.loop" ⟨[.ref it, .ref q, .ref S], [(Str.ofString "default", .none)]⟩) R s := by
  have hname : (toString "max" ++ toString ".loop" : String) = "max.loop" := by decide
  intro r
  induction r with
  | zero =>
    intro i s items c hi hle I hit hS hacc
    have e : i = ws.length := by omega
    subst e
    rw [List.take_length] at hacc
    obtain ⟨its, rv, hls, _⟩ := I.list hl
    have hn : its.toArray[ws.length]? = none := by
      have e1 := rv.length
      rw [List.length_map] at e1
      rw [e1]
      simp
    refine codeAny_builtin PySem.F.entry_max_loop ?_
    rw [Around.under_plainId PySem.F.plain_max_loop _]
    show wpAny _ X.A.in1 (seqItems? (.ref S) >>= _) _ _ _
    refine wpAny_bind (wpAny_seqItems hS rfl ?_)
    show wpAny _ X.A.in1 (tryCatch (pyNext (.ref it)) _ >>= _) _ _ _
    refine wpAny_bind (wpAny_tryCatch (wpAny_pyNext_list_end hh hit hls.isList hn fun h' hk => ?_))
    have I1 : Inv X pins σ H { s with heap := h' } := Inv.other (t' := s.toks) I aI fun b o nb e => hk b o nb e
    have hS' := hk S _ (Ne.symm ne) hS
    unfold bestV at hR
    cases hB : bestL ws with
    | none =>
      rw [hB] at hacc hR
      have hacc : items = [] := hacc
      subst hacc
      refine wpAny_bind (wpAny_rule (wpAny_pure ?_))
      exact hR .none _ I1 rfl
    | some p =>
      rw [hB] at hacc hR
      obtain ⟨t, t', hacc⟩ := (show ∃ t t', items = [.str p.1 t, .int p.2 t'] from hacc)
      subst hacc
      show wpAny _ X.A.in1 (updateSeq S (fun _ => #[]) >>= _) _ _ _
      refine wpAny_bind ?_
      refine wpAny_updateSeq hS' rfl (wpAny_bind (wpAny_letGo (wpAny_pure ?_)))
      exact hR _ _ (Inv.other (t' := s.toks) I1 aS fun b o nb e => ((Heap.SameBut.update h' S _).2 b nb).trans e) ⟨t, rfl⟩
  | succ r ih =>
    intro i s items c hi hle I hit hS hacc
    have hlt : i < ws.length := by omega
    obtain ⟨its, rv, hls, _⟩ := I.list hl
    have ep : ws[i]? = some ws[i] := List.getElem?_eq_getElem hlt
    have em : (ws.map fun p => V.str p.1)[i]? = some (V.str ws[i].1) := by rw [List.getElem?_map, ep]; rfl
    obtain ⟨u, hu, ru⟩ := rv.get em
    obtain ⟨t, rfl⟩ := ru
    refine codeAny_builtin PySem.F.entry_max_loop ?_
    rw [Around.under_plainId PySem.F.plain_max_loop _]
    show wpAny _ X.A.in1 (seqItems? (.ref S) >>= _) _ _ _
    refine wpAny_bind (wpAny_seqItems hS rfl ?_)
    show wpAny _ X.A.in1 (tryCatch (pyNext (.ref it)) _ >>= _) _ _ _
    refine wpAny_bind (wpAny_tryCatch (wpAny_pyNext_list_item hit hls.isList (x := .str ws[i].1 t) (by simpa using hu) fun h' hit' hk => ?_))
    have I1 : Inv X pins σ H { s with heap := h' } := Inv.other (t' := s.toks) I aI fun b o nb e => (hk.2 b nb).trans e
    have hS' := (hk.2 S (Ne.symm ne)).trans hS
    obtain ⟨oI, hoI, hoc, hod⟩ := hit'
    -- the call
    have rk := hw _ (List.getElem_mem hlt)
    have P1 : Inv X ((it, oI) :: (S, seqObj "list" items.toArray c) :: pins) σ H { s with heap := h' } := I1.pins_of fun p hp => by
      rcases List.mem_cons.mp hp with e | hp
      · subst e
        exact ⟨hoI, aI.na, aI.nL, aI.nF, fun v z => by have z' : oI.data = .cell v := z; rw [hod] at z'; cases z'⟩
      · rcases List.mem_cons.mp hp with e | hp
        · subst e
          exact ⟨hS', aS.na, aS.nL, aS.nF, fun v z => nomatch z⟩
        · exact I1.pin p (List.mem_append_right _ hp)
    show wpAny _ X.A.in1 (tryCatch (holding [.str ws[i].1 t] (call (.ref q) [.str ws[i].1 t])) _ >>= _) _ _ _
    have q1 : spRank [V.str ws[i].1] H (fun v H' => v = .int ws[i].2 ∧ H' = H) E0 := ⟨_, _, rfl, rk, rfl, rfl⟩
    have run := F0.run X.A.in1 X.stack { s with heap := h' } H ⟨[.str ws[i].1 t], []⟩ [.str ws[i].1 t] [.str ws[i].1] _ _ hr.in1 hG.in1 P1.env0.in1
      (hb _ [.str ws[i].1 t] P1.kIn rfl) (.cons ⟨t, rfl⟩ .nil) q1
    refine wpAny_bind (wpAny_tryCatch (wpAny_holding (wpAny_call (codeAny_mono run fun rr s2 hq => ?_))))
    match rr, hq with
    | .error er, hq => exact False.elim hq
    | .ok .next, hq => exact False.elim hq
    | .ok .brk, hq => exact False.elim hq
    | .ok .cont, hq => exact False.elim hq
    | .ok (.ret z), hq =>
      obtain ⟨y, H2, I2, ry, ey, eH⟩ := P1.after hq
      subst ey
      subst eH
      obtain ⟨t2, rfl⟩ := ry
      have gI := (I2.pin (it, oI) (List.mem_append_right _ (.head _))).1
      have gS := (I2.pin (S, seqObj "list" items.toArray c) (List.mem_append_right _ (.tail _ (.head _)))).1
      have I3 : Inv X pins σ H2 s2 := I2.pins_of fun p hp => I2.pin p (List.mem_append_right _ (.tail _ (.tail _ hp)))
      have bn := best_next ep
      cases hB : bestL (ws.take i) with
      | none =>
        rw [hB] at hacc bn
        have hacc : items = [] := hacc
        subst hacc
        have s1 := Heap.SameBut.update s2.heap S (Obj.mapSeq fun _ => #[Value.str ws[i].1 t, .int ws[i].2 t2])
        obtain ⟨c2, hc2⟩ : ∃ c2, (s2.heap.update S (Obj.mapSeq fun _ => #[Value.str ws[i].1 t, .int ws[i].2 t2])).get? S = some (seqObj "list" #[Value.str ws[i].1 t, .int ws[i].2 t2] c2) :=
          ⟨_, get?_update_seq gS fun _ => #[Value.str ws[i].1 t, .int ws[i].2 t2]⟩
        show wpAny _ X.A.in1 (updateSeq S (fun _ => #[Value.str ws[i].1 t, .int ws[i].2 t2]) >>= _) _ _ _
        refine wpAny_bind ?_
        refine wpAny_updateSeq gS rfl ?_
        rw [hname]
        refine wpAny_pure ⟨plainId_quiet PySem.F.plain_max_loop _, ih (i + 1) _ [.str ws[i].1 t, .int ws[i].2 t2] c2 (by omega) hlt (Inv.other (t' := s2.toks) I3 aS fun b o nb e => (s1.2 b nb).trans e)
          ⟨oI, (s1.2 it ne).trans gI, hoc, hod⟩ hc2 ?_⟩
        rw [bn]
        exact ⟨t, t2, rfl⟩
      | some p =>
        rw [hB] at hacc bn
        obtain ⟨tb, tb', hacc⟩ := (show ∃ t t', items = [.str p.1 t, .int p.2 t'] from hacc)
        subst hacc
        show wpAny _ X.A.in1 (tryCatch (holding [.str ws[i].1 t, .int ws[i].2 t2] (richCompare .Gt (.int ws[i].2 t2) (.int p.2 tb') >>= _)) _ >>= _) _ _ _
        refine wpAny_bind (wpAny_tryCatch (wpAny_holding (wpAny_bind (CmpOf.ints_gt (prog := X.prog) (w := X.w) (A := X.A.in1) (P := fun n v => ∃ t, v = .int (if n = 0 then ws[i].2 else p.2) t)
          (fun n => if n = 0 then ws[i].2 else p.2) (fun i v h => h) 0 1 _ _ _ _ _ ⟨t2, rfl⟩ ⟨tb', rfl⟩ ?_))))
        refine wpAny_bind (wpAny_holding (wpAny_truthy_bool ?_))
        refine wpAny_bind (wpAny_letGo (wpAny_pure ?_))
        simp only [if_true, Nat.one_ne_zero, if_false]
        by_cases hgt : ws[i].2 > p.2
        · have s1 := Heap.SameBut.update s2.heap S (Obj.mapSeq fun _ => #[Value.str ws[i].1 t, .int ws[i].2 t2])
          obtain ⟨c2, hc2⟩ : ∃ c2, (s2.heap.update S (Obj.mapSeq fun _ => #[Value.str ws[i].1 t, .int ws[i].2 t2])).get? S = some (seqObj "list" #[Value.str ws[i].1 t, .int ws[i].2 t2] c2) :=
            ⟨_, get?_update_seq gS fun _ => #[Value.str ws[i].1 t, .int ws[i].2 t2]⟩
          simp only [hgt, decide_true, if_true]
          refine wpAny_bind ?_
          refine wpAny_updateSeq gS rfl (wpAny_bind (wpAny_letGo ?_))
          rw [hname]
          refine wpAny_pure ⟨plainId_quiet PySem.F.plain_max_loop _, ih (i + 1) _ [.str ws[i].1 t, .int ws[i].2 t2] c2 (by omega) hlt (Inv.other (t' := s2.toks) I3 aS fun b o nb e => (s1.2 b nb).trans e)
            ⟨oI, (s1.2 it ne).trans gI, hoc, hod⟩ hc2 ?_⟩
          rw [bn]
          show Held (if _ then _ else _) _
          rw [if_pos hgt]
          exact ⟨t, t2, rfl⟩
        · simp only [hgt, decide_false, Bool.false_eq_true, if_false]
          refine wpAny_bind (wpAny_letGo ?_)
          rw [hname]
          refine wpAny_pure ⟨plainId_quiet PySem.F.plain_max_loop _, ih (i + 1) _ [.str p.1 tb, .int p.2 tb'] c (by omega) hlt I3 ⟨oI, gI, hoc, hod⟩ gS ?_⟩
          rw [bn]
          show Held (if _ then _ else _) _
          rw [if_neg hgt]
          exact ⟨tb, tb', rfl⟩
end
end Rm

set_option maxRecDepth 100000
set_option maxHeartbeats 4000000
namespace Rm
open PySem PySem.Spec L2
open PyProof.Rows hiding St
/-- max(ws, key=rank, default=None): the first of the greatest, or None -/
def rMaxW (K : PySem.W.Frag) (q : Addr) : List V → List V → Hp → VK → Prop := fun vs zs H Q => ∃ l ws, vs = [.ref l] ∧ zs = [.ref q, .non] ∧
  SqL K H l (ws.map fun p : Str × Int => V.str p.1) ∧ (∀ p ∈ ws, rkS p.1 = some p.2) ∧ Q (bestV ws) H
theorem call_maxW {X : Cx} {q : Addr} {fd : FuncData} (F0 : FnG X.prog X.w X.K X.mg X.base CX0 1 q fd ["word"] spRank) (hb : Binds X.K fd ["word"] []) (hr : Room 2 X.A) (hG : Gd X.A)
    (hc : X.calm = true) : CallRK X (.builtin "max") ["key", "default"] (rMaxW X.K q) := by
  have hname : (toString "max" ++ toString ".loop" : String) = "max.loop" := by decide
  intro pins s σ H vs us zs ws Q I r rz h
  obtain ⟨l, ps, rfl, rfl, hl, hw, hQ⟩ := h
  rw [Vals.ref1 r]
  obtain ⟨w1, w2, rfl, r1, r2⟩ := vals2 rz
  cases r1
  cases r2
  obtain ⟨its, rv, hls, _⟩ := I.list hl
  show wpAny _ X.A (call (.builtin "max") [.ref l] [(Str.ofString "key", .ref q), (Str.ofString "default", .none)]) _ _ s
  refine kmk_tree PySem.F.kind_max PySem.F.plain_max PySem.F.entry_max (max_args _ _ _) ?_
  show wpAny _ X.A.in1 (Builtin.Builtins.bindParams "max" ["key", "default"] 0 ⟨[], [(Str.ofString "key", .ref q), (Str.ofString "default", .none)]⟩ >>= _) _ _ s
  refine wpAny_bind (wpAny_of_eq (show Builtin.Builtins.bindParams "max" ["key", "default"] 0 ⟨[], [(Str.ofString "key", .ref q), (Str.ofString "default", .none)]⟩ = pure [some (.ref q), some .none] from rfl) ?_)
  refine wpAny_bind (wpAny_pure ?_)
  refine wpAny_bind (wpAny_pyIter_list hls.isList ?_)
  refine wpAny_bind (wpAny_newList ?_ (Nat.zero_le _))
  rw [hname]
  refine wpAny_pure ⟨plainId_quiet PySem.F.plain_max_loop _, ?_⟩
  have hS : (s.heap.push { cls := .type "list_iterator", data := .fields #[.ref l, .int 0 0] }).objs.size = s.heap.objs.size + 1 := size_push' ..
  have I1 : Inv X pins σ H { s with heap := s.heap.push { cls := .type "list_iterator", data := .fields #[.ref l, .int 0 0] } } :=
    I.kept (t' := s.toks) fun b o e => Heap.get?_push_of_some _ e
  have I2 : Inv X pins σ H { s with heap := (s.heap.push { cls := .type "list_iterator", data := .fields #[.ref l, .int 0 0] }).push (seqObj "list" #[] 0) } :=
    I1.kept (t' := s.toks) fun b o e => Heap.get?_push_of_some _ e
  have gI : ((s.heap.push { cls := .type "list_iterator", data := .fields #[.ref l, .int 0 0] }).push (seqObj "list" #[] 0)).get? s.heap.objs.size =
      some { cls := .type "list_iterator", data := .fields #[.ref l, .int 0 0] } := Heap.get?_push_of_some _ (Heap.get?_push_size _ rfl)
  have gS : ((s.heap.push { cls := .type "list_iterator", data := .fields #[.ref l, .int 0 0] }).push (seqObj "list" #[] 0)).get?
      (s.heap.push { cls := .type "list_iterator", data := .fields #[.ref l, .int 0 0] }).objs.size = some (seqObj "list" #[] 0) := Heap.get?_push_size _ rfl
  refine max_loop F0 hb hr hG (I.ok.hd hc) hw hl (Apart.new I (Nat.le_refl _)) (Apart.new I (by rw [hS]; exact Nat.le_succ _)) (by rw [hS]; exact Nat.ne_of_lt (Nat.lt_succ_self _))
    (fun u s' J ru => ?_) _ 0 _ [] 0 rfl (Nat.zero_le _) I2 ⟨_, gI, rfl, rfl⟩ gS rfl
  exact ⟨bestV ps, H, J, ru, hQ⟩
end Rm

set_option maxRecDepth 100000
set_option maxHeartbeats 4000000
namespace Rm
open PySem PySem.Spec L2
open PyProof.Rows hiding St

/-! ### xs[::-1] -/
def tRevL (K : PySem.W.Frag) (te ts : TE) : TE := fun σ H Q => te σ H fun x H1 => ts σ H1 fun y H2 => y = .int (-1) ∧ ∃ a xs, x = .ref a ∧ SqL K H2 a xs ∧
  ∀ p, H2 p = none → Q (.ref p) (upd H2 p (.lst xs.reverse))
theorem pe_rev {X : Cx} {e st : Expr} {te ts : TE} {p2 pos : Pos} (he : PE X e te) (hst : PE X st ts) :
    PE X (.Subscript e (.Slice none none (some st) p2) pos) (tRevL X.K te ts) := by
  refine ⟨fun pins s σ H Q I h => ?_⟩
  refine Subscript_ (thn (he.run pins s σ H _ I h) fun v s1 hh => ?_)
  obtain ⟨x, H1, I1, r1, q1⟩ := hh
  refine wpAny_Slice ?_
  rw [evalPart_none]
  refine wpAny_pure (wpAny_pure ?_)
  rw [evalPart_some]
  refine thn (hst.run pins s1 σ H1 _ I1 q1) fun vs s3 hh => ?_
  obtain ⟨y, H3, I3, ry, ey, a, xs, ex, hl, q⟩ := hh
  subst ey
  subst ex
  cases r1
  obtain ⟨t, rfl⟩ := ry
  have I4 : Inv X pins σ H3 { s3 with heap := s3.heap.push { cls := .type "slice", data := .fields #[.none, .none, .int (-1) t] } } :=
    I3.kept (t' := s3.toks) fun b ob q => Heap.get?_push_of_some _ q
  obtain ⟨its, r, ht, hz⟩ := I4.list hl
  have hlen := r.length
  show wpAny (model X.prog X.w) X.A (subscriptTail e (.Slice none none (some st) p2) (.ref a) (.ref s3.heap.objs.size)) (EP X pins σ Q) X.xe { s3 with heap := s3.heap.push { cls := .type "slice", data := .fields #[.none, .none, .int (-1) t] } }
  refine tail_any (ops := [.ref a, .ref s3.heap.objs.size]) ht.isList.typeIs slot_list_getitem.lookup ?_ rfl
  refine wpAny_getItem_list_slice ht.isList (Heap.IsSliceOf.new ..) .none .none (.int (-1) t) (by decide) ?_ (by rw [List.size_toArray] <;> omega)
  rw [PySem.W.krv_pick]
  refine ⟨.ref _, _, I4.laid (t' := s3.toks) (o := .lst xs.reverse) (fun b ob q => Heap.get?_push_of_some _ q) (Nat.le_refl _) ?_, rfl, q _ (I4.hok.fresh (Nat.le_refl _))⟩
  exact ⟨by rw [List.length_reverse]; omega, _, 0, r.reverse, Heap.get?_push_size _ rfl⟩

/-! ### walks -/
theorem for_enum {K : PySem.W.Frag} {a : Addr} {xs : List V} {g : TG} {tb : TS} {D : Ends} {σ : L2.St} {H : Hp} (Pv : Nat → L2.St → Hp → Prop)
    (h0 : Pv 0 σ H) (hl : ∀ i σ H, i ≤ xs.length → Pv i σ H → SqL K H a xs)
    (hs : ∀ i x T σ H, xs[i]? = some x → Pv i σ H → H T = none → g (.ref T) σ (upd H T (.tup [.int (i : Nat), x])) fun σ2 H2 => tb { D with nx := Pv (i + 1), ct := Pv (i + 1), bk := D.nx } σ2 H2)
    (hd : ∀ σ H, Pv xs.length σ H → D.nx σ H) :
    ∃ W : Nat → Nat → L2.St → Hp → Prop, (∃ m, W 0 m σ H) ∧ ∀ i m σ H, W i m σ H →
      ((Ite K a).stop i H ∧ D.nx σ H) ∨ ((Ite K a).go i H ∧ ∃ N : L2.St → Hp → Prop, (∀ σ' H', N σ' H' → ∃ m', m' < m ∧ W (i + 1) m' σ' H') ∧
        ∀ x H', (Ite K a).yld i H x H' → g x σ H' fun σ2 H2 => tb { D with nx := N, ct := N, bk := D.nx } σ2 H2) := by
  refine ⟨fun i m σ H => m = xs.length - i ∧ i ≤ xs.length ∧ Pv i σ H, ⟨xs.length, by simp, Nat.zero_le _, h0⟩, ?_⟩
  rintro i m σ H ⟨rfl, hi, p⟩
  have q := hl i σ H hi p
  by_cases hlt : i < xs.length
  · refine .inr ⟨⟨xs, xs[i], q, List.getElem?_eq_getElem hlt⟩, Pv (i + 1), fun σ' H' p' => ⟨xs.length - (i + 1), by omega, rfl, hlt, p'⟩, fun v H' y => ?_⟩
    obtain ⟨T, x, rfl, nT, rfl, e⟩ := y
    exact hs i x T σ _ (e xs q) p nT
  · have e : i = xs.length := by omega
    subst e
    exact .inl ⟨⟨xs, q, Nat.le_refl _⟩, hd σ H p⟩
theorem lc_range {lo : Int} {n : Nat} {g : TG} {tt : TT} {te : TE} {vs : List Nat} {σ : L2.St} {H1 : Hp} {D : Addr} {Qd : Hp → Prop} (Pv : Nat → Hp → Prop)
    (h0 : Pv 0 (upd H1 D (.lst [])))
    (hs : ∀ i H, i < n → Pv i H → g (.int (lo + (i : Nat))) (wipe σ vs) H fun σ2 H2 => wipe σ2 vs = wipe σ vs ∧ tt σ2 H2 fun b H3 =>
      if b = true then te σ2 H3 fun y H4 => ∃ acc, H4 D = some (.lst acc) ∧ acc.length < sizeLine ∧ Pv (i + 1) (upd H4 D (.lst (acc ++ [y]))) else Pv (i + 1) H3)
    (hd : ∀ H, Pv n H → Qd H) :
    ∃ W : Nat → Nat → Hp → Prop, (∃ m, W 0 m (upd H1 D (.lst []))) ∧ ∀ i m H, W i m H →
      ((Itr lo n).stop i H ∧ Qd H) ∨ ((Itr lo n).go i H ∧ ∃ Nx : Hp → Prop, (∀ H', Nx H' → ∃ m', m' < m ∧ W (i + 1) m' H') ∧ ∀ x H', (Itr lo n).yld i H x H' →
        g x (wipe σ vs) H' fun σ2 H2 => wipe σ2 vs = wipe σ vs ∧ tt σ2 H2 fun b H3 =>
          if b = true then te σ2 H3 fun y H4 => ∃ acc, H4 D = some (.lst acc) ∧ acc.length < sizeLine ∧ Nx (upd H4 D (.lst (acc ++ [y]))) else Nx H3) := by
  refine ⟨fun i m H => m = n - i ∧ i ≤ n ∧ Pv i H, ⟨n, by simp, Nat.zero_le _, h0⟩, ?_⟩
  rintro i m H ⟨rfl, hi, p⟩
  by_cases hlt : i < n
  · refine .inr ⟨hlt, Pv (i + 1), fun H' p' => ⟨n - (i + 1), by omega, rfl, hlt, p'⟩, fun x H' y => ?_⟩
    obtain ⟨e, y⟩ := y
    subst e y
    exact hs i _ hlt p
  · have e : i = n := by omega
    subst e
    exact .inl ⟨Nat.le_refl _, hd H p⟩

/-! ### what the modes' comparing defs keep -/
/-- two modes, their ranks -/
def spTwo (C : Addr) (r : Addr → Int → Addr → Int → V) : Sp := fun vs H Q _ => ∃ a dx z i b dy z' j, vs = [.ref a, .ref b] ∧ H a = some (mdO C dx z) ∧ H b = some (mdO C dy z') ∧
  rkS z = some i ∧ rkS z' = some j ∧ Q (r a i b j) H
def spWk (C : Addr) : Sp := spTwo C fun _ i _ j => .bl (decide (i < j))
def spCl (C : Addr) : Sp := spTwo C fun _ i _ j => .bl (decide (i + j ≥ 5))
def spOr (C : Addr) : Sp := spTwo C fun a i b j => if i < j then .ref b else .ref a
def spStr (K : PySem.W.Frag) : Sp := fun vs H Q _ => ∃ l ws, vs = [.ref l] ∧ SqL K H l (ws.map fun p : Str × Int => V.str p.1) ∧ (∀ p ∈ ws, rkS p.1 = some p.2) ∧ Q (bestV ws) H
/-- the grades are right -/
def spGr (K : PySem.W.Frag) : Sp := fun vs H Q _ => ∃ g, vs = [.ref g] ∧ SqL K H g rkV ∧ ∀ H', Same H H' → Q (.bl true) H'
theorem rk_at {i : Nat} {x : V} (h : rkV[i]? = some x) : ∃ z, x = .str z ∧ rkS z = some ((i : Int) + 1) ∧ i < 4 := by
  match i, h with
  | 0, h => cases h; exact ⟨_, rfl, rfl, by decide⟩
  | 1, h => cases h; exact ⟨_, rfl, rfl, by decide⟩
  | 2, h => cases h; exact ⟨_, rfl, rfl, by decide⟩
  | 3, h => cases h; exact ⟨_, rfl, rfl, by decide⟩
  | n + 4, h => cases h
theorem sm3 (a b c : Bool) : Sm (.list [.bool a, .bool b, .bool c]) := by
  cases a <;> cases b <;> cases c <;> exact Sm.of (by decide +kernel)
theorem eqv2 (a b : Bool) : SeqAt.shaped (.list [.bool a, .bool b]) = true ∧ PyData.eqv (.list [.bool a, .bool b]) (.list [.bool a, .bool b]) = true := by
  cases a <;> cases b <;> exact ⟨by decide +kernel, by decide +kernel⟩
theorem kit_self {K : PySem.W.Frag} {C : Addr} : PySem.W.kitOne K (.ref C) (.ref C) = some true := by
  unfold PySem.W.kitOne
  rw [if_pos (by simp)]
theorem rk_ge {i : Nat} {z : Str} {H : Hp} {n : Int} (h : rkV[i]? = some (.str z)) (e : n = i) : atI rkV n = some (V.str z) := by
  subst e
  exact atI_nat h
theorem cut2 (a b c : V) : cutV [a, b, c] none (some 2) = [a, b] := by
  unfold cutV
  rfl
/-! ### modes made and joined -/
/-- the reading gives a mode of the word z, rank n -/
def MdR (C : Addr) (t : TE) (σ : L2.St) (z : Str) (n : Int) : Prop :=
  rkS z = some n ∧ ∀ (H : Hp) (Q : VK), (∀ a dx H', Same H H' → H' a = some (mdO C dx z) → Q (.ref a) H') → t σ H Q
theorem md_make {K : PySem.W.Frag} {C : Addr} {σ : L2.St} {z : Str} {n : Int} {i : Nat} (hi : σ[i]? = some (some (.str z))) (hz : rkS z = some n) :
    MdR C (tMake C (spModeQ K C) [] E0 (tCons (tVar i) tNil)) σ z n := by
  refine ⟨hz, fun H Q h => ⟨_, hi, fun x dx nx nd ne => ⟨x, dx, z, n, rfl, upd_same, hz, rfl, ?_⟩⟩⟩
  rw [upd_upd]
  exact h x dx _ (same_two nd nx ne) upd_same
theorem md_or {C : Addr} {tA tB : TE} {σ : L2.St} {z z' : Str} {n n' : Int} (A : MdR C tA σ z n) (B : MdR C tB σ z' n') :
    MdR C (tOp (rOwnOr C (spOr C)) tA tB) σ (if n < n' then z' else z) (if n < n' then n' else n) := by
  obtain ⟨hz, hA⟩ := A
  obtain ⟨hz', hB⟩ := B
  refine ⟨by split <;> assumption, fun H Q h => hA H _ fun a dx H1 s1 ha => hB H1 _ fun b dy H2 s2 hb => ?_⟩
  refine ⟨a, dx, _, b, dy, _, rfl, s2 _ _ ha, rfl, hb, a, dx, z, n, b, dy, z', n', rfl, s2 _ _ ha, hb, hz, hz', ?_⟩
  dsimp only
  by_cases e : n < n'
  · simp only [e, if_true] at h ⊢
    exact ⟨⟨b, rfl⟩, h b dy H2 (s1.trans s2) hb⟩
  · simp only [e, if_false] at h ⊢
    exact ⟨⟨a, rfl⟩, h a dx H2 (s1.trans s2) (s2 _ _ ha)⟩
theorem asg_md {C : Addr} {te : TE} {B : TS} {D : Ends} {σ : L2.St} {H : Hp} {i : Nat} {z : Str} {n : Int} (M : MdR C te σ z n)
    (h : ∀ a dx H', Same H H' → H' a = some (mdO C dx z) → B D (σ.set i (some (.ref a))) H') : tSeq (tAsg te (gName i)) B D σ H :=
  M.2 H _ fun a dx H' s e => h a dx H' s e
theorem rk_inj {z z' : Str} {n : Int} (h : rkS z = some n) (h' : rkS z' = some n) : z = z' := by
  rcases rk_word (d := .str z) h with q | q | q | q <;> rcases rk_word (d := .str z') h' with q' | q' | q' | q' <;> (cases q; cases q') <;> rfl
theorem rk_ix {z : Str} {m : Int} (h : rkS z = some (m + 1)) : atI rkV m = some (V.str z) := by
  rcases rk_word (d := .str z) h with q | q | q | q
  all_goals (obtain ⟨q1, q2⟩ := Prod.mk.inj q; cases q1)
  · have e : m = (0 : Nat) := by omega
    subst e; exact atI_nat (xs := rkV) (j := 0) rfl
  · have e : m = (1 : Nat) := by omega
    subst e; exact atI_nat (xs := rkV) (j := 1) rfl
  · have e : m = (2 : Nat) := by omega
    subst e; exact atI_nat (xs := rkV) (j := 2) rfl
  · have e : m = (3 : Nat) := by omega
    subst e; exact atI_nat (xs := rkV) (j := 3) rfl
end Rm

set_option maxRecDepth 100000
set_option maxHeartbeats 4000000
namespace Rm
open PySem PySem.Spec L2
open PyProof.Rows hiding St

/-! ### the strongest of drawn words -/
theorem fold_none : ∀ (ws : List (Str × Int)) (b : Option (Str × Int)), ws.foldl better b = none → b = none ∧ ws = []
  | [], b, h => ⟨h, rfl⟩
  | x :: r, b, h => by
    have h2 := (fold_none r (better b x) h).1
    cases b with
    | none => cases h2
    | some q =>
      simp only [better] at h2
      split at h2 <;> cases h2
theorem fold_some : ∀ (ws : List (Str × Int)) (b : Option (Str × Int)) (p : Str × Int), ws.foldl better b = some p →
    (p ∈ ws ∨ b = some p) ∧ (∀ q ∈ ws, q.2 ≤ p.2) ∧ ∀ q, b = some q → q.2 ≤ p.2
  | [], b, p, h => by
    have h : b = some p := h
    refine ⟨.inr h, fun _ z => (by cases z), fun q e => ?_⟩
    rw [e] at h
    cases h
    exact Int.le_refl _
  | x :: r, b, p, h => by
    obtain ⟨h1, h2, h3⟩ := fold_some r (better b x) p h
    cases b with
    | none =>
      have hx := h3 x rfl
      refine ⟨.inl ?_, fun q hq => ?_, fun q e => (by cases e)⟩
      · rcases h1 with h1 | h1
        · exact List.mem_cons_of_mem _ h1
        · cases h1; exact List.mem_cons_self ..
      · rcases List.mem_cons.mp hq with e | hq
        · rw [e]; exact hx
        · exact h2 q hq
    | some y =>
      simp only [better] at h1 h3
      by_cases c : x.2 > y.2
      · rw [if_pos c] at h1 h3
        have hx := h3 x rfl
        refine ⟨.inl ?_, fun q hq => ?_, fun q e => ?_⟩
        · rcases h1 with h1 | h1
          · exact List.mem_cons_of_mem _ h1
          · cases h1; exact List.mem_cons_self ..
        · rcases List.mem_cons.mp hq with e | hq
          · rw [e]; exact hx
          · exact h2 q hq
        · cases e; omega
      · rw [if_neg c] at h1 h3
        have hy := h3 y rfl
        refine ⟨?_, fun q hq => ?_, fun q e => ?_⟩
        · rcases h1 with h1 | h1
          · exact .inl (List.mem_cons_of_mem _ h1)
          · exact .inr h1
        · rcases List.mem_cons.mp hq with e | hq
          · rw [e]; omega
          · exact h2 q hq
        · cases e; exact hy
theorem best_cases (ws : List (Str × Int)) : (ws = [] ∧ bestV ws = .non) ∨ ∃ p ∈ ws, bestL ws = some p ∧ bestV ws = .str p.1 ∧ ∀ q ∈ ws, q.2 ≤ p.2 := by
  cases h : bestL ws with
  | none => exact .inl ⟨(fold_none ws none h).2, by unfold bestV; rw [h]⟩
  | some p =>
    obtain ⟨h1, h2, _⟩ := fold_some ws none p h
    rcases h1 with h1 | h1
    · exact .inr ⟨p, h1, rfl, by unfold bestV; rw [h], h2⟩
    · cases h1
theorem best_rev {ws : List (Str × Int)} (hw : ∀ p ∈ ws, rkS p.1 = some p.2) : bestV ws.reverse = bestV ws := by
  rcases best_cases ws with ⟨e, h⟩ | ⟨p, hp, _, h, hm⟩
  · subst e; rfl
  · rcases best_cases ws.reverse with ⟨e, h'⟩ | ⟨p', hp', _, h', hm'⟩
    · have := List.reverse_eq_nil_iff.mp e
      subst this
      cases hp
    · rw [h, h']
      have a := hm p' (List.mem_reverse.mp hp')
      have b := hm' p (List.mem_reverse.mpr hp)
      have r1 := hw p hp
      have r2 := hw p' (List.mem_reverse.mp hp')
      have e : p.2 = p'.2 := by omega
      rw [e] at r1
      rw [rk_inj r1 r2]
def strV (ws : List (Str × Int)) : List V := ws.map fun p => V.str p.1
theorem in_yes {ws : List (Str × Int)} {p : Str × Int} (h : p ∈ ws) : inV (.str p.1) (strV ws) = true := by
  unfold inV strV
  rw [List.any_eq_true]
  exact ⟨.str p.1, List.mem_map.mpr ⟨p, h, rfl⟩, by simp [eqV]⟩
theorem in_no {ws : List (Str × Int)} {z : Str} (h : ∀ q ∈ ws, q.1 ≠ z) : inV (.str z) (strV ws) = false := by
  unfold inV strV
  rw [List.any_eq_false]
  intro v hv
  obtain ⟨q, hq, rfl⟩ := List.mem_map.mp hv
  simp [eqV]
  exact h q hq
def dueStep (xs : List V) (d g : V) : V := if inV g xs = true then g else d
def dueOf (gs xs : List V) : V := gs.foldl (dueStep xs) .non
theorem due_next {xs : List V} {i : Nat} {x : V} (e : rkV[i]? = some x) : dueOf (rkV.take (i + 1)) xs = dueStep xs (dueOf (rkV.take i) xs) x := by
  unfold dueOf
  rw [List.take_succ, e, List.foldl_append]
  rfl
theorem due_best {ws : List (Str × Int)} (hw : ∀ p ∈ ws, rkS p.1 = some p.2) : dueOf rkV (strV ws) = bestV ws := by
  show dueStep (strV ws) (dueStep (strV ws) (dueStep (strV ws) (dueStep (strV ws) .non (.str "hold")) (.str "keep")) (.str "change")) (.str "replace") = _
  rcases best_cases ws with ⟨e, h⟩ | ⟨p, hp, _, h, hm⟩
  · subst e; rw [h]; rfl
  · rw [h]
    have hi := in_yes hp
    have no : ∀ {z : Str} {n : Int}, rkS z = some n → p.2 < n → inV (.str z) (strV ws) = false := fun {z n} hz hn => in_no fun q hq e => by
      have r := hw q hq
      rw [e, hz] at r
      have := hm q hq
      cases r
      omega
    obtain ⟨w, n⟩ := p
    rcases rk_word (d := .str w) (hw _ hp) with e | e | e | e <;> cases e
    · unfold dueStep
      rw [no (z := "replace") (n := 4) rfl (by show (1 : Int) < 4; decide), no (z := "change") (n := 3) rfl (by show (1 : Int) < 3; decide), no (z := "keep") (n := 2) rfl (by show (1 : Int) < 2; decide)]
      rw [show inV (.str "hold") (strV ws) = true from hi]
      rfl
    · unfold dueStep
      rw [no (z := "replace") (n := 4) rfl (by show (2 : Int) < 4; decide), no (z := "change") (n := 3) rfl (by show (2 : Int) < 3; decide)]
      rw [show inV (.str "keep") (strV ws) = true from hi]
      rfl
    · unfold dueStep
      rw [no (z := "replace") (n := 4) rfl (by show (3 : Int) < 4; decide)]
      rw [show inV (.str "change") (strV ws) = true from hi]
      rfl
    · unfold dueStep
      rw [show inV (.str "replace") (strV ws) = true from hi]
      rfl
def bestD (ws : List (Str × Int)) : PyData := match bestL ws with
  | none => .none
  | some p => .str p.1
theorem best_dx {K : PySem.W.Frag} {H : Hp} (ws : List (Str × Int)) : Dx K H (bestV ws) (bestD ws) := by
  unfold bestV bestD
  cases bestL ws with
  | none => exact .non
  | some p => exact .str _
theorem best_sm {ws : List (Str × Int)} (hw : ∀ p ∈ ws, rkS p.1 = some p.2) : Sm (bestD ws) := by
  rcases best_cases ws with ⟨e, h⟩ | ⟨p, hp, h, _, _⟩
  · subst e; exact Sm.of (by decide +kernel)
  · unfold bestD
    rw [h]
    rcases rk_word (d := .str p.1) (hw _ hp) with e | e | e | e <;> (obtain ⟨e1, _⟩ := Prod.mk.inj e; show Sm (.str p.1); rw [e1]; exact Sm.of (by decide +kernel))
def strD (ws : List (Str × Int)) : PyData := .list (ws.map fun p => .str p.1)
theorem str_all {K : PySem.W.Frag} {H : Hp} : ∀ ws : List (Str × Int), DpAll K H (strV ws) (ws.map fun p => .str p.1)
  | [] => .nil
  | p :: r => .cons (.str _) (str_all r)
theorem str_lay : ∀ {ws : List (Str × Int)}, (∀ p ∈ ws, rkS p.1 = some p.2) → PyData.canLayAll0 (ws.map fun p => PyData.str p.1) = true ∧ PyData.depthAll (ws.map fun p => PyData.str p.1) = 0
  | [], _ => ⟨by simp [PyData.canLayAll0], by simp [PyData.depthAll]⟩
  | p :: r, h => by
    obtain ⟨h1, h2⟩ := str_lay (ws := r) fun q hq => h q (List.mem_cons_of_mem _ hq)
    have hp : PyData.canLay0 (.str p.1) = true := by
      rcases rk_word (d := .str p.1) (h p (List.mem_cons_self ..)) with e | e | e | e <;> (obtain ⟨e1, _⟩ := Prod.mk.inj e; rw [e1]; decide +kernel)
    refine ⟨?_, ?_⟩
    · simp only [List.map_cons, PyData.canLayAll0, hp, h1, Bool.true_and]
    · simp only [List.map_cons, PyData.depthAll, PyData.depth, h2, Nat.max_self]
theorem str_shaped {ws : List (Str × Int)} (h : ∀ p ∈ ws, rkS p.1 = some p.2) : SeqAt.shaped (strD ws) = true := by
  obtain ⟨h1, h2⟩ := str_lay h
  unfold SeqAt.shaped strD
  simp only [PyData.canLay0, PyData.depth, h1, h2]
  decide
theorem pool_at {k : Int} (h0 : 0 ≤ k) (h1 : k < 4) : 1 ≤ (cutV rkV none (some (1 + k))).length ∧ (cutV rkV none (some (1 + k))).length ≤ 4 ∧
    ∀ (i : Nat) (v : V), (cutV rkV none (some (1 + k)))[i]? = some v → ∃ z n, v = V.str z ∧ rkS z = some n := by
  refine ⟨?_, Nat.le_trans (cutV_length _ _ _) (by decide), fun i v h => ?_⟩
  · have : k = 0 ∨ k = 1 ∨ k = 2 ∨ k = 3 := by omega
    rcases this with e | e | e | e <;> (subst e; decide +kernel)
  · have m := List.mem_of_getElem? h
    unfold cutV at m
    have m2 := List.mem_of_mem_drop (List.mem_of_mem_take m)
    obtain ⟨j, hj, e⟩ := List.getElem_of_mem m2
    exact rk_str (i := j) (by rw [← e]; exact List.getElem?_eq_getElem hj)
end Rm

set_option maxRecDepth 100000
set_option maxHeartbeats 4000000
namespace Rm
open PySem PySem.Spec L2
open PyProof.Rows hiding St

/-! ### an own error made by one keyword -/
section
variable {P : Program} {w : World} {A : Around} {EX : Value → Shared → Prop} {hp : Heap} {gs : Array GenState} {dr : Drawn} {tk : Nat} {os : OsState}
variable {nm qn : Str} {C NS f : Addr} {bs bm : List Value} {sn : List Str} {sub : List Value} {ab : Bool} {col : Option Bool} {dd : Option Addr}
variable {j0 j1 j2 j3 j5 : Option Value} {y : Str} {u : Value}
/-- the class's own object -/
def ErO (C : Addr) (hp : Heap) (bm : List Value) : Prop :=
  ∃ nm qn NS bs sn sub ab col dd j0 j1 j2 j3 j5,
    hp.get? C = some (excClassObj nm qn C NS bs bm true sn sub ab col dd j0 j1 j2 j3 j5 "ValueError.__new__") ∧ PySem.HandSPX.refsVE bm = true
theorem kw_check {Q : Unit → Shared → Prop} (hC : hp.get? C = some (excClassObj nm qn C NS bs bm true sn sub ab col dd j0 j1 j2 j3 j5 "ValueError.__new__"))
    (hbm : PySem.HandSPX.refsVE bm = true) (z : Q () ⟨hp, gs, dr, tk, os⟩) :
    wpAny (model P w) A (checkBuiltinCall "ValueError.__new__" ⟨[.ref C], [(y, u)]⟩) Q EX ⟨hp, gs, dr, tk, os⟩ := by
  have c1 : (Value.ref C :: bm).contains (.type "ValueError") = true := by
    rw [List.contains_cons, PySem.HandSPX.refsVE_contains "ValueError" bm hbm, F.excBase_ValueError.hasB, Bool.or_true]
  have st := F.excBase_ValueError.noStar
  simp only [checkBuiltinCall, F.excBase_ValueError.newKind, F.excBase_ValueError.newSplit, F.excBase_ValueError.newRow]
  repeat (first
    | refine wpAny_loadPart_at hC ?_
    | (refine wpAny_isSubtype_exc hC ?_; rw [c1])
    | refine wpAny_staticBase_exc hC ?_
    | refine wpAny_madeBy_exc hC ?_
    | simp only [bne_self_eq_false, Bool.false_eq_true, if_false]
    | wp_step)
  exact z
theorem kw_new {R : Result → Shared → Prop} (hC : hp.get? C = some (excClassObj nm qn C NS bs bm true sn sub ab col dd j0 j1 j2 j3 j5 "ValueError.__new__"))
    (hbm : PySem.HandSPX.refsVE bm = true)
    (z : R (.ok (.ret (.ref (hp.objs.size + 1)))) ⟨(hp.push (PySem.W.kdv_tup [])).push (PySem.HandSPX.excO C hp.objs.size), gs, dr, tk, os⟩) :
    codeAny (model P w) A (.builtin "ValueError.__new__" ⟨[.ref C], [(y, u)]⟩) R ⟨hp, gs, dr, tk, os⟩ := by
  have has : ∀ (X : String) (b : Bool), PySem.HandSPX.veTail.contains (.type X) = b → (Value.ref C :: bm).contains (.type X) = b := fun X b e => by
    rw [List.contains_cons, PySem.HandSPX.refsVE_contains X bm hbm, e]
    rfl
  have c1 := has "ValueError" true F.excBase_ValueError.hasB
  have c2 := has "AttributeError" false F.excBase_ValueError.noAttr
  have c3 := has "NameError" false F.excBase_ValueError.noName
  have en := F.excBase_ValueError.ends
  refine codeAny_builtinAt F.excBase_ValueError.entry ?_
  unfold Builtin.«BaseException.__new__»
  refine PySem.wpAt_bind ?_
  show PySem.wpAt _ _ _ (stack >>= _) _ _ _
  refine PySem.wpAt_bind (PySem.wpAt_stack fun p below => PySem.wpAt_of_wpAny ?_)
  wp_walk
  refine PySem.wpAt_of_wpAny ?_
  rw [F.excBase_ValueError.owner]
  repeat (first
    | with_reducible refine wpAny_madeHere_exc F.excBase_ValueError.canon hC ?_
    | with_reducible refine wpAny_loadPart_at hC ?_
    | (with_reducible refine wpAny_isSubtype_exc hC ?_; first | rw [c1] | rw [c2] | rw [c3])
    | wp_step)
  show R _ _
  rw [Heap.size_push]
  exact z
theorem kw_type {Q : Fin → Shared → Prop} (hC : hp.get? C = some (excClassObj nm qn C NS bs bm true sn sub ab col dd j0 j1 j2 j3 j5 "ValueError.__new__"))
    (hbm : PySem.HandSPX.refsVE bm = true)
    (hi : PySem.W.Looks (model P w) hp (typeLookup (.ref C) "__init__") (some (.ref f))) (hb : ∀ self, PySem.W.Looks (model P w) hp (bindSpecial (.ref f) self) (.ref f, [self]))
    (z : codeAny (model P w) A (.call (.ref f) ⟨[.ref (hp.objs.size + 1)], [(y, u)]⟩)
      (fun r s' => match r with
        | .ok (.ret v) => v = .none ∧ Q (.done (.ret (.ref (hp.objs.size + 1)))) s'
        | .ok _ => False
        | .error e => EX e s')
      ⟨(hp.push (PySem.W.kdv_tup [])).push (PySem.HandSPX.excO C hp.objs.size), gs, dr, tk, os⟩) :
    wpAny (model P w) A (Builtin.«type.__call__» ⟨[.ref C], [(y, u)]⟩) Q EX ⟨hp, gs, dr, tk, os⟩ := by
  repeat (first
    | with_reducible refine wpAny_loadPart_at hC ?_
    | with_reducible refine wpAny_madeBy_exc hC ?_
    | wp_step)
  refine codeAny_call_builtin_code (Code.quiet_builtin _ F.excBase_ValueError.quiet) (kw_check hC hbm ?_)
  refine kw_new hC hbm ?_
  show wpAny _ _ _ _ _ _
  have up : ∀ b o, hp.get? b = some o → ((hp.push (PySem.W.kdv_tup [])).push (PySem.HandSPX.excO C hp.objs.size)).get? b = some o :=
    fun b o e => Heap.get?_push_of_some _ (Heap.get?_push_of_some _ e)
  have hC1 := up _ _ hC
  have hE : ((hp.push (PySem.W.kdv_tup [])).push (PySem.HandSPX.excO C hp.objs.size)).get? (hp.objs.size + 1) = some (PySem.HandSPX.excO C hp.objs.size) := by
    heap_get
  have cC : (Value.ref C :: bm).contains (.ref C) = true := by simp
  unfold isInstance
  repeat (first
    | with_reducible refine wpAny_loadPart_at hE ?_
    | (with_reducible refine wpAny_isSubtype_exc hC1 ?_; rw [cC])
    | wp_step)
  show wpAny _ _ (typeLookup (.ref C) _) _ _ _
  refine (hi.keeps up).at ?_
  refine wpAny_holding (wpAny_bind (((hb (.ref (hp.objs.size + 1))).keeps up).at ?_))
  refine wpAny_bind (wpAny_call (codeAny_mono z fun r s' q => ?_))
  match r, q with
  | .error e, q => exact q
  | .ok .next, q => exact q.elim
  | .ok .brk, q => exact q.elim
  | .ok .cont, q => exact q.elim
  | .ok (.ret v), ⟨e, q⟩ =>
    subst e
    first
      | exact wpAny_pure (wpAny_pure q)
      | (wp_walk; exact q)
theorem kw_call {R : Result → Shared → Prop} (hC : hp.get? C = some (excClassObj nm qn C NS bs bm true sn sub ab col dd j0 j1 j2 j3 j5 "ValueError.__new__"))
    (hbm : PySem.HandSPX.refsVE bm = true)
    (hi : PySem.W.Looks (model P w) hp (typeLookup (.ref C) "__init__") (some (.ref f))) (hb : ∀ self, PySem.W.Looks (model P w) hp (bindSpecial (.ref f) self) (.ref f, [self]))
    (z : codeAny (model P w) (A.under (.builtin "type.__call__" ⟨[.ref C], [(y, u)]⟩)) (.call (.ref f) ⟨[.ref (hp.objs.size + 1)], [(y, u)]⟩) (PySem.W.InitBack (hp.objs.size + 1) R)
      ⟨(hp.push (PySem.W.kdv_tup [])).push (PySem.HandSPX.excO C hp.objs.size), gs, dr, tk, os⟩) :
    codeAny (model P w) A (.call (.ref C) ⟨[], [(y, u)]⟩) R ⟨hp, gs, dr, tk, os⟩ := by
  have l1 := tc_lookup
  have l2 := tc_bind (.ref C)
  have ty : (⟨hp, gs, dr, tk, os⟩ : Shared).TypeIs (.ref C) "type" := ⟨_, hC, rfl⟩
  refine codeAny_of_tree ?_
  show wpAny _ _ (callAny (.ref C) _) _ _ _
  repeat (any_goals (first
    | assumption
    | with_reducible refine wpAny_loadPart_at hC ?_
    | wp_step))
  refine ⟨rfl, ?_⟩
  refine codeAny_call_builtin_at (Code.quiet_builtin _ (by decide +kernel)) entry_typeCall (wpAny_check_type_call_sub hC (kw_type hC hbm hi hb ?_))
  refine codeAny_mono z fun r s' q => ?_
  rcases r with e | (v | _ | _ | _) <;> exact q
end
/-- the module's name x is an error class whose __init__ may be called by one keyword -/
def ErK (P : Program) (w : World) (K : PySem.W.Frag) (mg : Str → Option Value) (base : Heap) (x : Str) (C : Addr) (y : Str) : Prop :=
  ∃ f fd, mg x = some (.ref C) ∧ OexC K C ∧ PySem.W.findIn K (.ref C) "__init__" = some (some (.ref f)) ∧
    PySem.W.typeIn K (.ref f) = some (.type "function") ∧ PySem.W.keepIn K (.ref C) = true ∧
    Kw1 fd [("self" : Str), y] 1 y ∧ FnG P w K mg base CX0 2 f fd [("self" : Str), y] (spErr K C y)
section
variable {X : Cx} {C : Addr} {y : Str}
theorem bornK {x : Str} {pins : List (Addr × Obj)} {σ : L2.St} {H : Hp} {s : Shared} {v : V} {u : Value} {E : Value → Shared → Prop}
    (D : ErK X.prog X.w X.K X.mg X.base x C y) (hr : Room 3 X.A) (hG : Gd X.A) (I : Inv X pins σ H s) (r : RelV v u) :
    wpAny (model X.prog X.w) X.A (call (.ref C) [] [(y, u)]) (Born X pins σ H s C y v) E s := by
  obtain ⟨f, fd, hm, T, iC, tI, kC, hb, F0⟩ := D
  obtain ⟨nm, q, N, bs, bm, sn, sub, ab, col, dd, k0, k1, k2, k3, k5, lC, hbm⟩ := T.cls
  obtain ⟨hp, g, dr, tk, os⟩ := s
  have one : hp.objs.size ≤ hp.objs.size + 1 := Nat.le_succ _
  have hn : H (hp.objs.size + 1) = none := I.hok.fresh one
  let hp2 := (hp.push (PySem.W.kdv_tup [])).push (PySem.HandSPX.excO C hp.objs.size)
  have kk : ∀ b o, hp.get? b = some o → hp2.get? b = some o := fun b o e =>
    Heap.get?_push_of_some _ (Heap.get?_push_of_some _ e)
  have hget : hp2.get? (hp.objs.size + 1) = some (PySem.HandSPX.excO C hp.objs.size) := by
    show ((hp.push _).push _).get? _ = _
    heap_get
  have I2 := I.laid (t' := tk) (a := hp.objs.size + 1) (o := exo (hp.objs.size + 1) C none) (h' := hp2) kk one (exo_ok hget)
  have both : Vals [V.ref (hp.objs.size + 1), v] [Value.ref (hp.objs.size + 1), u] := .cons rfl (.cons r .nil)
  have hsp : spErr X.K C y [V.ref (hp.objs.size + 1), v] (upd H (hp.objs.size + 1) (exo (hp.objs.size + 1) C none))
      (fun z H2 => z = .non ∧ ∃ d, H d = none ∧ d ≠ hp.objs.size + 1 ∧
        H2 = upd (upd (upd H (hp.objs.size + 1) (exo (hp.objs.size + 1) C none)) d (exd d [(y, v)])) (hp.objs.size + 1) (exo (hp.objs.size + 1) C (some d)))
      (fun _ _ _ => False) :=
    ⟨_, v, rfl, upd_same, fun d n ne => ⟨rfl, d, by rw [upd_ne ne] at n; exact n, ne, rfl⟩⟩
  refine wpAny_call (kw_call (I.kIn _ _ lC) hbm (PySem.W.looks_findIn I.kIn iC) (fun self => PySem.W.bind_fn I.kIn self tI)
    (codeAny_mono (F0.run _ X.stack _ _ ⟨[Value.ref (hp.objs.size + 1)], [(y, u)]⟩ _ _ _ (fun _ _ _ => False)
      (hr.make C [] [(y, u)]) (hG.make C [] [(y, u)]) (I2.env0.make C [] [(y, u)]) (hb.to _ [Value.ref (hp.objs.size + 1)] u rfl) both hsp)
      fun rr s' hq => ?_))
  match rr, hq with
  | .ok (.ret z), ⟨zz, H2, os2, bare2, un2, hok2, rz, ez, d, hd, ne, eH⟩ =>
    subst ez
    subst eH
    exact ⟨rz, ⟨_, d, hp2, rfl, one, hn, hd, ne, kk, un2, hok2, os2, bare2⟩⟩
  | .error er, hq => exact False.elim hq
  | .ok .next, hq => exact False.elim hq
  | .ok .brk, hq => exact False.elim hq
  | .ok .cont, hq => exact False.elim hq
variable {x : Str} {e : Expr} {te : TE} {p pos kpos : Pos}
theorem pe_erK (D : ErK X.prog X.w X.K X.mg X.base x C y) (hr : Room 3 X.A) (hG : Gd X.A) (he : PE X e te) (hg : Gl X x := by rfl)
    (hdb : (x == ("__debug__" : Str)) = false := by decide) : PE X (.Call (.Name x p) [] [⟨some y, e, kpos⟩] pos) (tBorn C y te) := by
  have D' := D
  obtain ⟨f, fd, hm, T, iC, tI, kC, hb, F0⟩ := D'
  constructor
  intro pins s σ H Q I h
  refine wpAny_Call_Name_kw (ld_glob I hg hm ?_ hdb)
  refine PySem.W.callWith_KW0 (first := []) (h₀ := X.base) I.ok.mod.kin kC rfl (thn (kw_one he I (show te σ H _ from h)) fun us s1 hh => ?_) rfl
  obtain ⟨v, u, H1, rfl, I1, ru, v', ev, q⟩ := hh
  cases ev
  refine ⟨I1.kIn, ?_⟩
  refine thn (bornK D hr hG I1 ru) fun u2 s2 B => ?_
  obtain ⟨a, d, hp2, rfl, sz, na, nd, ne, kk, un, hok, ho, hb2⟩ := B.ex
  rw [born_eq ne] at un hok
  refine ⟨.ref a, _, ?_, rfl, q a d na nd ne⟩
  have nha : ∀ {b : Addr} {o : Obj}, s1.heap.get? b = some o → b ≠ a := fun z => Nat.ne_of_lt (Nat.lt_of_lt_of_le (Heap.lt_size z) sz)
  have upn : ∀ {b : Addr}, b ≠ a → H1 b = none → upd H1 a (exo a C none) b = none := fun hb n => by rw [upd_ne hb]; exact n
  have un0 : Un (frs X.stack) [] H1 (upd (upd H1 d (exd d [(y, v)])) a (exo a C (some d))) s1.heap s2.heap := {
    keep := fun b o z n hf hx => un.keep b o (kk b o z) (upn (nha z) n) hf hx
    slot := fun b o z n hf hx => un.slot b o (kk b o z) (upn (nha z) n) hf hx
    free := fun b o z n hx => un.free b o (kk b o z) (upn (nha z) n) hx
    there := fun b o z hx => un.there b o (kk b o z) hx
    tups := fun b xs z => un.tups b xs (by rw [upd_ne (ne_of_none z na)]; exact z)
    frzs := fun b o w z => un.frzs b o w (by rw [upd_ne (ne_of_none z na)]; exact z)
    tbls := fun b ps z => un.tbls b ps (by rw [upd_ne (ne_of_none z na)]; exact z) }
  exact I1.call' (ch := []) ho un0 hok hb2 fun b z => absurd z (by simp)
end
end Rm

set_option maxRecDepth 100000
set_option maxHeartbeats 4000000
namespace Rm
open PySem PySem.Spec L2
open PyProof.Rows hiding St

/-! ### isinstance of a tracked error, its field -/
section
variable {P : Program} {w : World} {A : Around} {E : Value → Shared → Prop} {s : Shared} {K : PySem.W.Frag} {x D : Addr} {ox od : Obj}
theorem ask_class {Q : Option Value → Shared → Prop} (T : ExcC K D) (X : K.In s.heap) (I : PySem.W.InstAt s.heap x ox D (some od))
    (q : Q (some (.ref D)) { s with toks := s.toks + 1 }) : wpAny (model P w) A (getAttr? (.ref x) "__class__") Q E s := by
  have is_cls : (PySem.W.clsIn K D).isSome = true := by
    obtain ⟨cd, z, _⟩ := PySem.W.any_some T.hd
    rw [z]
    rfl
  have found : PySem.W.findObj K D (some od) "__class__" = some (.bind (.builtin "getset_descriptor.__get__") (.builtin "object.__class__")) :=
    PySem.W.findObj_data is_cls T.ha T.hn T.ht
  obtain ⟨hp, gs, dr, tk, os⟩ := s
  have a0 := I.type (M := model P w)
  have a1 := PySem.W.looks_findIn (M := model P w) X T.hg
  have a2 := PySem.W.looks_findIn (M := model P w) X T.hk
  have a3 := PySem.W.looks_find (M := model P w) X I found
  have isB : PySem.W.Looks (model P w) hp (isInstance (.ref x) (.type "BaseException")) true := a0.andThen (PySem.W.looks_subIn X T.hs)
  have n2 : (Value.builtin "BaseException.__getattribute__" == Value.builtin "object.__getattribute__") = false := by
    decide +kernel
  have n1 : (onTheHeap (Value.ref D) && Value.builtin "BaseException.__getattribute__" == Value.builtin "object.__getattribute__") = false := by
    rw [n2]
    rfl
  have n0 : (false && onTheHeap (Value.builtin "BaseException.__getattribute__")) = false := rfl
  unfold getAttr? getAttrBy? getAttrBy
  refine wpAny_bind (wpAny_mkText (wpAny_bind (wpAny_attempt (wpAny_holding (wpAny_bind (a0.at (wpAny_bind (a1.at ?_))))))))
  show wpAny _ _ (if (onTheHeap (Value.ref D) && Value.builtin "BaseException.__getattribute__" == Value.builtin "object.__getattribute__") = true
    then _ else _) _ _ _
  rw [n1, if_neg Bool.false_ne_true]
  unfold getAttrByItsOwn hookBefore
  refine wpAny_bind ?_
  rw [if_pos (show onTheHeap (Value.ref D) = true from rfl)]
  refine a2.at ?_
  refine wpAny_bind (wpAny_attempt (wpAny_holding ?_))
  unfold callGetattribute
  rw [n0, if_neg Bool.false_ne_true]
  unfold boundAndCalled
  rw [PySem.F.excAttr_ValueError.ga.bind (.ref x)]
  refine wpAny_bind (wpAny_pure ?_)
  show wpAny _ _ (call (.builtin "BaseException.__getattribute__")
    [.ref x, .str "__class__" tk]) _ _ _
  refine wpAny_call (codeAny_call_builtin PySem.F.excAttr_ValueError.ga.plain PySem.F.entry_bexc_ga ?_)
  refine @PySem.W.check_slot (model P w) _ _ ⟨hp, gs, dr, tk + 1, os⟩
    "BaseException.__getattribute__" "BaseException" "__getattribute__" (.ref x) [.str "__class__" tk] [] _
    (by decide +kernel) (by decide +kernel) isB (PySem.F.args_bexc_ga (.ref x) (.str "__class__" tk)) ?_
  unfold Builtin.«object.__getattribute__»
  refine wpAny_bind (wpAny_of_eq (a := ((Value.ref x : Value), [Value.str "__class__" tk])) (by first | rfl | (simp only [slotArgs]; rfl)) ?_)
  refine wpAny_bind (wpAny_pure (wpAny_bind (a0.at (wpAny_bind (a3.at ?_)))))
  show wpAny _ _ (holding [Value.builtin "object.__class__"]
    (call (.builtin "getset_descriptor.__get__") [.builtin "object.__class__", .ref x, .ref D]) >>= ret) _ _ _
  refine wpAny_bind (wpAny_holding (wpAny_call (PySem.W.class_get (s := ⟨hp, gs, dr, tk + 1, os⟩) (ox := ox) (od := some od) X I T.hm ?_)))
  refine wpAny_pure ?_
  show wpAny _ _ (handedOut (.ref D)) _ _ _
  rw [PySem.W.handedOut_of (v := .ref D) rfl]
  first
    | exact wpAny_pure (wpAny_pure q)
    | exact wpAny_pure q
    | exact wpAny_pure (wpAny_bind (wpAny_pure (wpAny_pure q)))
theorem kit_err (T : ExcC K D) : PySem.W.KitX K (.ref x) (.ref D) (fun h => ∃ ox od, PySem.W.InstAt h x ox D (some od)) where
  ty := fun _ _ _ ⟨_, _, I⟩ => I.type
  it := fun _ _ X _ => by
    obtain ⟨cd, hc, _⟩ := PySem.W.any_some T.hd
    unfold PySem.W.clsIn at hc
    split at hc
    · rename_i ho
      intro A' Q' E' s' k q
      unfold isType loadHead
      exact wpAny_bind (wpAny_loadPart (k _ _ (X _ _ ho)) (wpAny_pure q))
    · cases hc
  ne := fun h tp dd its n sl X htp => by
    obtain ⟨cd, hc, _⟩ := PySem.W.any_some T.hd
    refine Bool.eq_false_iff.mpr fun q => ?_
    have e : D = tp := Value.ref.inj (beq_iff_eq.mp q)
    subst e
    unfold PySem.W.clsIn at hc
    split at hc
    · rename_i ho
      have z := (X _ _ ho).symm.trans htp
      cases z
    · cases hc
  ca := fun X ⟨_, _, I⟩ k => ask_class T X I k
end
/-- isinstance(e, c), e a tracked error with its dict -/
def rIsX (K : PySem.W.Frag) : List V → Hp → VK → Prop := fun xs H Q => ∃ (a C d : Addr) (fs : List (Str × V)) (c : V) (u : Value) (b : Bool), xs = [.ref a, c] ∧
  H a = some (exo a C (some d)) ∧ H d = some (exd d fs) ∧ ExcC K C ∧ ClsV c u ∧ PySem.W.kitOne K (.ref C) u = some b ∧ Q (.bl b) H
theorem err_at {X : Cx} {pins : List (Addr × Obj)} {σ : L2.St} {H : Hp} {s : Shared} {a C d : Addr} {fs : List (Str × V)} (I : Inv X pins σ H s)
    (ha : H a = some (exo a C (some d))) (hd : H d = some (exd d fs)) :
    ∃ ox od, PySem.W.InstAt s.heap a ox C (some od) ∧ ∀ f, RelO (fs.lookup f) ((PySem.W.lookIn f od).getD none) ∧ (PySem.W.lookIn f od).isSome = true := by
  obtain ⟨t1, hx⟩ := exo_at I.hok ha
  obtain ⟨mA, hn, hr⟩ := exd_at I.hok hd
  obtain ⟨od, ho, hl⟩ := lookIn_ns hn
  exact ⟨_, od, ⟨hx, rfl, rfl, ho⟩, fun f => by rw [hl]; exact ⟨hr f, rfl⟩⟩
theorem call_isX {X : Cx} : CallR X (.builtin "isinstance") (rIsX X.K) := by
  intro pins s σ H xs us Q I r h
  obtain ⟨a, C, d, fs, c, u, b, rfl, ha, hd, T, k, e, q⟩ := h
  obtain ⟨u1, u2, rfl, r1, r2⟩ := vals2 r
  cases r1
  have e2 := k.eq r2
  subst e2
  obtain ⟨ox, od, J, _⟩ := err_at I ha hd
  exact PySem.W.kia_one (kit_err T) I.kIn ⟨ox, od, J⟩ e (fun z => nomatch z) fun tk => ⟨.bl b, H, I.tok tk, rfl, q⟩
/-- e.n, e a tracked error -/
def tErf (C : Addr) (n : Str) (te : TE) : TE := fun σ H Q => te σ H fun x H1 => ∃ a d fs v, x = .ref a ∧ H1 a = some (exo a C (some d)) ∧ H1 d = some (exd d fs) ∧
  fs.lookup n = some v ∧ Q v H1
theorem pe_ef {X : Cx} {C : Addr} {e : Expr} {te : TE} {pos : Pos} {n : Str} (T : XfC X.K C) (hno : PySem.W.findIn X.K (.ref C) n = some none) (he : PE X e te)
    (hb : attributeBase e n X.env (eval e X.env) = eval e X.env := by rfl) : PE X (.Attribute e n pos) (tErf C n te) := by
  constructor
  intro pins s σ H Q I h
  refine attr_of hb (thn (he.run pins s σ H _ I h) fun u s1 hh => ?_)
  obtain ⟨x, H1, I1, rx, a, d, fs, v, ex, ha, hd, l, q⟩ := hh
  subst ex
  cases rx
  obtain ⟨ox, od, J, hl⟩ := err_at I1 ha hd
  obtain ⟨h1, h2⟩ := hl n
  cases eo : PySem.W.lookIn n od with
  | none => rw [eo] at h2; cases h2
  | some r =>
    rw [eo] at h1
    obtain ⟨u, hu, ru⟩ := RelO.some_of (v := v) (o := r) (by rw [← l]; exact h1)
    exact PySem.HandSPX.exc_get I1.kIn J T.ga T.gg T.exC (PySem.W.findObj_own T.hdC hno rfl (by rw [eo, hu])) (handed_of ru) ⟨v, H1, I1.tok _, ru, q⟩
/-- e.n, e a tracked error of any own class -/
def tErfG (K : PySem.W.Frag) (n : Str) (te : TE) : TE := fun σ H Q => te σ H fun x H1 => ∃ a C d fs v, x = .ref a ∧ XfC K C ∧ PySem.W.findIn K (.ref C) n = some none ∧
  H1 a = some (exo a C (some d)) ∧ H1 d = some (exd d fs) ∧ fs.lookup n = some v ∧ Q v H1
theorem pe_efG {X : Cx} {e : Expr} {te : TE} {pos : Pos} {n : Str} (he : PE X e te)
    (hb : attributeBase e n X.env (eval e X.env) = eval e X.env := by rfl) : PE X (.Attribute e n pos) (tErfG X.K n te) := by
  constructor
  intro pins s σ H Q I h
  refine attr_of hb (thn (he.run pins s σ H _ I h) fun u s1 hh => ?_)
  obtain ⟨x, H1, I1, rx, a, C, d, fs, v, ex, T, hno, ha, hd, l, q⟩ := hh
  subst ex
  cases rx
  obtain ⟨ox, od, J, hl⟩ := err_at I1 ha hd
  obtain ⟨h1, h2⟩ := hl n
  cases eo : PySem.W.lookIn n od with
  | none => rw [eo] at h2; cases h2
  | some r =>
    rw [eo] at h1
    obtain ⟨u, hu, ru⟩ := RelO.some_of (v := v) (o := r) (by rw [← l]; exact h1)
    exact PySem.HandSPX.exc_get I1.kIn J T.ga T.gg T.exC (PySem.W.findObj_own T.hdC hno rfl (by rw [eo, hu])) (handed_of ru) ⟨v, H1, I1.tok _, ru, q⟩
end Rm

set_option maxRecDepth 100000
set_option maxHeartbeats 4000000
namespace Rm
open PySem PySem.Spec L2
open PyProof.Rows hiding St

/-! ### xs.count(y), flat items -/
theorem count_flat {x : V} : ∀ {xs : List V} {us : List Value}, Vals xs us → xs.all flatV = true → us.countP (eqU x) = xs.countP fun y => eqV y x
  | _, _, .nil, _ => rfl
  | y :: xs, u :: us, .cons r t, f => by
    rw [List.all_cons, Bool.and_eq_true] at f
    rw [List.countP_cons, List.countP_cons, eqU_of r f.1, count_flat t f.2]
def rCntV (K : PySem.W.Frag) : V → List V → Hp → VK → Prop := fun x xs H Q => ∃ (p : Addr) (zs : List V) (y : V), x = .ref p ∧ xs = [y] ∧ SqL K H p zs ∧
  flatV y = true ∧ zs.all flatV = true ∧ Q (.int ((zs.countP fun z => eqV z y : Nat) : Int)) H
theorem mt_countV {X : Cx} : MtR X "list.count" (rCntV X.K) := by
  intro pins s σ H x xs v us Q I rx rxs h
  obtain ⟨p, zs, y, rfl, rfl, hs, fy, fz, q⟩ := h
  cases rx
  obtain ⟨u, rfl, ru⟩ := rxs.one
  obtain ⟨its, rv, ⟨⟨cls, dd, data, sl⟩, n, ho, hc, hdn, hd⟩, hlen⟩ := I.list hs
  simp only at hc hd
  subst hc hd
  refine call_meets PySem.F.slot_list_count ⟨_, ho, rfl⟩ PySem.F.entry_list_count (PySem.F.args_list_count_2 _ _)
    (SeqAt.list_countAt p its.toArray n dd sl u (eqU y)) ⟨ho, fun z hz => (mem_eqAt ru fy rv fz z (by simpa using hz)), ?_⟩
  refine ⟨.int ((zs.countP fun z => eqV z y : Nat) : Int), H, I.tok _, ⟨s.toks, ?_⟩, q⟩
  show Value.int ((its.toArray.toList.countP (eqU y) : Nat) : Int) s.toks = _
  rw [show its.toArray.toList = its by simp, count_flat rv fz]
/-! ### d.update(e), tracked dicts -/
def rUpd : V → List V → Hp → VK → Prop := fun x xs H Q => ∃ (p q : Addr) (kvs more : List (Key × V)), x = .ref p ∧ xs = [.ref q] ∧ H p = some (.dK kvs) ∧ H q = some (.dK more) ∧
  p ≠ q ∧ kvs.length + more.length ≤ sizeLine ∧ Q .non (upd H p (.dK (mergeK kvs more)))
theorem mt_upd {X : Cx} : MtR X "dict.update" rUpd := by
  intro pins s σ H x xs v us Q I rx rxs h
  obtain ⟨p, q, kvs, more, rfl, rfl, hp, hq, ne, hz, k⟩ := h
  cases rx
  obtain ⟨u, rfl, ru⟩ := rxs.one
  cases ru
  obtain ⟨z1, lo1, vs1, r1, d1⟩ := dk_of I.hok hp
  obtain ⟨z2, lo2, vs2, r2, d2⟩ := dk_of I.hok hq
  have mu : Mut (H p) := by rw [hp]; exact True.intro
  refine call_meetsIn PySem.F.slot_dict_update d1.typeIs PySem.F.entry_dict_update (PySem.F.args_dict_update_2 _ _)
    (meets_dict_update (mixKind X.prog X.w) p q ne lo2) ⟨vs1, vs2, d1, d2, (by rw [← r1.length, ← r2.length]; exact hz), fun h' hmm _ hs => ?_⟩
  have hl : (mergeK kvs more).length ≤ sizeLine := by
    have := length_mergeK more kvs
    omega
  obtain ⟨o', ho', _⟩ := Heap.dictOf_iff.mp hmm
  exact ⟨.non, _, I.write (x := p) (e := p) (t' := s.toks) mu (.inl rfl) (fun b o nb e => (hs.2 b nb).trans e) ⟨o', ho'⟩ (dk_new hl lo1 (r2.merge r1) hmm), rfl, k⟩
/-! ### pairs of errors -/
def ErrAt (H : Hp) (a C : Addr) (y : Str) (x : V) : Prop := ∃ d, H a = some (exo a C (some d)) ∧ H d = some (exd d [(y, x)])
def PairOk (H : Hp) (C : Addr) (y : Str) (x : V) (t : Addr) : Prop := ∃ a b, H t = some (.tup [.ref a, .ref b]) ∧ ErrAt H a C y x ∧ ErrAt H b C y x
theorem ErrAt.up {H H' : Hp} {a C : Addr} {y : Str} {x : V} (s : Same H H') (h : ErrAt H a C y x) : ErrAt H' a C y x :=
  let ⟨d, h1, h2⟩ := h
  ⟨d, s _ _ h1, s _ _ h2⟩
theorem PairOk.up {H H' : Hp} {t C : Addr} {y : Str} {x : V} (s : Same H H') (h : PairOk H C y x t) : PairOk H' C y x t :=
  let ⟨a, b, h1, h2, h3⟩ := h
  ⟨a, b, s _ _ h1, h2.up s, h3.up s⟩
theorem err_new {H : Hp} {a d C : Addr} {y : Str} {x : V} (na : H a = none) (nd : H d = none) (ne : d ≠ a) :
    Same H (upd (upd H d (exd d [(y, x)])) a (exo a C (some d))) ∧ ErrAt (upd (upd H d (exd d [(y, x)])) a (exo a C (some d))) a C y x :=
  ⟨same_two nd na ne, d, upd_same, by rw [upd_ne ne]; exact upd_same⟩
theorem tup_pair {C : Addr} {y : Str} {σ : L2.St} {i : Nat} {x : V} {H : Hp} {Q : VK} (hi : σ[i]? = some (some x))
    (h : ∀ t H1, Same H H1 → PairOk H1 C y x t → Q (.ref t) H1) :
    tTup (tCons (tBorn C y (tVar i)) (tCons (tBorn C y (tVar i)) tNil)) σ H Q := by
  refine ⟨x, hi, x, rfl, fun a d na nd ne => ⟨x, hi, x, rfl, fun b e nb nd2 ne2 => ⟨(show 2 ≤ sizeLine by decide), fun t nt => ?_⟩⟩⟩
  obtain ⟨s1, e1⟩ := err_new (C := C) (y := y) (x := x) na nd ne
  obtain ⟨s2, e2⟩ := err_new (C := C) (y := y) (x := x) nb nd2 ne2
  have s3 := same_new (o := .tup [.ref a, .ref b]) nt
  exact h t _ ((s1.trans s2).trans s3) ⟨a, b, upd_same, (e1.up s2).up s3, e2.up s3⟩
theorem cons_pair {C : Addr} {y : Str} {σ : L2.St} {i : Nat} {x : V} {H : Hp} {tr : TA} {Q : List V → Hp → Prop} (hi : σ[i]? = some (some x))
    (h : ∀ t H1, Same H H1 → PairOk H1 C y x t → tr σ H1 fun xs H2 => Q (.ref t :: xs) H2) :
    tCons (tTup (tCons (tBorn C y (tVar i)) (tCons (tBorn C y (tVar i)) tNil))) tr σ H Q := tup_pair hi h
/-- rows of pairs, one for each class -/
def Prs (H : Hp) (x : V) : List (Addr × Str) → List V → Prop
  | [], [] => True
  | c :: cs, v :: vs => (∃ t, v = .ref t ∧ PairOk H c.1 c.2 x t) ∧ Prs H x cs vs
  | _, _ => False
theorem Prs.up {H H' : Hp} {x : V} (s : Same H H') : ∀ {cs : List (Addr × Str)} {vs : List V}, Prs H x cs vs → Prs H' x cs vs
  | [], [], _ => True.intro
  | _ :: _, _ :: _, ⟨⟨t, e, p⟩, r⟩ => ⟨⟨t, e, p.up s⟩, r.up s⟩
  | [], _ :: _, h => h.elim
  | _ :: _, [], h => h.elim
theorem Prs.app {H : Hp} {x : V} : ∀ {cs ds : List (Addr × Str)} {vs us : List V}, Prs H x cs vs → Prs H x ds us → Prs H x (cs ++ ds) (vs ++ us)
  | [], _, [], _, _, h => h
  | _ :: _, _, _ :: _, _, ⟨p, r⟩, h => ⟨p, r.app h⟩
  | [], _, _ :: _, _, h, _ => h.elim
  | _ :: _, _, [], _, h, _ => h.elim
theorem Prs.len {H : Hp} {x : V} : ∀ {cs : List (Addr × Str)} {vs : List V}, Prs H x cs vs → vs.length = cs.length
  | [], [], _ => rfl
  | _ :: _, _ :: _, ⟨_, r⟩ => congrArg Nat.succ r.len
  | [], _ :: _, h => h.elim
  | _ :: _, [], h => h.elim
theorem Prs.get {H : Hp} {x : V} : ∀ {cs : List (Addr × Str)} {vs : List V} {i : Nat} {v : V}, Prs H x cs vs → vs[i]? = some v →
    ∃ c t, cs[i]? = some c ∧ v = .ref t ∧ PairOk H c.1 c.2 x t
  | _ :: _, _ :: _, 0, _, ⟨⟨t, e, p⟩, _⟩, h => by
    simp at h; subst h; exact ⟨_, t, rfl, e, p⟩
  | _ :: _, _ :: _, i + 1, _, ⟨_, r⟩, h => by
    simp at h
    simpa using r.get h
  | [], [], _, _, _, h => by simp at h
  | [], _ :: _, _, _, h, _ => h.elim
  | _ :: _, [], _, _, h, _ => h.elim
/-- a row of the law: two errors and what they keep -/
def RowOk (H : Hp) (C : Addr) (y : Str) (x : V) (t : Addr) : Prop := ∃ a b, H t = some (.tup [.ref a, .ref b, x, x]) ∧ ErrAt H a C y x ∧ ErrAt H b C y x
def Rws (H : Hp) (x : V) (cs : List (Addr × Str)) (vs : List V) : Prop := vs.length = cs.length ∧
  ∀ (i : Nat) (c : Addr × Str), cs[i]? = some c → ∃ t, vs[i]? = some (.ref t) ∧ RowOk H c.1 c.2 x t
theorem RowOk.up {H H' : Hp} {t C : Addr} {y : Str} {x : V} (s : Same H H') (h : RowOk H C y x t) : RowOk H' C y x t :=
  let ⟨a, b, h1, h2, h3⟩ := h
  ⟨a, b, s _ _ h1, h2.up s, h3.up s⟩
def spRows (cs : List (Addr × Str)) : Sp := fun vs H Q _ => ∃ x, vs = [x] ∧ ∀ p H' rows, Same H H' → H' p = some (.lst rows) → Rws H' x cs rows → Q (.ref p) H'
theorem ErrAt.upd {H : Hp} {p a C : Addr} {y : Str} {x : V} {xs : List V} {o : HO} (hp : H p = some (.lst xs)) (h : ErrAt H a C y x) : ErrAt (upd H p o) a C y x := by
  obtain ⟨d, h1, h2⟩ := h
  have n1 : a ≠ p := fun e => by
    rw [e, hp] at h1
    have h1' : HO.lst xs = HO.ext _ := Option.some.inj h1
    cases h1'
  have n2 : d ≠ p := fun e => by
    rw [e, hp] at h2
    have h2' : HO.lst xs = HO.ext _ := Option.some.inj h2
    cases h2'
  exact ⟨d, by rw [upd_ne n1]; exact h1, by rw [upd_ne n2]; exact h2⟩
theorem PairOk.upd {H : Hp} {p t C : Addr} {y : Str} {x : V} {xs : List V} {o : HO} (hp : H p = some (.lst xs)) (h : PairOk H C y x t) : PairOk (upd H p o) C y x t := by
  obtain ⟨a, b, h1, h2, h3⟩ := h
  have n1 : t ≠ p := fun e => by
    rw [e, hp] at h1
    cases h1
  exact ⟨a, b, by rw [upd_ne n1]; exact h1, h2.upd hp, h3.upd hp⟩
theorem Prs.upd {H : Hp} {p : Addr} {x : V} {xs : List V} {o : HO} (hp : H p = some (.lst xs)) : ∀ {cs : List (Addr × Str)} {vs : List V}, Prs H x cs vs → Prs (upd H p o) x cs vs
  | [], [], _ => True.intro
  | _ :: _, _ :: _, ⟨⟨t, e, q⟩, r⟩ => ⟨⟨t, e, q.upd hp⟩, r.upd hp⟩
  | [], _ :: _, h => h.elim
  | _ :: _, [], h => h.elim
end Rm

set_option maxRecDepth 100000
set_option maxHeartbeats 4000000
namespace Rm
open PySem PySem.Spec L2
open PyProof.Rows hiding St

/-! ### rows of errors, one after the other -/
/-- rows, one for each class -/
def Rwl (H : Hp) (x : V) : List (Addr × Str) → List V → Prop
  | [], [] => True
  | c :: cs, v :: vs => (∃ t, v = .ref t ∧ RowOk H c.1 c.2 x t) ∧ Rwl H x cs vs
  | _, _ => False
theorem Rwl.up {H H' : Hp} {x : V} (s : Same H H') : ∀ {cs : List (Addr × Str)} {vs : List V}, Rwl H x cs vs → Rwl H' x cs vs
  | [], [], _ => True.intro
  | _ :: _, _ :: _, ⟨⟨t, e, p⟩, r⟩ => ⟨⟨t, e, p.up s⟩, r.up s⟩
  | [], _ :: _, h => h.elim
  | _ :: _, [], h => h.elim
theorem Rwl.app {H : Hp} {x : V} : ∀ {cs ds : List (Addr × Str)} {vs us : List V}, Rwl H x cs vs → Rwl H x ds us → Rwl H x (cs ++ ds) (vs ++ us)
  | [], _, [], _, _, h => h
  | _ :: _, _, _ :: _, _, ⟨p, r⟩, h => ⟨p, r.app h⟩
  | [], _, _ :: _, _, h, _ => h.elim
  | _ :: _, _, [], _, h, _ => h.elim
theorem Rwl.len {H : Hp} {x : V} : ∀ {cs : List (Addr × Str)} {vs : List V}, Rwl H x cs vs → vs.length = cs.length
  | [], [], _ => rfl
  | _ :: _, _ :: _, ⟨_, r⟩ => congrArg Nat.succ r.len
  | [], _ :: _, h => h.elim
  | _ :: _, [], h => h.elim
theorem Rwl.get {H : Hp} {x : V} : ∀ {cs : List (Addr × Str)} {vs : List V} {i : Nat} {v : V}, Rwl H x cs vs → vs[i]? = some v →
    ∃ c t, cs[i]? = some c ∧ v = .ref t ∧ RowOk H c.1 c.2 x t
  | _ :: _, _ :: _, 0, _, ⟨⟨t, e, p⟩, _⟩, h => by
    simp at h; subst h; exact ⟨_, t, rfl, e, p⟩
  | _ :: _, _ :: _, i + 1, _, ⟨_, r⟩, h => by
    simp at h
    simpa using r.get h
  | [], [], _, _, _, h => by simp at h
  | [], _ :: _, _, _, h, _ => h.elim
  | _ :: _, [], _, _, h, _ => h.elim
theorem Rwl.of {H : Hp} {x : V} : ∀ {cs : List (Addr × Str)} {vs : List V}, Rws H x cs vs → Rwl H x cs vs
  | [], [], _ => True.intro
  | [], _ :: _, h => by cases h.1
  | _ :: _, [], h => by cases h.1
  | c :: cs, v :: vs, h => by
    obtain ⟨t, e, p⟩ := h.2 0 c rfl
    simp at e
    refine ⟨⟨t, e, p⟩, Rwl.of ⟨by simpa using h.1, fun i c' hc => ?_⟩⟩
    obtain ⟨t', e', p'⟩ := h.2 (i + 1) c' (by simpa using hc)
    exact ⟨t', by simpa using e', p'⟩
theorem Rwl.ws {H : Hp} {x : V} : ∀ {cs : List (Addr × Str)} {vs : List V}, Rwl H x cs vs → Rws H x cs vs
  | [], [], _ => ⟨rfl, fun i c h => by simp at h⟩
  | [], _ :: _, h => h.elim
  | _ :: _, [], h => h.elim
  | c :: cs, v :: vs, ⟨⟨t, e, p⟩, r⟩ => by
    have q := r.ws
    refine ⟨by simpa using q.1, fun i c' hc => ?_⟩
    cases i with
    | zero => simp at hc; subst hc; exact ⟨t, by simpa using e, p⟩
    | succ i =>
      obtain ⟨t', e', p'⟩ := q.2 i c' (by simpa using hc)
      exact ⟨t', by simpa using e', p'⟩
/-- neither a tuple nor an error -/
def SoftO (u : HO) : Prop := (∀ xs, u ≠ HO.tup xs) ∧ (∀ f, u ≠ HO.ext f)
theorem soft_lst {xs : List V} : SoftO (HO.lst xs) := ⟨fun _ e => (by cases e), fun _ e => (by cases e)⟩
theorem soft_dK {xs : List (Key × V)} : SoftO (HO.dK xs) := ⟨fun _ e => (by cases e), fun _ e => (by cases e)⟩
theorem ErrAt.updS {H : Hp} {p a C : Addr} {y : Str} {x : V} {u o : HO} (hp : H p = some u) (su : SoftO u) (h : ErrAt H a C y x) : ErrAt (L2.upd H p o) a C y x := by
  obtain ⟨d, h1, h2⟩ := h
  have n1 : a ≠ p := fun e => by
    rw [e, hp] at h1
    exact su.2 _ (Option.some.inj h1)
  have n2 : d ≠ p := fun e => by
    rw [e, hp] at h2
    exact su.2 _ (Option.some.inj h2)
  exact ⟨d, by rw [upd_ne n1]; exact h1, by rw [upd_ne n2]; exact h2⟩
theorem RowOk.updS {H : Hp} {p t C : Addr} {y : Str} {x : V} {u o : HO} (hp : H p = some u) (su : SoftO u) (h : RowOk H C y x t) : RowOk (L2.upd H p o) C y x t := by
  obtain ⟨a, b, h1, h2, h3⟩ := h
  have n1 : t ≠ p := fun e => by
    rw [e, hp] at h1
    exact su.1 _ (Option.some.inj h1)
  exact ⟨a, b, by rw [upd_ne n1]; exact h1, h2.updS hp su, h3.updS hp su⟩
theorem Rwl.updS {H : Hp} {p : Addr} {x : V} {u o : HO} (hp : H p = some u) (su : SoftO u) : ∀ {cs : List (Addr × Str)} {vs : List V}, Rwl H x cs vs → Rwl (L2.upd H p o) x cs vs
  | [], [], _ => True.intro
  | _ :: _, _ :: _, ⟨⟨t, e, q⟩, r⟩ => ⟨⟨t, e, q.updS hp su⟩, r.updS hp su⟩
  | [], _ :: _, h => h.elim
  | _ :: _, [], h => h.elim

section
variable {K : PySem.W.Frag} {C : Addr} {y : Str} {σ : L2.St} {i j : Nat} {x : V} {H : Hp}
/-- two errors, each a name's -/
theorem par_pair {k : Nat} {D : Ends} (hk : σ[k]? = some (some x))
    (h : ∀ a b H1, Same H H1 → ErrAt H1 a C y x → ErrAt H1 b C y x → D.nx ((σ.set i (some (.ref a))).set j (some (.ref b))) H1) :
    tPar i j (tCons (tBorn C y (tVar k)) (tCons (tBorn C y (tVar k)) tNil)) D σ H := by
  refine ⟨x, hk, x, rfl, fun a d na nd ne => ⟨x, hk, x, rfl, fun b e nb nd2 ne2 => ⟨_, _, rfl, ?_⟩⟩⟩
  obtain ⟨s1, e1⟩ := err_new (C := C) (y := y) (x := x) na nd ne
  obtain ⟨s2, e2⟩ := err_new (C := C) (y := y) (x := x) nb nd2 ne2
  exact h a b _ (s1.trans s2) (e1.up s2) e2
/-- the row of two errors -/
theorem row4 {a b : Addr} {Q : VK} (hX : XfC K C) (hno : PySem.W.findIn K (.ref C) y = some none) (hi : σ[i]? = some (some (.ref a))) (hj : σ[j]? = some (some (.ref b)))
    (ea : ErrAt H a C y x) (eb : ErrAt H b C y x) (h : ∀ t H1, Same H H1 → RowOk H1 C y x t → Q (.ref t) H1) :
    tTup (tCons (tVar i) (tCons (tVar j) (tCons (tErfG K y (tVar i)) (tCons (tErfG K y (tVar j)) tNil)))) σ H Q := by
  have ea' := ea
  have eb' := eb
  obtain ⟨da, ha, hda⟩ := ea'
  obtain ⟨db, hb, hdb⟩ := eb'
  refine ⟨_, hi, _, hj, _, hi, a, C, da, _, x, rfl, hX, hno, ha, hda, by simp, _, hj, b, C, db, _, x, rfl, hX, hno, hb, hdb, by simp, (show 4 ≤ sizeLine by decide), fun r nr => ?_⟩
  have z := same_new (o := .tup [.ref a, .ref b, x, x]) nr
  exact h r _ z ⟨a, b, upd_same, ea.up z, eb.up z⟩
theorem cons_row4 {a b : Addr} {tr : TA} {Q : List V → Hp → Prop} (hX : XfC K C) (hno : PySem.W.findIn K (.ref C) y = some none) (hi : σ[i]? = some (some (.ref a))) (hj : σ[j]? = some (some (.ref b)))
    (ea : ErrAt H a C y x) (eb : ErrAt H b C y x) (h : ∀ t H1, Same H H1 → RowOk H1 C y x t → tr σ H1 fun xs H2 => Q (.ref t :: xs) H2) :
    tCons (tTup (tCons (tVar i) (tCons (tVar j) (tCons (tErfG K y (tVar i)) (tCons (tErfG K y (tVar j)) tNil))))) tr σ H Q := row4 hX hno hi hj ea eb h
end
end Rm

set_option maxRecDepth 100000
set_option maxHeartbeats 4000000
namespace Rm
open PySem PySem.Spec L2
open PyProof.Rows hiding St
open SeqAt MeetsSeq

/-! ### a text beside anything -/
theorem str_off_dict (b : Str) (u : Tok) (l : Addr) (c : Value) (es : Array DictEntry) (n : Nat) (dd : Option Addr) (sl : Array (Option Value)) :
    Meets (Builtin.«str.__eq__» ⟨[.str b u, .ref l], []⟩) (fun _ R s => s.heap.get? l = some { cls := c, dict := dd, data := .dict es n, slots := sl } ∧ R (.ok (.ret .notImplemented)) s) :=
  .of_wp fun prog w A R s h => by obtain ⟨hp, g, d, tk, os⟩ := s; obtain ⟨hl, h⟩ := h; wp_walk using AutoSeq1.wpAny_loadPart' hl, wpAny_load hl; exact ⟨_, rfl, h⟩
theorem dict_off_str (l : Addr) (es : Array DictEntry) (n : Nat) (dd : Option Addr) (sl : Array (Option Value)) (b : Str) (u : Tok) :
    Meets (Builtin.«dict.__eq__» ⟨[.ref l, .str b u], []⟩) (fun _ R s => s.heap.get? l = some { cls := .type "dict", dict := dd, data := .dict es n, slots := sl } ∧ R (.ok (.ret .notImplemented)) s) :=
  .of_wp fun prog w A R s h => by obtain ⟨hp, g, d, tk, os⟩ := s; obtain ⟨hl, h⟩ := h; have f1 := F.sub_str_dict; wp_walk using AutoSeq1.wpAny_loadPart' hl; exact ⟨_, rfl, h⟩
section
variable {A : Around} {s : Shared}
theorem rc_str_dict {l : Addr} {o : Obj} {es : Array DictEntry} {n : Nat} (b : Str) (u : Tok) (ho : s.heap.get? l = some o) (hc : o.cls = .type "dict") (hd : o.data = .dict es n) (hu : A.units < cLine) :
    RcAt A s (.str b u) (.ref l) false := fun prog w E Q h => by
  obtain ⟨cls, dd, data, sl⟩ := o
  simp only at hc hd
  subst hc hd
  exact rc_eq_decline_or (k := false) (typeIs_str s b u) ⟨_, ho, rfl⟩ (by decide) F.sub_dict_str F.slot_str_eq F.slot_dict_eq_refl
    (fun _ hq => call_meets F.slot_str_eq (typeIs_str s b u) F.entry_str_eq (F.args_str_eq_2 _ _) (str_off_dict b u l (.type "dict") es n dd sl) ⟨ho, hq⟩)
    (fun _ hq => call_meets F.slot_dict_eq_refl ⟨_, ho, rfl⟩ F.entry_dict_eq (F.args_dict_eq_2 _ _) (dict_off_str l es n dd sl b u) ⟨ho, hq⟩)
    (fun _ hq => wpAny_of_eq (rfl : isSame (.str b u) (.ref l) = pure false) hq) (.inr hu) h
theorem rc_dict_str {l : Addr} {o : Obj} {es : Array DictEntry} {n : Nat} (b : Str) (u : Tok) (ho : s.heap.get? l = some o) (hc : o.cls = .type "dict") (hd : o.data = .dict es n) (hu : A.units < cLine) :
    RcAt A s (.ref l) (.str b u) false := fun prog w E Q h => by
  obtain ⟨cls, dd, data, sl⟩ := o
  simp only at hc hd
  subst hc hd
  exact rc_eq_decline_or (k := false) ⟨_, ho, rfl⟩ (typeIs_str s b u) (by decide) F.sub_str_dict F.slot_dict_eq F.slot_str_eq_refl
    (fun _ hq => call_meets F.slot_dict_eq ⟨_, ho, rfl⟩ F.entry_dict_eq (F.args_dict_eq_2 _ _) (dict_off_str l es n dd sl b u) ⟨ho, hq⟩)
    (fun _ hq => call_meets F.slot_str_eq_refl (typeIs_str s b u) F.entry_str_eq (F.args_str_eq_2 _ _) (str_off_dict b u l (.type "dict") es n dd sl) ⟨ho, hq⟩)
    (fun _ hq => wpAny_of_eq (rfl : isSame (.ref l) (.str b u) = pure false) hq) (.inr hu) h
theorem eqAt_str_dict {l : Addr} {o : Obj} {es : Array DictEntry} {n : Nat} (b : Str) (u : Tok) (ho : s.heap.get? l = some o) (hc : o.cls = .type "dict") (hd : o.data = .dict es n) (hu : A.units < cLine) :
    EqAt A s (.str b u) (.ref l) false := fun prog w E Q h => by
  unfold eqBool
  refine wpAny_holding ?_
  refine wpAny_ite_split (fun hab => absurd (eq_of_beq hab) nofun) (fun _ => ?_)
  exact wpAny_bind (rc_str_dict b u ho hc hd hu prog w E _ (wpAny_truthy_bool h))
/-- a text and what is read: equal just if it is this text -/
def isT (z : Str) : PyData → Bool
  | .str y => decide (y = z)
  | _ => false
theorem eqAt_strD {d : PyData} {as : List Addr} {v : Value} (z : Str) (t : Tok) (r : Reads s.heap v d as) (hu : A.units < cLine) : EqAt A s (.str z t) v (isT z d) := by
  cases r with
  | none => exact EqAt.str_none z t
  | bool y => exact EqAt.str_bool z t y
  | int y u => exact EqAt.str_int z t y u
  | str y u =>
    have e := EqAt.str_str (A := A) (s := s) z t y u
    have q : isT z (.str y) = (z == y) := by
      unfold isT
      rw [Bool.eq_iff_iff]
      simp
      exact eq_comm
    rw [q]
    exact e
  | list k1 k2 k3 k4 => exact EqAt.str_list z t ⟨_, k1, k2, _, k3⟩ hu
  | tuple k1 k2 k3 k4 => exact EqAt.str_tuple z t ⟨_, k1, k2, _, k3⟩ hu
  | dict k1 k2 k3 k4 k5 => exact eqAt_str_dict z t k1 k2 k3 hu
end
end Rm

set_option maxRecDepth 100000
set_option maxHeartbeats 4000000
namespace Rm
open PySem PySem.Spec L2
open PyProof.Rows hiding St

/-! ### all that is asked of an own error class: x names the class at C below the one at M, whose __init__ stores y -/
structure EF (P : Program) (w : World) (K : PySem.W.Frag) (mg : Str → Option Value) (C M : Addr) (x y : Str) : Prop where
  g : mg x = some (.ref C)
  er : ∀ base, Er P w K mg base x C y
  erk : ∀ base, ErK P w K mg base x C y
  xf : XfC K C
  no : PySem.W.findIn K (.ref C) y = some none
  ex : ExcC K C
  cl : ∃ nm q N bs tl sn sub ab col dd k0 k1 k2 k3 k5, K.lookup C = some (excClassObj nm q C N bs (.ref M :: tl) true sn sub ab col dd k0 k1 k2 k3 k5 "ValueError.__new__") ∧ allTy tl = true
  ty : PySem.W.typeIn K (.ref C) = some (.type "type")
  em : PySem.W.exmOne K (.ref C) (.ref C) = some true
  ve : PySem.W.subIn K (.ref C) (.type "ValueError") = some true
theorem EF.mro {P : Program} {w : World} {K : PySem.W.Frag} {mg : Str → Option Value} {C M D : Addr} {x y : Str} (e : EF P w K mg C M x y) :
    PySem.W.subIn K (.ref C) (.ref D) = some (decide (D = C) || decide (D = M)) := by
  obtain ⟨nm, q, N, bs, tl, sn, sub, ab, col, dd, k0, k1, k2, k3, k5, l, a⟩ := e.cl
  show PySem.W.mroIn K C (.ref D) = _
  have h : PySem.W.clsIn K C = some { name := nm, bases := bs, mro := .ref C :: .ref M :: tl, ns := N, qualname := q, hasDict := true, slotNames := sn, subclasses := sub, abstract := ab, collection := col, hasDel := false } := by
    unfold PySem.W.clsIn
    rw [l]
  unfold PySem.W.mroIn
  rw [h]
  simp only [Option.bind_some, List.isEmpty_cons, Bool.false_eq_true, if_false, List.contains_cons, allTy_no a, Bool.or_false]
  congr 1
  have b : ∀ a b : Addr, ((Value.ref a) == Value.ref b) = decide (a = b) := fun a b => by
    by_cases e : a = b
    · subst e; simp
    · rw [decide_eq_false e]
      exact Bool.eq_false_iff.mpr fun q => e (Value.ref.inj (beq_iff_eq.mp q))
  rw [b, b]
theorem EF.kit {P : Program} {w : World} {K : PySem.W.Frag} {mg : Str → Option Value} {C M D M' : Addr} {x y x' y' : Str} (e : EF P w K mg C M x y) (e' : EF P w K mg D M' x' y') (hM : D ≠ M) :
    PySem.W.kitOne K (.ref C) (.ref D) = some (decide (D = C)) := by
  have q : ∀ a b : Addr, ((Value.ref a) == Value.ref b) = decide (a = b) := fun a b => by
    by_cases e : a = b
    · subst e; simp
    · rw [decide_eq_false e]
      exact Bool.eq_false_iff.mpr fun q => e (Value.ref.inj (beq_iff_eq.mp q))
  unfold PySem.W.kitOne
  rw [q]
  by_cases h : C = D
  · subst h
    simp
  · rw [decide_eq_false h, if_neg (by simp)]
    obtain ⟨nm, q', N, bs, tl, sn, sub, ab, col, dd, k0, k1, k2, k3, k5, l, a⟩ := e'.cl
    unfold PySem.W.kitCls
    dsimp only
    have h1 : (PySem.W.clsIn K D).isSome = true := by
      unfold PySem.W.clsIn
      rw [l]
      rfl
    have h2 : PySem.W.typeIn K (.ref D) = some (.type "type") := e'.ty
    rw [if_pos (by rw [h1, h2]; simp), e.mro, decide_eq_false hM, Bool.or_false]
theorem ef_mk {P : Program} {w : World} {K : PySem.W.Frag} {h : Heap} {mg : Str → Option Value} {C M : Addr} {x y qual : Str} {st : Stmt} (X : K.In h) (G : h.Ns mainGlobals mg)
    {nm q : Str} {N : Addr} {bs tl : List Value} {sn : List Str} {sub : List Value} {ab : Bool} {col : Option Bool} {dd : Option Addr} {m0 m1 m2 m3 m5 : Option Value}
    (e_g : PySem.W.nsIn K mainGlobals x = some (some (.ref C)))
    (e_l : K.lookup C = some (excClassObj nm q C N bs (.ref M :: tl) true sn sub ab col dd m0 m1 m2 m3 m5 "ValueError.__new__")) (e_v : PySem.HandSPX.refsVE (.ref M :: tl) = true) (e_t : allTy tl = true)
    (e_sa : PySem.W.findIn K (.ref C) "__setattr__" = some (some (.builtin "object.__setattr__")))
    (e_ga : PySem.W.findIn K (.ref C) "__getattribute__" = some (some (.builtin "BaseException.__getattribute__"))) (e_gg : PySem.W.findIn K (.ref C) "__getattr__" = some none)
    (e_ex : PySem.W.subIn K (.ref C) (.type "BaseException") = some true) (e_ty : PySem.W.typeIn K (.ref C) = some (.type "type")) (e_k : PySem.W.keepIn K (.ref C) = true)
    (e_hd : PySem.W.hasDictIn K C = true) (e_no : PySem.W.findIn K (.ref C) y = some none) (e_sub : PySem.W.subIn K (.ref C) (.type "ValueError") = some true)
    (e_self : PySem.W.mroIn K C (.ref C) = some true)
    (e_sup : PySem.W.ks_superIn K C C "__init__" = some (some (.builtin "ValueError.__init__"))) (e_any : PySem.W.nsIn K cStatics "thirdparty.any" = some none)
    (e_ha : PySem.W.findIn K (.ref C) "__class__" = some (some (.builtin "object.__class__")))
    (e_hn : PySem.W.specialIn K (.builtin "object.__class__") "__get__" = some (some (.builtin "getset_descriptor.__get__"))) (e_ht : PySem.W.takesIn K (.builtin "object.__class__") = some true)
    (e_hm : PySem.W.mroIn K C (.type "object") = some true)
    {ef cda cc : Addr} {oc dV kV doc pm ct ccl cl : Value} {od an cdd cld : Option Addr} {osl ccs csl : Array (Option Value)} {vs : Array Value} {file : Str} {tf : Tok}
    (e_i : PySem.W.findIn K (.ref C) "__init__" = some (some (.ref ef))) (e_it : PySem.W.typeIn K (.ref ef) = some (.type "function"))
    (e_f : K.lookup ef = some ⟨oc, od, .func (PySem.W.ksFn "__init__" qual (defArgs st) (defBody st) (defScope st) dV kV doc pm an (.ref cda) ct cc), osl⟩)
    (e_c : PySem.W.codeIn K (.ref cda) qual = true) (e_cd : K.lookup cda = some ⟨ccl, cdd, .fields vs, ccs⟩) (e_fi : vs[2]? = some (.str file tf)) (e_pf : ((P.main.file : Str) == file) = true)
    (e_cc : K.lookup cc = some ⟨cl, cld, .cell (some (.ref C)), csl⟩) (e_df : dV = .none)
    (htop : (P.main.scope.names.lookup ("super" : Str)).isSome = false) (n_super : PySem.W.nsIn K mainGlobals "super" = some none)
    (hb1 : ∀ us : List Value, us.length = 2 → Binds K (PySem.W.ksFn "__init__" qual (defArgs st) (defBody st) (defScope st) .none kV doc pm an (.ref cda) ct cc) ["self", y] [])
    (hb2 : Kw1 (PySem.W.ksFn "__init__" qual (defArgs st) (defBody st) (defScope st) .none kV doc pm an (.ref cda) ct cc) ["self", y] 1 y)
    (hfn : ∀ base, mg "super" = none → ErrC P K C ef qual y (defArgs st) (defBody st) (defScope st) (PySem.W.ksFn "__init__" qual (defArgs st) (defBody st) (defScope st) .none kV doc pm an (.ref cda) ct cc) →
      FnG P w K mg base CX0 2 ef (PySem.W.ksFn "__init__" qual (defArgs st) (defBody st) (defScope st) .none kV doc pm an (.ref cda) ct cc) ["self", y] (spErr K C y)) :
    EF P w K mg C M x y := by
  subst e_df
  have ox : OexC K C := ⟨⟨nm, q, N, bs, _, sn, sub, ab, col, dd, m0, m1, m2, m3, m5, e_l, e_v⟩, e_sa, e_ex, e_ty, e_k⟩
  have T : ErrC P K C ef qual y (defArgs st) (defBody st) (defScope st) _ :=
    ⟨ox, ⟨oc, od, _, kV, doc, pm, an, cda, cc, ct, osl, ccl, cl, cdd, cld, vs, ccs, csl, file, tf, rfl, e_f, e_c, e_cd, e_fi, e_pf, e_cc⟩, e_any, e_sup, e_sub, e_self, e_no, e_i, e_it⟩
  have gC : mg x = some (.ref C) := PySem.W.mg_of X G e_g
  have ns : mg "super" = none := PySem.W.mg_none_of X G n_super
  exact ⟨gC, fun base => ⟨ef, _, gC, ox, e_i, e_it, e_k, hb1 [.none, .none] rfl, hfn base ns T⟩, fun base => ⟨ef, _, gC, ox, e_i, e_it, e_k, hb2, hfn base ns T⟩,
    ⟨e_ga, e_gg, e_ex, e_hd⟩, e_no, ⟨e_ga, e_gg, e_ex, e_hd, e_ha, e_hn, e_ht, e_hm⟩, ⟨nm, q, N, bs, tl, sn, sub, ab, col, dd, m0, m1, m2, m3, m5, e_l, e_t⟩, e_ty, em_self e_ex e_hd e_ty e_self, e_sub⟩
end Rm

set_option maxRecDepth 100000
set_option maxHeartbeats 4000000
namespace Rm
open PySem PySem.Spec L2
open PyProof.Rows hiding St
open SeqAt MeetsSeq

/-! ### data of any kind beside a text; in a tuple of texts; is True -/
section
variable {A : Around} {s : Shared}
theorem rcAt_Dstr {d : PyData} {as : List Addr} {v : Value} (z : Str) (t : Tok) (r : Reads s.heap v d as) (hu : A.units < cLine) : RcAt A s v (.str z t) (isT z d) := by
  cases r with
  | none => exact RcAt.none_str z t
  | bool y => exact RcAt.bool_str y z t
  | int y u => exact RcAt.int_str y u z t
  | str y u =>
    have e := RcAt.str_str (A := A) (s := s) y u z t
    have q : isT z (.str y) = (y == z) := by
      unfold isT
      rw [Bool.eq_iff_iff]
      simp
    rw [q]
    exact e
  | list k1 k2 k3 k4 => exact RcAt.list_str z t ⟨_, k1, k2, _, k3⟩ hu
  | tuple k1 k2 k3 k4 => exact RcAt.tuple_str z t ⟨_, k1, k2, _, k3⟩ hu
  | dict k1 k2 k3 k4 k5 => exact rc_dict_str z t k1 k2 k3 hu
end
section
variable {X : Cx}
/-- x == a text, x any small data -/
def rEqS (K : PySem.W.Frag) : R2 := fun x y H Q => ∃ d z, Dx K H x d ∧ y = .str z ∧ Sm d ∧ Q (.bl (isT z d)) H
theorem op_eqS (hu : X.A.units + 64 < cLine) : OpR X (compareOp .Eq) (rEqS X.K) := by
  intro pins s σ H x y v u Q I rx ry h
  obtain ⟨d, z, hd, rfl, sm, q⟩ := h
  obtain ⟨t, rfl⟩ := ry
  obtain ⟨⟨as, r⟩, _⟩ := Dx.shw I d x v hd rx sm.sh sm.len
  exact rcAt_Dstr z t r (by omega) X.prog X.w _ _ ⟨.bl _, H, I, rfl, q⟩
/-- x in a tuple of texts, x any small data -/
def rInS (K : PySem.W.Frag) : R2 := fun x y H Q => ∃ (d : PyData) (p : Addr) (zs : List Str), Dx K H x d ∧ y = .ref p ∧ SqT K H p (zs.map V.str) ∧ Sm d ∧ Q (.bl (zs.any fun z => isT z d)) H
theorem vals_strs {us : List Value} : ∀ {zs : List Str}, Vals (zs.map V.str) us → ∀ v ∈ us, ∃ z ∈ zs, ∃ t, v = .str z t := by
  intro zs
  induction zs generalizing us with
  | nil => intro r; cases r; intro v h; cases h
  | cons z zs ih =>
    intro r
    rw [List.map_cons] at r
    cases r with
    | cons r1 r2 =>
      intro v h
      rcases List.mem_cons.mp h with h | h
      · obtain ⟨t, e⟩ := r1
        subst h
        exact ⟨z, .head _, t, e⟩
      · obtain ⟨z', m, q⟩ := ih r2 v h
        exact ⟨z', .tail _ m, q⟩
theorem op_inS (hu : X.A.units + 65 < cLine) : OpR X (compareOp .In) (rInS X.K) := by
  intro pins s σ H x y v u Q I rx ry h
  obtain ⟨d, p, zs, hd, rfl, hp, sm, q⟩ := h
  cases ry
  obtain ⟨⟨as, r⟩, _⟩ := Dx.shw I d x v hd rx sm.sh sm.len
  obtain ⟨its, rv, ⟨o, ho, hc, n, hdt⟩, hlen⟩ := I.tuple hp
  let e : Value → Bool := fun y => match y with
    | .str z _ => isT z d
    | _ => false
  refine in_tupleAt e ⟨_, ho, hc, _, hdt⟩ (fun y hy => ?_) ?_
  · obtain ⟨z, _, t, rfl⟩ := vals_strs rv y (by simpa using hy)
    exact eqAt_strD z t r (show X.A.in1.units < cLine by show X.A.units + 1 < cLine; omega)
  · have hq : its.toArray.any e = zs.any fun z => isT z d := by
      rw [← Array.any_toList]
      simp only [List.toList_toArray]
      clear hdt ho hc hp q hlen
      induction zs generalizing its with
      | nil => cases rv; rfl
      | cons z zs ih =>
        rw [List.map_cons] at rv
        cases rv with
        | cons r1 r2 =>
          obtain ⟨t, rfl⟩ := r1
          rw [List.any_cons, List.any_cons, ih _ r2]
    rw [hq]
    exact ⟨.bl _, H, I, rfl, q⟩
theorem op_isB : OpR X (compareOp .Is) (fun x y H Q => ∃ a b, x = .bl a ∧ y = .bl b ∧ Q (.bl (decide (a = b))) H) := by
  intro pins s σ H x y v u Q I rx ry h
  obtain ⟨a, b, rfl, rfl, q⟩ := h
  cases rx
  cases ry
  show wpAny _ _ ((isSame (Value.bool a) (.bool b)) >>= fun z => pure (Value.bool z)) _ _ s
  refine wpAny_bind (wpAny_of_eq (a := decide (a = b)) (by cases a <;> cases b <;> rfl) (wpAny_pure (fin_bl I q rfl)))
end
/-! ### a def called by one keyword -/
def CeK (P : Program) (w : World) (K : PySem.W.Frag) (mg : Str → Option Value) (base : Heap) (CX : CXT)
    (k : Nat) (x : Str) (ps : List Str) (y : Str) (sp : Sp) : Prop :=
  ∃ f fd, mg x = some (.ref f) ∧ PySem.W.keepIn K (.ref f) = true ∧ Kw1 fd ps 0 y ∧ FnG P w K mg base CX k f fd ps sp
theorem pe_ceK {X : Cx} {CX : CXT} {k : Nat} {x y : Str} {ps : List Str} {sp : Sp} {E : XK} {e : Expr} {te : TE} {p pos kpos : Pos}
    (D : CeK X.prog X.w X.K X.mg X.base CX k x ps y sp) (hr : Room k X.A) (hG : Gd X.A) (he : PE X e te) (hx : Passes CX X E) (hg : Gl X x := by rfl)
    (hdb : (x == ("__debug__" : Str)) = false := by decide) : PE X (.Call (.Name x p) [] [⟨some y, e, kpos⟩] pos) (tCall sp [] E (tCons te tNil)) := by
  obtain ⟨f, fd, hm, hk, hb, F⟩ := D
  constructor
  intro pins s σ H Q I h
  refine wpAny_Call_Name_kw (ld_glob I hg hm ?_ hdb)
  refine PySem.W.callWith_KW0 (first := []) (h₀ := X.base) I.ok.mod.kin hk rfl (thn (kw_one he I (show te σ H _ from h)) fun us s1 hh => ?_) rfl
  obtain ⟨v, u, H1, rfl, I1, ru, q⟩ := hh
  exact ⟨I1.kIn, goes1 (us := []) (vs := []) F hr hG hb hx I1 .nil ru rfl q⟩
/-! ### isinstance of data: which built-in kinds -/
def isKd (T : String) (d : PyData) : Bool := (tyD d == T) || (T == "int" && tyD d == "bool")
theorem kit_kd {K : PySem.W.Frag} {T : String} (h : T = "str" ∨ T = "tuple" ∨ T = "list" ∨ T = "dict" ∨ T = "bool" ∨ T = "int") : ∀ d : PyData, PySem.W.kitOne K (.type (tyD d)) (.type T) = some (isKd T d) := by
  rcases h with rfl | rfl | rfl | rfl | rfl | rfl <;> (intro d; cases d <;> (dsimp only [tyD, isKd]; exact kit_ty (by decide +kernel)))
theorem isi_kd {K : PySem.W.Frag} {H : Hp} {v : V} {d : PyData} {Q : VK} {T : String} (hT : T = "str" ∨ T = "tuple" ∨ T = "list" ∨ T = "dict" ∨ T = "bool" ∨ T = "int") (h : Dx K H v d) (q : Q (.bl (isKd T d)) H) :
    rIsi K [v, .ty T] H Q := ⟨v, .ty T, _, _, _, rfl, .ty _, h.tyx, kit_kd hT d, q⟩
/-! ### members -/
/-- an integer from lo to hi -/
def isW (lo hi : Int) : PyData → Bool
  | .int i => decide (lo ≤ i) && decide (i ≤ hi)
  | _ => false
def isCh (d : PyData) : Bool := isT "change" d || isT "replace" d
def memD : PyData → Bool
  | .tuple [p, w, m] => isW 1 1000000 p && ((isT "locks" w && (rkD m).isSome) || (isT "changes" w && isCh m))
  | _ => false
end Rm
namespace Rm
open PySem PySem.Spec L2
open PyProof.Rows hiding St
/-! ### what is new -/
def nw (H H' : Hp) : Hp := fun b => match H b with
  | none => H' b
  | some _ => none
theorem none_of {H H' : Hp} {p : Addr} (s : Same H H') (n : H' p = none) : H p = none := by
  cases e : H p with
  | none => rfl
  | some u => rw [s _ _ e] at n; cases n
theorem nw_of {H H' : Hp} {p : Addr} {u : HO} (f : H p = none) (h : H' p = some u) : nw H H' p = some u := by
  unfold nw
  rw [f]
  exact h
theorem nw_at {H H' : Hp} {p t : Addr} {u o o' : HO} (ht : H t = some o) (f : H p = none) (h : H' p = some u) : nw H (upd H' t o') p = some u :=
  nw_of f (by rw [upd_ne (fun e => by rw [e, ht] at f; cases f)]; exact h)
theorem nw_same {H H' : Hp} : Same (nw H H') H' := fun b u h => by
  unfold nw at h
  split at h
  · exact h
  · cases h
theorem nw_off {H H' : Hp} {p : Addr} {u o : HO} (hp : H p = some u) : Same (nw H H') (upd H' p o) := fun b v h => by
  rw [upd_ne (fun e => by unfold nw at h; rw [e, hp] at h; cases h)]
  exact nw_same _ _ h
/-- a drawn value, all of it new -/
def spAnyN (K : PySem.W.Frag) : Sp := fun vs H Q _ => ∃ t o, vs = [.ref t] ∧ H t = some o ∧ IsTape o ∧
  ∀ v d H', Dx K (nw H H') v d → Sv d → Nxt t H H' → Q v H'
/-- lists and tuples of small data are small -/
theorem sv_dep : ∀ {ds : List PyData}, (∀ d ∈ ds, Sv d) → PyData.showableAll ds = true ∧ PyData.leavesShortAll 100 ds = true ∧ PyData.weightAll ds ≤ 1010 * ds.length ∧ PyData.depthAll ds ≤ 10
  | [], _ => ⟨rfl, rfl, by simp [PyData.weightAll], by simp [PyData.depthAll]⟩
  | d :: ds, h => by
    have hd := h d (.head _)
    obtain ⟨a, b, c, e⟩ := sv_dep (ds := ds) fun x m => h x (.tail _ m)
    obtain ⟨h1, h2, h3, h4⟩ := hd
    refine ⟨by simp [PyData.showableAll, h1, a], by simp [PyData.leavesShortAll, h2, b], ?_, ?_⟩
    · simp only [PyData.weightAll, List.length_cons]; omega
    · simp only [PyData.depthAll]; omega
theorem sm_seq {ds : List PyData} (h : ∀ d ∈ ds, Sv d) (hl : ds.length ≤ 40) : Sm (.list ds) ∧ Sm (.tuple ds) := by
  obtain ⟨a, b, c, e⟩ := sv_dep h
  refine ⟨⟨by simpa [PyData.showable] using a, by simpa [PyData.leavesShort] using b, ?_, ?_⟩, ⟨by simpa [PyData.showable] using a, by simpa [PyData.leavesShort] using b, ?_, ?_⟩⟩
  · simp only [PyData.weight]; omega
  · simp only [PyData.depth]; omega
  · simp only [PyData.weight]; omega
  · simp only [PyData.depth]; omega
theorem int_len {n k : Nat} (hk : 1 ≤ k) (h : n < 10 ^ k) : (PyData.int (n : Int)).shown.length ≤ k := by
  have e : (PyData.int (n : Int)).shown = Str.ofString (Nat.repr n) := rfl
  rw [e, ofString_len]
  have e2 : (Nat.repr n).length = (Nat.toDigits 10 n).length := by simp [Nat.repr]
  rw [e2]
  exact digits10_le hk h
theorem Sv.int {i : Int} (h0 : 0 ≤ i) (h : i < 1000000000) : Sv (.int i) := by
  obtain ⟨n, rfl⟩ := Int.eq_ofNat_of_zero_le h0
  have hl : n.log2 < 64 := by
    by_cases e : n = 0
    · rw [e]; decide
    · exact (Nat.log2_lt e).2 (by omega)
  refine ⟨?_, ?_, ?_, ?_⟩
  · simp only [PyData.showable, Int.natAbs_natCast]
    exact decide_eq_true (by omega)
  · simp only [PyData.leavesShort]
    exact decide_eq_true (Nat.le_trans (int_len (k := 9) (by decide) (by omega)) (by decide))
  · simp only [PyData.weight, Int.natAbs_natCast]
    split <;> omega
  · simp [PyData.depth]
theorem dxa_len {K : PySem.W.Frag} {H : Hp} : ∀ {xs : List V} {ds : List PyData}, DxAll K H xs ds → xs.length = ds.length
  | _, _, .nil => rfl
  | _, _, .cons _ r => congrArg Nat.succ (dxa_len r)
theorem dxa_snoc {K : PySem.W.Frag} {H : Hp} : ∀ {vs : List V} {ds : List PyData} {v : V} {d : PyData}, DxAll K H vs ds → Dx K H v d → DxAll K H (vs ++ [v]) (ds ++ [d])
  | _, _, _, _, .nil, h => .cons h .nil
  | _, _, _, _, .cons a r, h => .cons a (dxa_snoc r h)
theorem dxa_set {K : PySem.W.Frag} {H : Hp} : ∀ {vs : List V} {ds : List PyData} {v : V} {d : PyData} {j : Nat}, DxAll K H vs ds → Dx K H v d → DxAll K H (vs.set j v) (ds.set j d)
  | _, _, _, _, _, .nil, _ => .nil
  | _, _, _, _, 0, .cons _ r, h => .cons h r
  | _, _, _, _, j + 1, .cons a r, h => .cons a (dxa_set r h)
theorem dxa_drop {K : PySem.W.Frag} {H : Hp} : ∀ {vs : List V} {ds : List PyData} {j : Nat}, DxAll K H vs ds → DxAll K H (vs.eraseIdx j) (ds.eraseIdx j)
  | _, _, _, .nil => .nil
  | _, _, 0, .cons _ r => r
  | _, _, j + 1, .cons a r => .cons a (dxa_drop r)
theorem dxa_app {K : PySem.W.Frag} {H : Hp} : ∀ {vs us : List V} {ds es : List PyData}, DxAll K H vs ds → DxAll K H us es → DxAll K H (vs ++ us) (ds ++ es)
  | _, _, _, _, .nil, h => h
  | _, _, _, _, .cons a r, h => .cons a (dxa_app r h)
theorem dxa_rev {K : PySem.W.Frag} {H : Hp} : ∀ {vs : List V} {ds : List PyData}, DxAll K H vs ds → DxAll K H vs.reverse ds.reverse
  | _, _, .nil => .nil
  | _, _, .cons a r => by
    rw [List.reverse_cons, List.reverse_cons]
    exact dxa_app (dxa_rev r) (.cons a .nil)
theorem Nxt.go {t : Addr} {H H1 H2 : Hp} (n : Nxt t H H1) (s : Same H1 H2) : Nxt t H H2 := by
  obtain ⟨k, o, h1, h2⟩ := n
  exact ⟨fun b u hb ne => s _ _ (k b u hb ne), o, s _ _ h1, h2⟩
theorem Nxt.put {t l : Addr} {o : HO} {H H1 : Hp} (n : Nxt t H H1) (f : H l = none) (ht : t ≠ l) : Nxt t H (L2.upd H1 l o) := by
  obtain ⟨k, o', h1, h2⟩ := n
  exact ⟨fun b u hb ne => by rw [upd_ne (fun e => by rw [e, f] at hb; cases hb)]; exact k b u hb ne, o', by rw [upd_ne ht]; exact h1, h2⟩
theorem Nxt.turn {t : Addr} {o : HO} {H H1 : Hp} (n : Nxt t H H1) (ho : IsTape o) : Nxt t H (L2.upd H1 t o) := by
  obtain ⟨k, o', h1, h2⟩ := n
  exact ⟨fun b u hb ne => by rw [upd_ne ne]; exact k b u hb ne, o, upd_same, ho⟩
theorem Nxt.trans {t : Addr} {H H1 H2 : Hp} (n : Nxt t H H1) (m : Nxt t H1 H2) : Nxt t H H2 := by
  obtain ⟨k, o', h1, h2⟩ := n
  obtain ⟨k2, o2, h3, h4⟩ := m
  exact ⟨fun b u hb ne => k2 b u (k b u hb ne) ne, o2, h3, h4⟩
end Rm

set_option maxRecDepth 100000
set_option maxHeartbeats 4000000
namespace Rm
open PySem PySem.Spec L2
open PyProof.Rows hiding St

/-! ### transactions and their parts, as plain data -/
structure PI where
  holder : Int
  outer : Option Int
  released : Option Int
  ended : Option Int
  outcome : Str
structure FS where
  done : Int
  moment : Int
  work : List Int
  states : List Str
  stacks : List (List Int)
  parts : List PI
def oI : Option Int → V
  | none => .non
  | some i => .int i

/-! ### where they stand -/
inductive Ro where
  | obj | work | states | stacks | parts
  | stack (i : Nat)
  | part (i : Nat)
  deriving DecidableEq
def Ro.ok (S : FS) : Ro → Prop
  | .stack i => i < S.stacks.length
  | .part i => i < S.parts.length
  | _ => True
def partO (C dx : Addr) (p : PI) : HO :=
  .ins C dx [("holder", .int p.holder), ("outer", oI p.outer), ("released", oI p.released), ("ended", oI p.ended), ("outcome", .str p.outcome)]
def fatesO (C dx : Addr) (S : FS) (w s k p : Addr) : List (Str × V) :=
  [("_done", .int S.done), ("_commits", .int S.moment), ("_at_work", .ref w), ("_states", .ref s), ("_stacks", .ref k), ("_all_parts", .ref p)]
/-- what stands at a place; more: what a derived class has besides -/
def cont (C CP dx : Addr) (dp : Nat → Addr) (more : List (Str × V)) (S : FS) (ad : Ro → Addr) : Ro → HO
  | .obj => .ins C dx (fatesO C dx S (ad .work) (ad .states) (ad .stacks) (ad .parts) ++ more)
  | .work => .lst (S.work.map V.int)
  | .states => .lst (S.states.map V.str)
  | .stacks => .lst ((List.range S.stacks.length).map fun i => V.ref (ad (.stack i)))
  | .parts => .lst ((List.range S.parts.length).map fun i => V.ref (ad (.part i)))
  | .stack i => .lst ((S.stacks.getD i []).map V.int)
  | .part i => match S.parts[i]? with
    | some p => partO CP (dp i) p
    | none => .lst []
structure FsAt (C CP : Addr) (more : List (Str × V)) (H : Hp) (a : Addr) (S : FS) (ad : Ro → Addr) : Prop where
  at_ : ad .obj = a
  inj : ∀ r r', r.ok S → r'.ok S → ad r = ad r' → r = r'
  ex : ∃ dx dp, ∀ r, r.ok S → H (ad r) = some (cont C CP dx dp more S ad r)
/-- the places -/
def Foot (S : FS) (ad : Ro → Addr) (b : Addr) : Prop := ∃ r, r.ok S ∧ ad r = b
/-- all else stays -/
def Fr (F : Addr → Prop) (H H' : Hp) : Prop := ∀ b u, H b = some u → ¬ F b → H' b = some u
/-- no old thing joins -/
def Grow (F F' : Addr → Prop) (H : Hp) : Prop := ∀ b, F' b → F b ∨ H b = none
def FsA (C CP : Addr) (more : List (Str × V)) (H : Hp) (a : Addr) (S : FS) (F : Addr → Prop) : Prop := ∃ ad, FsAt C CP more H a S ad ∧ ∀ b, F b ↔ Foot S ad b
theorem Fr.refl {F : Addr → Prop} {H : Hp} : Fr F H H := fun _ _ h _ => h
theorem Fr.same {F : Addr → Prop} {H H' : Hp} (s : Same H H') : Fr F H H' := fun b u h _ => s b u h
theorem Fr.trans {F F' : Addr → Prop} {H H1 H2 : Hp} (a : Fr F H H1) (g : Grow F F' H) (b : Fr F' H1 H2) : Fr F H H2 := fun c u h n =>
  b c u (a c u h n) fun z => (g c z).elim n fun e => by rw [e] at h; cases h
theorem Grow.refl {F : Addr → Prop} {H : Hp} : Grow F F H := fun _ h => .inl h
theorem Grow.trans {F F' F2 : Addr → Prop} {H H1 : Hp} (a : Grow F F' H) (fr : Fr F H H1) (b : Grow F' F2 H1) : Grow F F2 H := fun c h =>
  (b c h).elim (a c) fun e => by
    by_cases z : F c
    · exact .inl z
    · cases q : H c with
      | none => exact .inr rfl
      | some u => rw [fr c u q z] at e; cases e
section
variable {C CP : Addr} {more : List (Str × V)} {H H' : Hp} {a : Addr} {S : FS} {ad : Ro → Addr} {F G : Addr → Prop}
theorem FsAt.up (h : FsAt C CP more H a S ad) (s : ∀ r, r.ok S → H' (ad r) = H (ad r)) : FsAt C CP more H' a S ad := by
  obtain ⟨h1, h2, dx, dp, h3⟩ := h
  exact ⟨h1, h2, dx, dp, fun r hr => (s r hr).trans (h3 r hr)⟩
theorem FsAt.has (h : FsAt C CP more H a S ad) {r : Ro} (hr : r.ok S) : ∃ u, H (ad r) = some u := by
  obtain ⟨_, _, dx, dp, h3⟩ := h
  exact ⟨_, h3 r hr⟩
theorem FsA.frame (h : FsA C CP more H a S F) (fr : Fr G H H') (d : ∀ b, F b → ¬ G b) : FsA C CP more H' a S F := by
  obtain ⟨ad, h, hF⟩ := h
  refine ⟨ad, h.up fun r hr => ?_, hF⟩
  obtain ⟨u, hu⟩ := h.has hr
  rw [hu]
  exact fr _ _ hu (d _ ((hF _).mpr ⟨r, hr, rfl⟩))
theorem FsA.same (h : FsA C CP more H a S F) (s : Same H H') : FsA C CP more H' a S F := h.frame (G := fun _ => False) (Fr.same s) fun _ _ z => z
theorem FsA.on (h : FsA C CP more H a S F) : ∀ b, F b → ∃ u, H b = some u := fun b hb => by
  obtain ⟨ad, h, hF⟩ := h
  obtain ⟨r, hr, rfl⟩ := (hF b).mp hb
  exact h.has hr
/-- a write at a place leaves the others -/
theorem FsAt.off (h : FsAt C CP more H a S ad) {r r' : Ro} {o : HO} (hr : r.ok S) (hr' : r'.ok S) (ne : r' ≠ r) : upd H (ad r) o (ad r') = H (ad r') :=
  upd_ne fun e => ne (h.inj _ _ hr' hr e)
/-- a write at one place -/
theorem FsAt.put {S' : FS} (h : FsAt C CP more H a S ad) {r : Ro} {o : HO} (hr : r.ok S) (hok : ∀ r' : Ro, r'.ok S' ↔ r'.ok S)
    (ho : ∀ dx dp, (∀ r, r.ok S → H (ad r) = some (cont C CP dx dp more S ad r)) → o = cont C CP dx dp more S' ad r)
    (hs : ∀ dx dp (r' : Ro), r'.ok S → r' ≠ r → cont C CP dx dp more S' ad r' = cont C CP dx dp more S ad r') : FsAt C CP more (upd H (ad r) o) a S' ad := by
  obtain ⟨h1, h2, dx, dp, h3⟩ := id h
  refine ⟨h1, fun x y hx hy => h2 x y ((hok x).mp hx) ((hok y).mp hy), dx, dp, fun x hx => ?_⟩
  have hx := (hok x).mp hx
  by_cases e : x = r
  · subst e
    rw [upd_same, ho dx dp h3]
  · rw [h.off hr hx e, h3 x hx, hs dx dp x hx e]
/-- a new thing takes a place, another one that knows it is written -/
theorem Foot.put {S' : FS} (hok : ∀ r' : Ro, r'.ok S' ↔ r'.ok S) : ∀ b, Foot S' ad b ↔ Foot S ad b := fun b =>
  ⟨fun ⟨r, h, e⟩ => ⟨r, (hok r).mp h, e⟩, fun ⟨r, h, e⟩ => ⟨r, (hok r).mpr h, e⟩⟩
end
/-- r takes the place y -/
def moveTo (ad : Ro → Addr) (r : Ro) (y : Addr) : Ro → Addr := fun x => if x = r then y else ad x
theorem move_at {ad : Ro → Addr} {r : Ro} {y : Addr} : moveTo ad r y r = y := if_pos rfl
theorem move_off {ad : Ro → Addr} {r x : Ro} {y : Addr} (h : x ≠ r) : moveTo ad r y x = ad x := if_neg h
end Rm

set_option maxRecDepth 100000
set_option maxHeartbeats 4000000
namespace Rm
open PySem PySem.Spec L2
open PyProof.Rows hiding St

/-! ### what a class of fates has -/
structure FC (K : PySem.W.Frag) (C : Addr) : Prop where
  cls : Cls K C
  n0 : NoAttr K C "_done"
  n1 : NoAttr K C "_commits"
  n2 : NoAttr K C "_at_work"
  n3 : NoAttr K C "_states"
  n4 : NoAttr K C "_stacks"
  n5 : NoAttr K C "_all_parts"
structure PC (K : PySem.W.Frag) (C : Addr) : Prop where
  cls : Cls K C
  n0 : NoAttr K C "holder"
  n1 : NoAttr K C "outer"
  n2 : NoAttr K C "released"
  n3 : NoAttr K C "ended"
  n4 : NoAttr K C "outcome"
/-! ### errors -/
inductive Ek where
  | ut | en | pr | fp | so | tm | up
  deriving DecidableEq
structure EA where
  ut : Addr
  en : Addr
  pr : Addr
  fp : Addr
  so : Addr
  tm : Addr
  up : Addr
def EA.c (A : EA) : Ek → Addr
  | .ut => A.ut | .en => A.en | .pr => A.pr | .fp => A.fp | .so => A.so | .tm => A.tm | .up => A.up
def Ek.f : Ek → Str
  | .ut => "value" | .en => "number" | .pr => "number" | .fp => "number" | .so => "number" | .tm => "limit" | .up => "value"
/-- the error k with what it keeps goes out -/
def Out (A : EA) (E : XK) (H : Hp) (k : Ek) (x : V) : Prop := ∀ e, H e = none → E (.ref (A.c k)) (some e) (upd H e (.xd [(k.f, x)]))
/-! ### what is asked of a number -/
def FS.st (S : FS) : PyData → Str
  | .int i => S.states.getD (i - 1).toNat ""
  | _ => ""
def FS.kn (S : FS) (d : PyData) : Option Ek := if isW 1 S.states.length d then none else some .ut
def FS.ru (S : FS) (d : PyData) : Option Ek := match S.kn d with
  | some k => some k
  | none => if S.st d = "committed" ∨ S.st d = "aborted" then some .en else none
def FS.fr (S : FS) (d : PyData) : Option Ek := match S.ru d with
  | some k => some k
  | none => if S.st d = "prepared" then some .pr else none
theorem isW_int {lo hi : Int} {d : PyData} (h : isW lo hi d = true) : ∃ i, d = .int i ∧ lo ≤ i ∧ i ≤ hi := by
  cases d with
  | int i =>
    unfold isW at h
    rw [Bool.and_eq_true] at h
    exact ⟨i, rfl, of_decide_eq_true h.1, of_decide_eq_true h.2⟩
  | _ => cases h
theorem FS.kn_none {S : FS} {d : PyData} (h : S.kn d = none) : ∃ i : Nat, d = .int ((i : Int) + 1) ∧ i < S.states.length := by
  unfold FS.kn at h
  split at h
  · rename_i e
    obtain ⟨i, rfl, h1, h2⟩ := isW_int e
    obtain ⟨n, hn⟩ := Int.eq_ofNat_of_zero_le (show 0 ≤ i - 1 by omega)
    refine ⟨n, ?_, by omega⟩
    congr 1
    omega
  · cases h
theorem FS.ru_none {S : FS} {d : PyData} (h : S.ru d = none) : S.kn d = none ∧ ¬ (S.st d = "committed" ∨ S.st d = "aborted") := by
  unfold FS.ru at h
  split at h
  · cases h
  · rename_i e
    refine ⟨e, ?_⟩
    split at h
    · cases h
    · assumption
theorem FS.fr_none {S : FS} {d : PyData} (h : S.fr d = none) : S.ru d = none ∧ ¬ S.st d = "prepared" := by
  unfold FS.fr at h
  split at h
  · cases h
  · rename_i e
    refine ⟨e, ?_⟩
    split at h
    · cases h
    · assumption
theorem FS.st_at {S : FS} {i : Nat} (h : i < S.states.length) : S.states[i]? = some (S.st (.int ((i : Int) + 1))) := by
  unfold FS.st
  simp only [Int.add_sub_cancel, Int.toNat_natCast]
  rw [List.getD_eq_getElem?_getD, List.getElem?_eq_getElem h]
  rfl
theorem st_atI {S : FS} {i : Nat} (h : i < S.states.length) : atI (S.states.map V.str) ((i : Int) + 1 - 1) = some (.str (S.st (.int ((i : Int) + 1)))) := by
  rw [Int.add_sub_cancel]
  exact atI_nat (by rw [List.getElem?_map, FS.st_at h]; rfl)
section
variable {C CP : Addr} {more : List (Str × V)} {H H' : Hp} {a : Addr} {S : FS} {ad : Ro → Addr} {F G : Addr → Prop}
/-- the object and its lists -/
structure Look (C : Addr) (more : List (Str × V)) (H : Hp) (a : Addr) (S : FS) (ad : Ro → Addr) (dx : Addr) : Prop where
  o : H a = some (.ins C dx (fatesO C dx S (ad .work) (ad .states) (ad .stacks) (ad .parts) ++ more))
  w : H (ad .work) = some (.lst (S.work.map V.int))
  s : H (ad .states) = some (.lst (S.states.map V.str))
  k : H (ad .stacks) = some (.lst ((List.range S.stacks.length).map fun i => V.ref (ad (.stack i))))
  p : H (ad .parts) = some (.lst ((List.range S.parts.length).map fun i => V.ref (ad (.part i))))
theorem FsAt.look (h : FsAt C CP more H a S ad) : ∃ dx, Look C more H a S ad dx := by
  obtain ⟨h1, h2, dx, dp, h3⟩ := h
  refine ⟨dx, ?_, h3 .work trivial, h3 .states trivial, h3 .stacks trivial, h3 .parts trivial⟩
  rw [← h1]
  exact h3 .obj trivial
theorem FsAt.stk (h : FsAt C CP more H a S ad) {i : Nat} {l : List Int} (hi : S.stacks[i]? = some l) : H (ad (.stack i)) = some (.lst (l.map V.int)) := by
  obtain ⟨h1, h2, dx, dp, h3⟩ := h
  have hl := (List.getElem?_eq_some_iff.mp hi).1
  rw [h3 (.stack i) hl]
  show some (HO.lst ((S.stacks.getD i []).map V.int)) = _
  rw [List.getD_eq_getElem?_getD, hi]
  rfl
theorem FsAt.prt (h : FsAt C CP more H a S ad) {i : Nat} {p : PI} (hi : S.parts[i]? = some p) : ∃ dx, H (ad (.part i)) = some (partO CP dx p) := by
  obtain ⟨h1, h2, dx, dp, h3⟩ := h
  have hl := (List.getElem?_eq_some_iff.mp hi).1
  refine ⟨dp i, ?_⟩
  rw [h3 (.part i) hl]
  show some (match S.parts[i]? with | some p => partO CP (dp i) p | none => .lst []) = _
  rw [hi]
theorem refs_at {n i : Nat} {f : Nat → Addr} (h : i < n) : ((List.range n).map fun i => V.ref (f i))[i]? = some (.ref (f i)) := by
  rw [List.getElem?_map, List.getElem?_range h]
  rfl
end
end Rm
namespace Rm
open PySem PySem.Spec L2
open PyProof.Rows hiding St
def spWi (K : PySem.W.Frag) : Sp := fun vs H Q _ => ∃ x d lo hi, vs = [x, .int lo, .int hi] ∧ Dx K H x d ∧ Q (.bl (isW lo hi d)) H
def FS.cnt (S : FS) : FS := { S with done := S.done + 1 }
def spCnt (C CP : Addr) (more : List (Str × V)) : Sp := fun vs H Q _ => ∃ a S F, vs = [.ref a] ∧ FsA C CP more H a S F ∧ ∀ H', FsA C CP more H' a S.cnt F → (∀ ad, FsAt C CP more H a S ad → FsAt C CP more H' a S.cnt ad) → Fr F H H' → Q .non H'
/-- a number is asked: in order, or an error goes out -/
def spAsk (K : PySem.W.Frag) (C CP : Addr) (more : List (Str × V)) (EE : EA) (g : FS → PyData → Option Ek) : Sp := fun vs H Q E => ∃ a x d S F, vs = [.ref a, x] ∧ FsA C CP more H a S F ∧ Dx K H x d ∧
  S.states.length ≤ 1000 ∧ (g S d = none → ∀ H', Same H H' → Q .non H') ∧ ∀ k, g S d = some k → ∀ H', Same H H' → Out EE E H' k x
theorem s_ne {a b : Str} (h : ¬ a = b) : (a = b) = False := eq_false h
end Rm

set_option maxRecDepth 100000
set_option maxHeartbeats 4000000
namespace Rm
open PySem PySem.Spec L2
open PyProof.Rows hiding St

section
variable {C CP : Addr} {more : List (Str × V)} {H H' : Hp} {a : Addr} {S S' : FS} {ad : Ro → Addr} {F G : Addr → Prop}
theorem Fr.put {p : Addr} {o : HO} (h : F p) : Fr F H (upd H p o) := fun b u hb n => by
  rw [upd_ne (fun e => n (by rw [e]; exact h))]
  exact hb
theorem Fr.new {p : Addr} {o : HO} (h : H p = none) : Fr F H (upd H p o) := Fr.same (same_new h)
theorem FsAt.foot (h : FsAt C CP more H a S ad) (hF : ∀ b, F b ↔ Foot S ad b) {r : Ro} (hr : r.ok S) : F (ad r) := (hF _).mpr ⟨r, hr, rfl⟩
/-- the object is written anew -/
theorem FsAt.setO {dx : Addr} {fs : List (Str × V)} (h : FsAt C CP more H a S ad) (lk : Look C more H a S ad dx) (ef : fs = fatesO C dx S' (ad .work) (ad .states) (ad .stacks) (ad .parts) ++ more)
    (e1 : S'.work = S.work) (e2 : S'.states = S.states) (e3 : S'.stacks = S.stacks) (e4 : S'.parts = S.parts) : FsAt C CP more (upd H a (.ins C dx fs)) a S' ad := by
  have at_ := h.at_
  obtain ⟨h1, h2, dx0, dp, h3⟩ := id h
  have hok : ∀ r' : Ro, r'.ok S' ↔ r'.ok S := fun r' => by cases r' <;> simp [Ro.ok, e3, e4]
  refine ⟨h1, fun x y hx hy => h2 x y ((hok x).mp hx) ((hok y).mp hy), dx, dp, fun x hx => ?_⟩
  have hx := (hok x).mp hx
  subst at_
  by_cases e : x = .obj
  · subst e
    rw [upd_same, ef]
    rfl
  · rw [h.off (r := .obj) trivial hx e, h3 x hx]
    cases x <;> first | exact absurd rfl e | simp [cont, e1, e2, e3, e4]
theorem FsA.ofO {dx : Addr} {fs : List (Str × V)} (h : FsAt C CP more H a S ad) (hF : ∀ b, F b ↔ Foot S ad b) (lk : Look C more H a S ad dx) (ef : fs = fatesO C dx S' (ad .work) (ad .states) (ad .stacks) (ad .parts) ++ more)
    (e1 : S'.work = S.work) (e2 : S'.states = S.states) (e3 : S'.stacks = S.stacks) (e4 : S'.parts = S.parts) : FsA C CP more (upd H a (.ins C dx fs)) a S' F ∧ Fr F H (upd H a (.ins C dx fs)) := by
  have hok : ∀ r' : Ro, r'.ok S' ↔ r'.ok S := fun r' => by cases r' <;> simp [Ro.ok, e3, e4]
  refine ⟨⟨ad, h.setO lk ef e1 e2 e3 e4, fun b => (hF b).trans (Foot.put hok b).symm⟩, Fr.put ?_⟩
  rw [← h.at_]
  exact h.foot hF (r := .obj) trivial
theorem FsA.ofPut {r : Ro} {o : HO} (h : FsAt C CP more H a S ad) (hF : ∀ b, F b ↔ Foot S ad b) (hr : r.ok S) (hok : ∀ r' : Ro, r'.ok S' ↔ r'.ok S)
    (ho : ∀ dx dp, (∀ r, r.ok S → H (ad r) = some (cont C CP dx dp more S ad r)) → o = cont C CP dx dp more S' ad r)
    (hs : ∀ dx dp (r' : Ro), r'.ok S → r' ≠ r → cont C CP dx dp more S' ad r' = cont C CP dx dp more S ad r') : FsA C CP more (upd H (ad r) o) a S' F ∧ Fr F H (upd H (ad r) o) :=
  ⟨⟨ad, h.put hr hok ho hs, fun b => (hF b).trans (Foot.put hok b).symm⟩, Fr.put (h.foot hF hr)⟩
theorem FsA.setWork {ws : List Int} (h : FsAt C CP more H a S ad) (hF : ∀ b, F b ↔ Foot S ad b) :
    FsA C CP more (upd H (ad .work) (.lst (ws.map V.int))) a { S with work := ws } F ∧ Fr F H (upd H (ad .work) (.lst (ws.map V.int))) :=
  FsA.ofPut h hF (r := .work) trivial (fun r' => by cases r' <;> exact Iff.rfl) (fun _ _ _ => rfl) fun dx dp r' _ ne => by cases r' <;> first | exact absurd rfl ne | rfl
theorem FsA.setStates {zs : List Str} (h : FsAt C CP more H a S ad) (hF : ∀ b, F b ↔ Foot S ad b) :
    FsA C CP more (upd H (ad .states) (.lst (zs.map V.str))) a { S with states := zs } F ∧ Fr F H (upd H (ad .states) (.lst (zs.map V.str))) :=
  FsA.ofPut h hF (r := .states) trivial (fun r' => by cases r' <;> exact Iff.rfl) (fun _ _ _ => rfl) fun dx dp r' _ ne => by cases r' <;> first | exact absurd rfl ne | rfl
theorem FsA.setStack {i : Nat} {l : List Int} (h : FsAt C CP more H a S ad) (hF : ∀ b, F b ↔ Foot S ad b) (hi : i < S.stacks.length) :
    FsA C CP more (upd H (ad (.stack i)) (.lst (l.map V.int))) a { S with stacks := S.stacks.set i l } F ∧ Fr F H (upd H (ad (.stack i)) (.lst (l.map V.int))) := by
  refine FsA.ofPut h hF (r := .stack i) hi (fun r' => by cases r' <;> simp [Ro.ok]) (fun _ _ _ => ?_) fun dx dp r' hr ne => ?_
  · show _ = HO.lst (((S.stacks.set i l).getD i []).map V.int)
    rw [List.getD_eq_getElem?_getD, List.getElem?_set_self hi]
    rfl
  · cases r' with
    | stack j =>
      have nj : i ≠ j := fun e => ne (by rw [e])
      show HO.lst (((S.stacks.set i l).getD j []).map V.int) = HO.lst ((S.stacks.getD j []).map V.int)
      rw [List.getD_eq_getElem?_getD, List.getElem?_set_ne nj, ← List.getD_eq_getElem?_getD]
    | stacks =>
      show HO.lst ((List.range (S.stacks.set i l).length).map _) = _
      rw [List.length_set]
      rfl
    | _ => rfl
theorem FsA.setPart {i : Nat} {p : PI} (h : FsAt C CP more H a S ad) (hF : ∀ b, F b ↔ Foot S ad b) (hi : i < S.parts.length) {dx : Addr} (hd : ∃ p0, H (ad (.part i)) = some (partO CP dx p0)) :
    FsA C CP more (upd H (ad (.part i)) (partO CP dx p)) a { S with parts := S.parts.set i p } F ∧ Fr F H (upd H (ad (.part i)) (partO CP dx p)) := by
  refine FsA.ofPut h hF (r := .part i) hi (fun r' => by cases r' <;> simp [Ro.ok]) (fun dx0 dp h3 => ?_) fun dx dp r' hr ne => ?_
  · show _ = (match (S.parts.set i p)[i]? with | some p => partO CP (dp i) p | none => HO.lst [])
    rw [List.getElem?_set_self hi]
    obtain ⟨p0, hd⟩ := hd
    have e := h3 (.part i) hi
    rw [hd] at e
    have e2 : partO CP dx p0 = (match S.parts[i]? with | some p => partO CP (dp i) p | none => HO.lst []) := Option.some.inj e
    rw [List.getElem?_eq_getElem hi] at e2
    have e3 : dx = dp i := by
      simp only [partO, HO.ins.injEq] at e2
      exact e2.2.1
    rw [e3]
  · cases r' with
    | part j =>
      have nj : i ≠ j := fun e => ne (by rw [e])
      show (match (S.parts.set i p)[j]? with | some p => partO CP (dp j) p | none => HO.lst []) = (match S.parts[j]? with | some p => partO CP (dp j) p | none => HO.lst [])
      rw [List.getElem?_set_ne nj]
    | parts =>
      show HO.lst ((List.range (S.parts.set i p).length).map _) = _
      rw [List.length_set]
      rfl
    | _ => rfl
/-- a fresh thing at y takes the place r0 -/
def With (F : Addr → Prop) (y : Addr) (b : Addr) : Prop := F b ∨ b = y
theorem Grow.add {y : Addr} (hy : H y = none) : Grow F (With F y) H := fun b h => h.elim .inl fun e => .inr (by rw [e]; exact hy)
theorem move_refs {n i : Nat} {y : Addr} (hi : n ≤ i) : ((List.range n).map fun j => V.ref (moveTo ad (.stack i) y (.stack j))) = (List.range n).map fun j => V.ref (ad (.stack j)) := by
  apply List.map_congr_left
  intro j hj
  rw [move_off (fun e => by
    have : j = i := by simpa using e
    have := List.mem_range.mp hj
    omega)]
theorem move_refp {n i : Nat} {y : Addr} (hi : n ≤ i) : ((List.range n).map fun j => V.ref (moveTo ad (.part i) y (.part j))) = (List.range n).map fun j => V.ref (ad (.part j)) := by
  apply List.map_congr_left
  intro j hj
  rw [move_off (fun e => by
    have : j = i := by simpa using e
    have := List.mem_range.mp hj
    omega)]
/-- one stack more: y is new, then the list of stacks takes it -/
theorem FsA.addStack {y : Addr} {l : List Int} (h : FsAt C CP more H a S ad) (hF : ∀ b, F b ↔ Foot S ad b) (hy : H y = none) :
    FsA C CP more (upd (upd H y (.lst (l.map V.int))) (ad .stacks) (.lst (((List.range S.stacks.length).map fun i => V.ref (ad (.stack i))) ++ [.ref y]))) a { S with stacks := S.stacks ++ [l] } (With F y) ∧
      Fr F H (upd (upd H y (.lst (l.map V.int))) (ad .stacks) (.lst (((List.range S.stacks.length).map fun i => V.ref (ad (.stack i))) ++ [.ref y]))) := by
  obtain ⟨h1, h2, dx, dp, h3⟩ := id h
  have ny : ∀ {r : Ro}, r.ok S → ad r ≠ y := fun hr e => by
    obtain ⟨u, hu⟩ := h.has hr
    rw [e, hy] at hu
    cases hu
  have mv : ∀ {r : Ro}, r.ok S → moveTo ad (.stack S.stacks.length) y r = ad r := fun {r} hr => move_off (fun e => by
    rw [e] at hr
    exact Nat.lt_irrefl _ hr)
  have okd : ∀ {r : Ro}, r.ok { S with stacks := S.stacks ++ [l] } → r.ok S ∨ r = .stack S.stacks.length := fun {r} hr => by
    cases r with
    | stack i =>
      have hi : i < (S.stacks ++ [l]).length := hr
      rw [List.length_append] at hi
      by_cases e : i = S.stacks.length
      · exact .inr (by rw [e])
      · exact .inl (show i < S.stacks.length by simp at hi; omega)
    | part i => exact .inl hr
    | _ => exact .inl trivial
  have oku : ∀ {r : Ro}, r.ok S → r.ok { S with stacks := S.stacks ++ [l] } := fun {r} hr => by
    cases r with
    | stack i =>
      have hi : i < S.stacks.length := hr
      exact (show i < (S.stacks ++ [l]).length by rw [List.length_append]; omega)
    | part i => exact hr
    | _ => exact trivial
  refine ⟨⟨moveTo ad (.stack S.stacks.length) y, ⟨by rw [mv (r := .obj) trivial]; exact h1, fun r r' hr hr' e => ?_, dx, dp, fun r hr => ?_⟩, fun b => ?_⟩, ?_⟩
  · rcases okd hr with hr | rfl
    · rcases okd hr' with hr' | rfl
      · rw [mv hr, mv hr'] at e
        exact h2 _ _ hr hr' e
      · rw [mv hr, move_at] at e
        exact absurd e (ny hr)
    · rcases okd hr' with hr' | rfl
      · rw [mv hr', move_at] at e
        exact absurd e.symm (ny hr')
      · rfl
  · rcases okd hr with hr | rfl
    · rw [mv hr]
      by_cases e : r = .stacks
      · subst e
        rw [upd_same]
        show _ = some (HO.lst ((List.range (S.stacks ++ [l]).length).map fun j => V.ref (moveTo ad (.stack S.stacks.length) y (.stack j))))
        rw [List.length_append, show [l].length = 1 from rfl, List.range_succ, List.map_append, move_refs (Nat.le_refl _), List.map_cons, List.map_nil, move_at]
      · have off := h.off (o := .lst (((List.range S.stacks.length).map fun i => V.ref (ad (.stack i))) ++ [.ref y])) (r := .stacks) trivial hr e
        rw [upd_ne (fun z => e (h2 _ _ hr trivial z)), upd_ne (ny hr), h3 r hr]
        cases r with
        | obj =>
          show some (HO.ins C dx (fatesO C dx S (ad .work) (ad .states) (ad .stacks) (ad .parts) ++ more)) = some (HO.ins C dx (fatesO C dx _ (moveTo ad (.stack S.stacks.length) y .work) (moveTo ad (.stack S.stacks.length) y .states) (moveTo ad (.stack S.stacks.length) y .stacks) (moveTo ad (.stack S.stacks.length) y .parts) ++ more))
          rw [mv (r := .work) trivial, mv (r := .states) trivial, mv (r := .stacks) trivial, mv (r := .parts) trivial]
          rfl
        | stack i =>
          have hi : i < S.stacks.length := hr
          show some (HO.lst ((S.stacks.getD i []).map V.int)) = some (HO.lst (((S.stacks ++ [l]).getD i []).map V.int))
          rw [List.getD_eq_getElem?_getD, List.getD_eq_getElem?_getD, List.getElem?_append_left hi]
        | parts =>
          show some (HO.lst _) = some (HO.lst ((List.range S.parts.length).map fun j => V.ref (moveTo ad (.stack S.stacks.length) y (.part j))))
          congr 2
        | stacks => exact absurd rfl e
        | _ => rfl
    · rw [move_at, upd_ne (fun e => ny (r := .stacks) trivial e.symm), upd_same]
      show _ = some (HO.lst (((S.stacks ++ [l]).getD S.stacks.length []).map V.int))
      rw [List.getD_eq_getElem?_getD, List.getElem?_append_right (Nat.le_refl _)]
      simp
  · constructor
    · rintro (hb | rfl)
      · obtain ⟨r, hr, rfl⟩ := (hF b).mp hb
        exact ⟨r, oku hr, mv hr⟩
      · exact ⟨.stack S.stacks.length, (show S.stacks.length < (S.stacks ++ [l]).length by rw [List.length_append]; exact Nat.lt_succ_self _), move_at⟩
    · rintro ⟨r, hr, rfl⟩
      rcases okd hr with hr | rfl
      · rw [mv hr]
        exact .inl (h.foot hF hr)
      · exact .inr move_at
  · intro b u hb n
    have n1 : b ≠ ad .stacks := fun e => n (by rw [e]; exact h.foot hF (r := .stacks) trivial)
    rw [upd_ne n1, upd_ne (fun e => by rw [e, hy] at hb; cases hb)]
    exact hb
end
end Rm

set_option maxRecDepth 100000
set_option maxHeartbeats 4000000
namespace Rm
open PySem PySem.Spec L2
open PyProof.Rows hiding St

section
variable {C CP : Addr} {more : List (Str × V)} {H H1 : Hp} {a : Addr} {S : FS} {ad : Ro → Addr} {F : Addr → Prop}
/-- one part more: y is new, then the list of parts takes it -/
theorem FsA.addPart {y dy : Addr} {p : PI} (h : FsAt C CP more H a S ad) (hF : ∀ b, F b ↔ Foot S ad b) (s : Same H H1) (hy : H y = none) (hv : H1 y = some (partO CP dy p)) :
    FsA C CP more (upd H1 (ad .parts) (.lst (((List.range S.parts.length).map fun i => V.ref (ad (.part i))) ++ [.ref y]))) a { S with parts := S.parts ++ [p] } (With F y) ∧
      Fr F H (upd H1 (ad .parts) (.lst (((List.range S.parts.length).map fun i => V.ref (ad (.part i))) ++ [.ref y]))) := by
  obtain ⟨h1, h2, dx, dp, h3⟩ := id h
  have ny : ∀ {r : Ro}, r.ok S → ad r ≠ y := fun hr e => by
    obtain ⟨u, hu⟩ := h.has hr
    rw [e, hy] at hu
    cases hu
  have mv : ∀ {r : Ro}, r.ok S → moveTo ad (.part S.parts.length) y r = ad r := fun {r} hr => move_off (fun e => by
    rw [e] at hr
    exact Nat.lt_irrefl _ hr)
  have okd : ∀ {r : Ro}, r.ok { S with parts := S.parts ++ [p] } → r.ok S ∨ r = .part S.parts.length := fun {r} hr => by
    cases r with
    | part i =>
      have hi : i < (S.parts ++ [p]).length := hr
      rw [List.length_append] at hi
      by_cases e : i = S.parts.length
      · exact .inr (by rw [e])
      · exact .inl (show i < S.parts.length by simp at hi; omega)
    | stack i => exact .inl hr
    | _ => exact .inl trivial
  have oku : ∀ {r : Ro}, r.ok S → r.ok { S with parts := S.parts ++ [p] } := fun {r} hr => by
    cases r with
    | part i =>
      have hi : i < S.parts.length := hr
      exact (show i < (S.parts ++ [p]).length by rw [List.length_append]; omega)
    | stack i => exact hr
    | _ => exact trivial
  refine ⟨⟨moveTo ad (.part S.parts.length) y, ⟨by rw [mv (r := .obj) trivial]; exact h1, fun r r' hr hr' e => ?_, dx, (fun i => if i = S.parts.length then dy else dp i), fun r hr => ?_⟩, fun b => ?_⟩, ?_⟩
  · rcases okd hr with hr | rfl
    · rcases okd hr' with hr' | rfl
      · rw [mv hr, mv hr'] at e
        exact h2 _ _ hr hr' e
      · rw [mv hr, move_at] at e
        exact absurd e (ny hr)
    · rcases okd hr' with hr' | rfl
      · rw [mv hr', move_at] at e
        exact absurd e.symm (ny hr')
      · rfl
  · rcases okd hr with hr | rfl
    · rw [mv hr]
      by_cases e : r = .parts
      · subst e
        rw [upd_same]
        show _ = some (HO.lst ((List.range (S.parts ++ [p]).length).map fun j => V.ref (moveTo ad (.part S.parts.length) y (.part j))))
        rw [List.length_append, show [p].length = 1 from rfl, List.range_succ, List.map_append, move_refp (Nat.le_refl _), List.map_cons, List.map_nil, move_at]
      · rw [upd_ne (fun z => e (h2 _ _ hr trivial z)), s _ _ (h3 r hr)]
        cases r with
        | obj =>
          show some (HO.ins C dx (fatesO C dx S (ad .work) (ad .states) (ad .stacks) (ad .parts) ++ more)) = some (HO.ins C dx (fatesO C dx _ (moveTo ad (.part S.parts.length) y .work) (moveTo ad (.part S.parts.length) y .states) (moveTo ad (.part S.parts.length) y .stacks) (moveTo ad (.part S.parts.length) y .parts) ++ more))
          rw [mv (r := .work) trivial, mv (r := .states) trivial, mv (r := .stacks) trivial, mv (r := .parts) trivial]
          rfl
        | part i =>
          have hi : i < S.parts.length := hr
          show some (match S.parts[i]? with | some p => partO CP (dp i) p | none => HO.lst []) = some (match (S.parts ++ [p])[i]? with | some p => partO CP (if i = S.parts.length then dy else dp i) p | none => HO.lst [])
          rw [List.getElem?_append_left hi, if_neg (by omega)]
        | stacks =>
          show some (HO.lst _) = some (HO.lst ((List.range S.stacks.length).map fun j => V.ref (moveTo ad (.part S.parts.length) y (.stack j))))
          congr 2
        | parts => exact absurd rfl e
        | _ => rfl
    · rw [move_at, upd_ne (fun e => ny (r := .parts) trivial e.symm), hv]
      show _ = some (match (S.parts ++ [p])[S.parts.length]? with | some q => partO CP (if S.parts.length = S.parts.length then dy else dp S.parts.length) q | none => HO.lst [])
      rw [List.getElem?_append_right (Nat.le_refl _), if_pos rfl]
      simp
  · constructor
    · rintro (hb | rfl)
      · obtain ⟨r, hr, rfl⟩ := (hF b).mp hb
        exact ⟨r, oku hr, mv hr⟩
      · exact ⟨.part S.parts.length, (show S.parts.length < (S.parts ++ [p]).length by rw [List.length_append]; exact Nat.lt_succ_self _), move_at⟩
    · rintro ⟨r, hr, rfl⟩
      rcases okd hr with hr | rfl
      · rw [mv hr]
        exact .inl (h.foot hF hr)
      · exact .inr move_at
  · intro b u hb n
    have n1 : b ≠ ad .parts := fun e => n (by rw [e]; exact h.foot hF (r := .parts) trivial)
    rw [upd_ne n1]
    exact s _ _ hb
/-- a new stack stands for an old one -/
theorem FsA.newStack {y : Addr} {l : List Int} {i : Nat} (h : FsAt C CP more H a S ad) (hF : ∀ b, F b ↔ Foot S ad b) (hy : H y = none) (hi : i < S.stacks.length) :
    FsA C CP more (upd (upd H y (.lst (l.map V.int))) (ad .stacks) (.lst (((List.range S.stacks.length).map fun i => V.ref (ad (.stack i))).set i (.ref y)))) a { S with stacks := S.stacks.set i l } (fun b => With F y b ∧ b ≠ ad (.stack i)) ∧
      Fr F H (upd (upd H y (.lst (l.map V.int))) (ad .stacks) (.lst (((List.range S.stacks.length).map fun i => V.ref (ad (.stack i))).set i (.ref y)))) := by
  obtain ⟨h1, h2, dx, dp, h3⟩ := id h
  have ny : ∀ {r : Ro}, r.ok S → ad r ≠ y := fun hr e => by
    obtain ⟨u, hu⟩ := h.has hr
    rw [e, hy] at hu
    cases hu
  have oks : ∀ {r : Ro}, r.ok { S with stacks := S.stacks.set i l } ↔ r.ok S := fun {r} => by cases r <;> simp [Ro.ok]
  have mv : ∀ {r : Ro}, r ≠ .stack i → moveTo ad (.stack i) y r = ad r := fun e => move_off e
  have si : Ro.ok S (.stack i) := hi
  refine ⟨⟨moveTo ad (.stack i) y, ⟨by rw [mv (r := .obj) (by simp)]; exact h1, fun r r' hr hr' e => ?_, dx, dp, fun r hr => ?_⟩, fun b => ?_⟩, ?_⟩
  · have hr := oks.mp hr
    have hr' := oks.mp hr'
    by_cases q : r = .stack i
    · by_cases q' : r' = .stack i
      · rw [q, q']
      · rw [q, move_at, mv q'] at e
        exact absurd e.symm (ny hr')
    · by_cases q' : r' = .stack i
      · rw [q', move_at, mv q] at e
        exact absurd e (ny hr)
      · rw [mv q, mv q'] at e
        exact h2 _ _ hr hr' e
  · have hr := oks.mp hr
    by_cases q : r = .stack i
    · subst q
      rw [move_at, upd_ne (fun e => ny (r := .stacks) trivial e.symm), upd_same]
      show _ = some (HO.lst (((S.stacks.set i l).getD i []).map V.int))
      rw [List.getD_eq_getElem?_getD, List.getElem?_set_self hi]
      rfl
    · rw [mv q]
      by_cases e : r = .stacks
      · subst e
        rw [upd_same]
        show _ = some (HO.lst ((List.range (S.stacks.set i l).length).map fun j => V.ref (moveTo ad (.stack i) y (.stack j))))
        congr 2
        apply List.ext_getElem?
        intro j
        rw [List.length_set, List.getElem?_map]
        by_cases jl : j < S.stacks.length
        · rw [List.getElem?_range jl]
          by_cases ij : i = j
          · subst ij
            rw [List.getElem?_set_self (by simpa using jl)]
            show _ = some (V.ref (moveTo ad (.stack i) y (.stack i)))
            rw [move_at]
          · rw [List.getElem?_set_ne ij, refs_at jl]
            show _ = some (V.ref (moveTo ad (.stack i) y (.stack j)))
            rw [mv (fun e => ij (by simpa using e.symm))]
        · rw [List.getElem?_eq_none (by simp; omega), List.getElem?_eq_none (by simp; omega)]
          rfl
      · rw [upd_ne (fun z => e (h2 _ _ hr trivial z)), upd_ne (ny hr), h3 r hr]
        cases r with
        | obj =>
          show some (HO.ins C dx (fatesO C dx S (ad .work) (ad .states) (ad .stacks) (ad .parts) ++ more)) = some (HO.ins C dx (fatesO C dx _ (moveTo ad (.stack i) y .work) (moveTo ad (.stack i) y .states) (moveTo ad (.stack i) y .stacks) (moveTo ad (.stack i) y .parts) ++ more))
          rw [mv (r := .work) (by simp), mv (r := .states) (by simp), mv (r := .stacks) (by simp), mv (r := .parts) (by simp)]
          rfl
        | stack j =>
          have ij : i ≠ j := fun e => q (by rw [e])
          show some (HO.lst ((S.stacks.getD j []).map V.int)) = some (HO.lst (((S.stacks.set i l).getD j []).map V.int))
          rw [List.getD_eq_getElem?_getD, List.getD_eq_getElem?_getD, List.getElem?_set_ne ij]
        | parts =>
          show some (HO.lst _) = some (HO.lst ((List.range S.parts.length).map fun j => V.ref (moveTo ad (.stack i) y (.part j))))
          congr 2
        | stacks => exact absurd rfl e
        | _ => rfl
  · constructor
    · rintro ⟨hb | rfl, n⟩
      · obtain ⟨r, hr, rfl⟩ := (hF b).mp hb
        exact ⟨r, oks.mpr hr, mv (fun e => n (by rw [e]))⟩
      · exact ⟨.stack i, oks.mpr si, move_at⟩
    · rintro ⟨r, hr, rfl⟩
      have hr := oks.mp hr
      by_cases q : r = .stack i
      · rw [q, move_at]
        exact ⟨.inr rfl, fun e => ny si e.symm⟩
      · rw [mv q]
        exact ⟨.inl (h.foot hF hr), fun e => q (h2 _ _ hr si e)⟩
  · intro b u hb n
    have n1 : b ≠ ad .stacks := fun e => n (by rw [e]; exact h.foot hF (r := .stacks) trivial)
    rw [upd_ne n1, upd_ne (fun e => by rw [e, hy] at hb; cases hb)]
    exact hb
/-! ### fields -/
theorem put_done {dx w s k p : Addr} {i : Int} : putF "_done" (.int i) (fatesO C dx S w s k p ++ more) = fatesO C dx { S with done := i } w s k p ++ more := by
  simp [fatesO, putF]
theorem put_commits {dx w s k p : Addr} {i : Int} : putF "_commits" (.int i) (fatesO C dx S w s k p ++ more) = fatesO C dx { S with moment := i } w s k p ++ more := by
  simp [fatesO, putF, show ¬ (("_done" : Str) = "_commits") by decide +kernel]
end
end Rm
namespace Rm
open PySem PySem.Spec L2
open PyProof.Rows hiding St
/-- the methods' names -/
def FMeth : List Str := ["begin", "save", "release", "back", "prepare", "commit", "abort", "crash", "operations", "moment", "running", "state", "parts", "root", "owner", "fate", "transaction", "around", "joined_at", "ended_at", "is_transaction", "is_part",
  "_count_operation", "_check_known", "_check_running", "_check_free", "_check_part", "_open_part", "_take_innermost", "_end_part", "_end_transaction"]
/-- what a derived class has besides is no method -/
structure MO (more : List (Str × V)) : Prop where
  len : more.length < 900
  no : ∀ m ∈ FMeth, more.lookup m = none
theorem fmeth_six : ∀ m ∈ FMeth, (m == ("_done" : Str)) = false ∧ (m == ("_commits" : Str)) = false ∧ (m == ("_at_work" : Str)) = false ∧ (m == ("_states" : Str)) = false ∧ (m == ("_stacks" : Str)) = false ∧ (m == ("_all_parts" : Str)) = false := by decide +kernel
theorem MO.free {more : List (Str × V)} (mo : MO more) {m : Str} (hm : m ∈ FMeth) {C dx w s k p : Addr} {S : FS} : (fatesO C dx S w s k p ++ more).lookup m = none := by
  obtain ⟨h1, h2, h3, h4, h5, h6⟩ := fmeth_six m hm
  simp only [fatesO, List.cons_append, List.nil_append, List.lookup_cons, h1, h2, h3, h4, h5, h6]
  exact mo.no m hm
theorem MO.size {more : List (Str × V)} (mo : MO more) {C dx w s k p : Addr} {S : FS} : (fatesO C dx S w s k p ++ more).length < 1000 := by
  have := mo.len
  simp [fatesO]
  omega
end Rm
namespace Rm
open PySem PySem.Spec L2
open PyProof.Rows hiding St
/-- a part is opened -/
def FS.opn (S : FS) (i : Nat) (o : Option Int) : FS :=
  { S with parts := S.parts ++ [⟨(i : Int) + 1, o, none, none, "open"⟩], stacks := S.stacks.set i (S.stacks.getD i [] ++ [(S.parts.length : Int) + 1]) }
def spPartI (CP : Addr) : Sp := fun vs H Q _ => ∃ q dx n o, vs = [.ref q, .int n, oI o] ∧ H q = some (.ins CP dx []) ∧ Q .non (upd H q (partO CP dx ⟨n, o, none, none, "open"⟩))
def spOpen (C CP : Addr) (more : List (Str × V)) : Sp := fun vs H Q _ => ∃ a i o S F l, vs = [.ref a, .int ((i : Nat) + 1), oI o] ∧ FsA C CP more H a S F ∧ S.stacks[i]? = some l ∧ S.parts.length ≤ 1000 ∧ l.length ≤ 1000 ∧
  ∀ H' F', FsA C CP more H' a (S.opn i o) F' → Fr F H H' → Grow F F' H → Q (.int ((S.parts.length : Int) + 1)) H'
theorem sz1000 {n : Nat} (h : n ≤ 1000) : n < sizeLine := Nat.lt_of_le_of_lt h (by decide)
end Rm
namespace Rm
open PySem PySem.Spec L2
open PyProof.Rows hiding St
theorem ne_ho : ¬ (("holder" : Str) = "outer") := by decide +kernel
theorem ne_hr : ¬ (("holder" : Str) = "released") := by decide +kernel
theorem ne_he : ¬ (("holder" : Str) = "ended") := by decide +kernel
theorem ne_hc : ¬ (("holder" : Str) = "outcome") := by decide +kernel
theorem ne_or : ¬ (("outer" : Str) = "released") := by decide +kernel
theorem ne_oe : ¬ (("outer" : Str) = "ended") := by decide +kernel
theorem ne_oc : ¬ (("outer" : Str) = "outcome") := by decide +kernel
theorem ne_re : ¬ (("released" : Str) = "ended") := by decide +kernel
theorem ne_rc : ¬ (("released" : Str) = "outcome") := by decide +kernel
theorem ne_ec : ¬ (("ended" : Str) = "outcome") := by decide +kernel
theorem part_new {CP dx : Addr} {n : Int} {o : Option Int} : HO.ins CP dx (putF "outcome" (.str "open") (putF "ended" .non (putF "released" .non (putF "outer" (oI o) (putF "holder" (.int n) []))))) = partO CP dx ⟨n, o, none, none, "open"⟩ := by
  simp [putF, partO, oI, ne_ho, ne_hr, ne_he, ne_hc, ne_or, ne_oe, ne_oc, ne_re, ne_rc, ne_ec]
theorem part_rel {CP dx : Addr} {p : PI} {i : Int} : HO.ins CP dx (putF "released" (.int i) [("holder", .int p.holder), ("outer", oI p.outer), ("released", oI p.released), ("ended", oI p.ended), ("outcome", .str p.outcome)]) = partO CP dx { p with released := some i } := by
  simp [putF, partO, oI, ne_hr, ne_or]
theorem part_end {CP dx : Addr} {p : PI} {i : Int} {z : Str} : HO.ins CP dx (putF "ended" (.int i) (putF "outcome" (.str z) [("holder", .int p.holder), ("outer", oI p.outer), ("released", oI p.released), ("ended", oI p.ended), ("outcome", .str p.outcome)])) = partO CP dx { p with ended := some i, outcome := z } := by
  simp [putF, partO, oI, ne_he, ne_hc, ne_oe, ne_oc, ne_re, ne_rc, ne_ec]
end Rm
namespace Rm
open PySem PySem.Spec L2
open PyProof.Rows hiding St
theorem refs_atI {n i : Nat} {f : Nat → Addr} (h : i < n) : atI ((List.range n).map fun i => V.ref (f i)) ((i : Int) + 1 - 1) = some (.ref (f i)) := by
  rw [Int.add_sub_cancel]
  exact atI_nat (refs_at h)
theorem Fr.then {F F' : Addr → Prop} {H H1 H2 : Hp} (a : Fr F H H1) (g : Grow F F' H) (b : Fr F' H1 H2) : Fr F H H2 := a.trans g b
end Rm
namespace Rm
open PySem PySem.Spec L2
open PyProof.Rows hiding St
/-- the lists fit each other and are short -/
structure FS.Wf (S : FS) : Prop where
  ls : S.stacks.length = S.states.length
  n : S.states.length ≤ 900
  p : S.parts.length ≤ 900
  k : ∀ l ∈ S.stacks, l.length ≤ 900
  w : S.work.length ≤ 900
  ne : ∀ (i : Nat) (z : Str) (l : List Int), S.states[i]? = some z → ¬ (z = "committed" ∨ z = "aborted") → S.stacks[i]? = some l → l ≠ []
  kp : ∀ l ∈ S.stacks, ∀ q ∈ l, 1 ≤ q ∧ q ≤ (S.parts.length : Int)
  wk : ∀ (i : Nat) (z : Str), S.states[i]? = some z → ¬ (z = "committed" ∨ z = "aborted") → ((i : Int) + 1) ∈ S.work
  nd : S.work.Nodup
  wr : ∀ n ∈ S.work, 1 ≤ n ∧ n ≤ (S.states.length : Int)
/-- one transaction more -/
def FS.beg (S : FS) : FS :=
  ({ S with done := S.done + 1, states := S.states ++ [("running" : Str)], stacks := S.stacks ++ [[]], work := S.work ++ [(S.states.length : Int) + 1] } : FS).opn S.states.length none
def spBegin (C CP : Addr) (more : List (Str × V)) (EE : EA) : Sp := fun vs H Q E => ∃ a S F, vs = [.ref a] ∧ FsA C CP more H a S F ∧ S.Wf ∧
  (S.work.length < 8 → ∀ H' F', FsA C CP more H' a S.beg F' → Fr F H H' → Grow F F' H → Q (.int ((S.states.length : Int) + 1)) H') ∧ (8 ≤ S.work.length → Out EE E H .tm (.int 8))
end Rm

set_option maxRecDepth 100000
set_option maxHeartbeats 4000000
namespace Rm
open PySem PySem.Spec L2
open PyProof.Rows hiding St

/-! ### the operations, as plain data -/
def FS.sk (S : FS) : PyData → List Int
  | .int i => S.stacks.getD (i - 1).toNat []
  | _ => []
def FS.savE (S : FS) (d : PyData) : Option Ek := match S.fr d with
  | some k => some k
  | none => if 5 ≤ (S.sk d).length then some .tm else none
def FS.tkE (S : FS) (d : PyData) : Option Ek := match S.fr d with
  | some k => some k
  | none => if (S.sk d).length = 1 then some .fp else none
def FS.prE (S : FS) (d : PyData) : Option Ek := match S.fr d with
  | some k => some k
  | none => if 1 < (S.sk d).length then some .so else none
def lastI (l : List Int) : Int := l.getLast?.getD 0
def FS.sav (S : FS) (i : Nat) : FS := S.cnt.opn i (some (lastI (S.stacks.getD i [])))
def FS.tk (S : FS) (i : Nat) : FS := { S.cnt with stacks := S.stacks.set i (S.stacks.getD i []).dropLast }
def FS.mdP (S : FS) (q : Int) (f : PI → PI) : FS := { S with parts := S.parts.modify (q - 1).toNat f }
def FS.endP (S : FS) (q : Int) (z : Str) : FS := S.mdP q fun p => { p with ended := some S.done, outcome := z }
def FS.rel (S : FS) (i : Nat) : FS := (S.tk i).mdP (lastI (S.stacks.getD i [])) fun p => { p with released := some (S.done + 1) }
def FS.bak (S : FS) (i : Nat) : FS := (S.tk i).endP (lastI (S.stacks.getD i [])) "rolled back"
def FS.prep (S : FS) (i : Nat) : FS := { S.cnt with states := S.states.set i "prepared" }
def FS.endAll (S : FS) (z : Str) (l : List Int) : FS := l.foldl (fun S q => S.endP q z) S
def FS.endT (S : FS) (i : Nat) (st z : Str) : FS :=
  { S.endAll z (S.stacks.getD i []) with stacks := S.stacks.set i [], states := S.states.set i st, work := S.work.erase ((i : Int) + 1) }
def FS.com (S : FS) (i : Nat) : FS := ({ S.cnt with moment := S.moment + 1 } : FS).endT i "committed" "committed"
def FS.abo (S : FS) (i : Nat) : FS := S.cnt.endT i "aborted" "rolled back"
def kv (k : Ek) (x : V) : V := match k with
  | .tm => .int 5
  | _ => x
/-- an operation of a number -/
def spNum (K : PySem.W.Frag) (C CP : Addr) (more : List (Str × V)) (EE : EA) (er : FS → PyData → Option Ek) (op : FS → Nat → FS) (res : FS → Nat → V) : Sp := fun vs H Q E => ∃ a x d S F, vs = [.ref a, x] ∧ FsA C CP more H a S F ∧ Dx K H x d ∧ S.Wf ∧
  (∀ k, er S d = some k → ∀ H', Same H H' → Out EE E H' k (kv k x)) ∧
  ∀ i : Nat, d = .int ((i : Int) + 1) → i < S.states.length → er S d = none → ∀ H' F', FsA C CP more H' a (op S i) F' → Fr F H H' → Grow F F' H → Q (res S i) H'
theorem modify_set {l : List PI} {j : Nat} {p : PI} {f : PI → PI} (h : l[j]? = some p) : l.set j (f p) = l.modify j f := by
  apply List.ext_getElem?
  intro i
  rw [List.getElem?_modify]
  by_cases e : j = i
  · subst e
    have hl := (List.getElem?_eq_some_iff.mp h).1
    rw [List.getElem?_set_self hl, h]
    simp
  · rw [List.getElem?_set_ne e]
    simp [e]
theorem lastI_at {l : List Int} (h : l ≠ []) : atI (l.map V.int) (-1) = some (.int (lastI l)) := by
  have hp : 0 < l.length := List.length_pos_iff.mpr h
  unfold atI ixN
  rw [if_neg (by decide), List.length_map, if_pos (by omega)]
  show (l.map V.int)[((-1 : Int) + l.length).toNat]? = _
  rw [List.getElem?_map, show ((-1 : Int) + l.length).toNat = l.length - 1 by omega]
  unfold lastI
  rw [List.getLast?_eq_getElem?]
  rw [List.getElem?_eq_getElem (by omega)]
  rfl
theorem lastI_get {l : List Int} (h : l ≠ []) : (l.map V.int)[(l.map V.int).length - 1]? = some (.int (lastI l)) := by
  have hp : 0 < l.length := List.length_pos_iff.mpr h
  rw [List.length_map, List.getElem?_map]
  unfold lastI
  rw [List.getLast?_eq_getElem?, List.getElem?_eq_getElem (by omega)]
  rfl
theorem lastI_mem {l : List Int} (h : l ≠ []) : lastI l ∈ l := by
  unfold lastI
  rw [List.getLast?_eq_some_getLast h]
  exact List.getLast_mem h
theorem sk_at {S : FS} {i : Nat} : S.sk (.int ((i : Int) + 1)) = S.stacks.getD i [] := by
  unfold FS.sk
  simp
theorem FS.Wf.stk {S : FS} (wf : S.Wf) {i : Nat} (hi : i < S.states.length) : S.stacks[i]? = some (S.stacks.getD i []) := by
  have h : i < S.stacks.length := by rw [wf.ls]; exact hi
  rw [List.getD_eq_getElem?_getD, List.getElem?_eq_getElem h]
  rfl
theorem FS.Wf.nel {S : FS} (wf : S.Wf) {i : Nat} (hi : i < S.states.length) (h : S.ru (.int ((i : Int) + 1)) = none) : S.stacks.getD i [] ≠ [] :=
  wf.ne i _ _ (FS.st_at hi) (FS.ru_none h).2 (wf.stk hi)
theorem FS.Wf.mem {S : FS} (wf : S.Wf) {i : Nat} (hi : i < S.states.length) : S.stacks.getD i [] ∈ S.stacks := List.mem_of_getElem? (wf.stk hi)
end Rm
namespace Rm
open PySem PySem.Spec L2
open PyProof.Rows hiding St
def spEndP (C CP : Addr) (more : List (Str × V)) : Sp := fun vs H Q _ => ∃ a q z S F, vs = [.ref a, .int q, .str z] ∧ FsA C CP more H a S F ∧ 1 ≤ q ∧ q ≤ S.parts.length ∧
  ∀ H', FsA C CP more H' a (S.endP q z) F → (∀ ad, FsAt C CP more H a S ad → FsAt C CP more H' a (S.endP q z) ad) → Fr F H H' → Q .non H'
end Rm
namespace Rm
open PySem PySem.Spec L2
open PyProof.Rows hiding St
theorem fr_cases {S : FS} {d : PyData} {k : Ek} (h : S.fr d = some k) : k = .ut ∨ k = .en ∨ k = .pr := by
  unfold FS.fr at h
  cases h1 : S.ru d with
  | some k' =>
    rw [h1] at h
    dsimp only at h
    cases h
    unfold FS.ru at h1
    cases h2 : S.kn d with
    | some k2 =>
      rw [h2] at h1
      dsimp only at h1
      cases h1
      unfold FS.kn at h2
      split at h2
      · cases h2
      · cases h2; exact .inl rfl
    | none =>
      rw [h2] at h1
      dsimp only at h1
      split at h1
      · cases h1; exact .inr (.inl rfl)
      · cases h1
  | none =>
    rw [h1] at h
    dsimp only at h
    split at h
    · cases h; exact .inr (.inr rfl)
    · cases h
theorem fr_kv {S : FS} {d : PyData} {k : Ek} {x : V} (h : S.fr d = some k) : kv k x = x := by
  rcases fr_cases h with rfl | rfl | rfl <;> rfl
theorem ru_kv {S : FS} {d : PyData} {k : Ek} {x : V} (h : S.ru d = some k) : kv k x = x := fr_kv (S := S) (d := d) (by unfold FS.fr; rw [h])
end Rm
namespace Rm
open PySem PySem.Spec L2
open PyProof.Rows hiding St
section
variable {S : FS} {d : PyData}
theorem tkE_some (h : S.fr d = none) (c : (S.sk d).length = 1) : S.tkE d = some .fp := by
  unfold FS.tkE; rw [h]; exact if_pos c
theorem tkE_none (h : S.fr d = none) (c : ¬ (S.sk d).length = 1) : S.tkE d = none := by
  unfold FS.tkE; rw [h]; exact if_neg c
theorem tkE_fr {k : Ek} (h : S.fr d = some k) : S.tkE d = some k := by
  unfold FS.tkE; rw [h]
theorem savE_some (h : S.fr d = none) (c : 5 ≤ (S.sk d).length) : S.savE d = some .tm := by
  unfold FS.savE; rw [h]; exact if_pos c
theorem savE_none (h : S.fr d = none) (c : ¬ 5 ≤ (S.sk d).length) : S.savE d = none := by
  unfold FS.savE; rw [h]; exact if_neg c
theorem savE_fr {k : Ek} (h : S.fr d = some k) : S.savE d = some k := by
  unfold FS.savE; rw [h]
theorem prE_some (h : S.fr d = none) (c : 1 < (S.sk d).length) : S.prE d = some .so := by
  unfold FS.prE; rw [h]; exact if_pos c
theorem prE_none (h : S.fr d = none) (c : ¬ 1 < (S.sk d).length) : S.prE d = none := by
  unfold FS.prE; rw [h]; exact if_neg c
theorem prE_fr {k : Ek} (h : S.fr d = some k) : S.prE d = some k := by
  unfold FS.prE; rw [h]
end
end Rm
namespace Rm
open PySem PySem.Spec L2
open PyProof.Rows hiding St
section
variable {C CP : Addr} {more : List (Str × V)} {H H' : Hp} {a : Addr} {S : FS} {ad ad' : Ro → Addr} {F : Addr → Prop}
theorem FsAt.uniq (h : FsAt C CP more H a S ad) (h' : FsAt C CP more H a S ad') : ∀ r : Ro, r.ok S → ad' r = ad r := by
  obtain ⟨dx, lk⟩ := h.look
  obtain ⟨dx', lk'⟩ := h'.look
  have e := Option.some.inj (lk.o.symm.trans lk'.o)
  simp only [HO.ins.injEq, true_and, fatesO, List.cons_append, List.nil_append, List.cons.injEq, Prod.mk.injEq, V.ref.injEq] at e
  obtain ⟨_, ew, es, ek, ep, _⟩ := e
  intro r hr
  cases r with
  | obj => rw [h.at_, h'.at_]
  | work => exact ew.symm
  | states => exact es.symm
  | stacks => exact ek.symm
  | parts => exact ep.symm
  | stack i =>
    have k1 := lk.k
    have k2 := lk'.k
    rw [← ek, k1] at k2
    have e2 : ((List.range S.stacks.length).map fun i => V.ref (ad (.stack i))) = (List.range S.stacks.length).map fun i => V.ref (ad' (.stack i)) := by
      simpa only [Option.some.injEq, HO.lst.injEq] using k2
    have e3 := congrArg (fun l : List V => l[i]?) e2
    rw [refs_at hr, refs_at hr] at e3
    exact (V.ref.inj (Option.some.inj e3)).symm
  | part i =>
    have k1 := lk.p
    have k2 := lk'.p
    rw [← ep, k1] at k2
    have e2 : ((List.range S.parts.length).map fun i => V.ref (ad (.part i))) = (List.range S.parts.length).map fun i => V.ref (ad' (.part i)) := by
      simpa only [Option.some.injEq, HO.lst.injEq] using k2
    have e3 := congrArg (fun l : List V => l[i]?) e2
    rw [refs_at hr, refs_at hr] at e3
    exact (V.ref.inj (Option.some.inj e3)).symm
theorem FsAt.congr (h : FsAt C CP more H a S ad) (e : ∀ r : Ro, r.ok S → ad' r = ad r) : FsAt C CP more H a S ad' := by
  obtain ⟨h1, h2, dx, dp, h3⟩ := h
  refine ⟨(e .obj trivial).trans h1, fun r r' hr hr' q => h2 r r' hr hr' (by rw [← e r hr, ← e r' hr', q]), dx, dp, fun r hr => ?_⟩
  rw [e r hr, h3 r hr]
  cases r with
  | obj => simp only [cont, e .work trivial, e .states trivial, e .stacks trivial, e .parts trivial]
  | stacks =>
    simp only [cont]
    congr 2
    exact List.map_congr_left fun i hi => by rw [e (.stack i) (List.mem_range.mp hi)]
  | parts =>
    simp only [cont]
    congr 2
    exact List.map_congr_left fun i hi => by rw [e (.part i) (List.mem_range.mp hi)]
  | _ => rfl
end
/-- an operation of a number that keeps the places -/
def spNumK (K : PySem.W.Frag) (C CP : Addr) (more : List (Str × V)) (EE : EA) (er : FS → PyData → Option Ek) (op : FS → Nat → FS) (res : FS → Nat → V) : Sp := fun vs H Q E => ∃ a x d S F, vs = [.ref a, x] ∧ FsA C CP more H a S F ∧ Dx K H x d ∧ S.Wf ∧
  (∀ k, er S d = some k → ∀ H', Same H H' → Out EE E H' k (kv k x)) ∧
  ∀ i : Nat, d = .int ((i : Int) + 1) → i < S.states.length → er S d = none → ∀ H', FsA C CP more H' a (op S i) F → (∀ ad, FsAt C CP more H a S ad → FsAt C CP more H' a (op S i) ad) → Fr F H H' → Q (res S i) H'
end Rm
namespace Rm
open PySem PySem.Spec L2
open PyProof.Rows hiding St
theorem FsA.setStackAt {C CP : Addr} {more : List (Str × V)} {H : Hp} {a : Addr} {S : FS} {ad : Ro → Addr} {F : Addr → Prop} {i : Nat} {l : List Int} (h : FsAt C CP more H a S ad) (hF : ∀ b, F b ↔ Foot S ad b) (hi : i < S.stacks.length) :
    (FsAt C CP more (upd H (ad (.stack i)) (.lst (l.map V.int))) a { S with stacks := S.stacks.set i l } ad ∧ True) ∧ Fr F H (upd H (ad (.stack i)) (.lst (l.map V.int))) := by
  obtain ⟨⟨ad', h', _⟩, fr⟩ := FsA.setStack (l := l) h hF hi
  refine ⟨⟨?_, trivial⟩, fr⟩
  refine h.put hi (fun r' => by cases r' <;> simp [Ro.ok]) (fun _ _ _ => ?_) fun dx dp r' hr ne => ?_
  · show _ = HO.lst (((S.stacks.set i l).getD i []).map V.int)
    rw [List.getD_eq_getElem?_getD, List.getElem?_set_self hi]
    rfl
  · cases r' with
    | stack j =>
      have nj : i ≠ j := fun e => ne (by rw [e])
      show HO.lst (((S.stacks.set i l).getD j []).map V.int) = HO.lst ((S.stacks.getD j []).map V.int)
      rw [List.getD_eq_getElem?_getD, List.getElem?_set_ne nj, ← List.getD_eq_getElem?_getD]
    | stacks =>
      show HO.lst ((List.range (S.stacks.set i l).length).map _) = _
      rw [List.length_set]
      rfl
    | _ => rfl
theorem FsAt.same {C CP : Addr} {more : List (Str × V)} {H H' : Hp} {a : Addr} {S : FS} {ad : Ro → Addr} (h : FsAt C CP more H a S ad) (s : Same H H') : FsAt C CP more H' a S ad := h.up fun r hr => by
  obtain ⟨u, hu⟩ := h.has hr
  rw [hu]
  exact s _ _ hu
end Rm
namespace Rm
open PySem PySem.Spec L2
open PyProof.Rows hiding St
def spEndT (C CP : Addr) (more : List (Str × V)) : Sp := fun vs H Q _ => ∃ a i st z S F, vs = [.ref a, .int ((i : Nat) + 1), .str st, .str z] ∧ FsA C CP more H a S F ∧ i < S.states.length ∧ i < S.stacks.length ∧
  (S.stacks.getD i []).length ≤ 900 ∧ (∀ q ∈ S.stacks.getD i [], 1 ≤ q ∧ q ≤ (S.parts.length : Int)) ∧ ((i : Int) + 1) ∈ S.work ∧
  ∀ H' F', FsA C CP more H' a (S.endT i st z) F' → Fr F H H' → Grow F F' H → Q .non H'
end Rm
namespace Rm
open PySem PySem.Spec L2
open PyProof.Rows hiding St
theorem ixN_at {n j : Nat} (h : j < n) : ixN n (j : Int) = some j := by
  unfold ixN
  rw [if_pos (by omega), if_pos (by omega)]
  simp
theorem FsAt.setPartAt {C CP : Addr} {more : List (Str × V)} {H : Hp} {a : Addr} {S : FS} {ad : Ro → Addr} {i : Nat} {p : PI} (h : FsAt C CP more H a S ad) (hi : i < S.parts.length) {dx : Addr} (hd : ∃ p0, H (ad (.part i)) = some (partO CP dx p0)) :
    FsAt C CP more (upd H (ad (.part i)) (partO CP dx p)) a { S with parts := S.parts.set i p } ad := by
  refine h.put (r := .part i) hi (fun r' => by cases r' <;> simp [Ro.ok]) (fun dx0 dp h3 => ?_) fun dx dp r' hr ne => ?_
  · show _ = (match (S.parts.set i p)[i]? with | some p => partO CP (dp i) p | none => HO.lst [])
    rw [List.getElem?_set_self hi]
    obtain ⟨p0, hd⟩ := hd
    have e := h3 (.part i) hi
    rw [hd] at e
    have e2 : partO CP dx p0 = (match S.parts[i]? with | some p => partO CP (dp i) p | none => HO.lst []) := Option.some.inj e
    rw [List.getElem?_eq_getElem hi] at e2
    have e3 : dx = dp i := by
      simp only [partO, HO.ins.injEq] at e2
      exact e2.2.1
    rw [e3]
  · cases r' with
    | part j =>
      have nj : i ≠ j := fun e => ne (by rw [e])
      show (match (S.parts.set i p)[j]? with | some p => partO CP (dp j) p | none => HO.lst []) = (match S.parts[j]? with | some p => partO CP (dp j) p | none => HO.lst [])
      rw [List.getElem?_set_ne nj]
    | parts =>
      show HO.lst ((List.range (S.parts.set i p).length).map _) = _
      rw [List.length_set]
      rfl
    | _ => rfl
theorem endAll_keeps (z : Str) : ∀ (l : List Int) (S : FS), (S.endAll z l).stacks = S.stacks ∧ (S.endAll z l).states = S.states ∧ (S.endAll z l).work = S.work ∧ (S.endAll z l).done = S.done ∧ (S.endAll z l).moment = S.moment ∧
    (S.endAll z l).parts.length = S.parts.length
  | [], S => ⟨rfl, rfl, rfl, rfl, rfl, rfl⟩
  | q :: l, S => by
    obtain ⟨h1, h2, h3, h4, h5, h6⟩ := endAll_keeps z l (S.endP q z)
    exact ⟨h1, h2, h3, h4, h5, h6.trans (by simp [FS.endP, FS.mdP])⟩
theorem endAll_next {z : Str} {l : List Int} {n : Nat} {q : Int} {S : FS} (h : l[n]? = some q) : S.endAll z (l.take (n + 1)) = (S.endAll z (l.take n)).endP q z := by
  rw [List.take_succ, h]
  unfold FS.endAll
  rw [List.foldl_append]
  rfl
theorem erase_at {k : Int} : ∀ {ns : List Int}, k ∈ ns → ∃ j, ns[j]? = some k ∧ (∀ m : Nat, m < j → ns[m]? ≠ some k) ∧ ns.eraseIdx j = ns.erase k
  | x :: ns, h => by
    by_cases e : x = k
    · subst e
      exact ⟨0, rfl, fun m hm => absurd hm (Nat.not_lt_zero _), by simp⟩
    · have h' : k ∈ ns := by
        rcases List.mem_cons.mp h with h | h
        · exact absurd h.symm e
        · exact h
      obtain ⟨j, h1, h2, h3⟩ := erase_at h'
      refine ⟨j + 1, by simpa using h1, fun m hm => ?_, ?_⟩
      · cases m with
        | zero => simpa using e
        | succ m => simpa using h2 m (by omega)
      · rw [List.eraseIdx_cons_succ, h3, List.erase_cons_tail (by simpa using e)]
end Rm
namespace Rm
theorem ok_same {S S' : FS} (e1 : S'.stacks.length = S.stacks.length) (e2 : S'.parts.length = S.parts.length) : ∀ r : Ro, r.ok S' ↔ r.ok S := fun r => by
  cases r <;> simp [Ro.ok, e1, e2]
end Rm
namespace Rm
open PySem PySem.Spec L2
open PyProof.Rows hiding St
def FS.isRun (S : FS) (n : Int) : Bool := decide (S.st (.int n) = "running")
def FS.crs (S : FS) : FS := (S.work.filter S.isRun).foldl (fun S n => S.endT (n - 1).toNat "aborted" "rolled back") S.cnt
def spCrash (C CP : Addr) (more : List (Str × V)) : Sp := fun vs H Q _ => ∃ a S F, vs = [.ref a] ∧ FsA C CP more H a S F ∧ S.Wf ∧ ∀ H' F', FsA C CP more H' a S.crs F' → Fr F H H' → Grow F F' H → Q .non H'
end Rm
namespace Rm
open PySem PySem.Spec L2
open PyProof.Rows hiding St
theorem endT_keeps (S : FS) (i : Nat) (st z : Str) : (S.endT i st z).states.length = S.states.length ∧ (S.endT i st z).stacks.length = S.stacks.length ∧ (S.endT i st z).parts.length = S.parts.length ∧
    (∀ j, j ≠ i → (S.endT i st z).stacks.getD j [] = S.stacks.getD j []) ∧ (S.endT i st z).work = S.work.erase ((i : Int) + 1) := by
  obtain ⟨h1, h2, h3, h4, h5, h6⟩ := endAll_keeps z (S.stacks.getD i []) S
  refine ⟨by simp [FS.endT], by simp [FS.endT], h6, fun j hj => ?_, rfl⟩
  show (S.stacks.set i []).getD j [] = _
  rw [List.getD_eq_getElem?_getD, List.getElem?_set_ne (Ne.symm hj), ← List.getD_eq_getElem?_getD]
/-- one running transaction after the other ends -/
def crF (S : FS) (l : List Int) : FS := l.foldl (fun S n => S.endT (n - 1).toNat "aborted" "rolled back") S
theorem crF_keeps : ∀ (l : List Int) (S : FS), (∀ k ∈ l, 1 ≤ k) → (crF S l).states.length = S.states.length ∧ (crF S l).stacks.length = S.stacks.length ∧ (crF S l).parts.length = S.parts.length ∧
    (∀ j : Nat, ((j : Int) + 1) ∉ l → (crF S l).stacks.getD j [] = S.stacks.getD j []) ∧ ∀ k ∈ S.work, k ∉ l → k ∈ (crF S l).work
  | [], S, _ => ⟨rfl, rfl, rfl, fun _ _ => rfl, fun _ h _ => h⟩
  | n :: l, S, hp => by
    obtain ⟨h1, h2, h3, h4, h5⟩ := crF_keeps l (S.endT (n - 1).toNat "aborted" "rolled back") fun k hk => hp k (.tail _ hk)
    obtain ⟨g1, g2, g3, g4, g5⟩ := endT_keeps S (n - 1).toNat "aborted" "rolled back"
    have hn := hp n (.head _)
    refine ⟨h1.trans g1, h2.trans g2, h3.trans g3, fun j hj => ?_, fun k hk hkl => ?_⟩
    · refine (h4 j fun h => hj (.tail _ h)).trans (g4 j fun e => hj ?_)
      have : (j : Int) + 1 = n := by omega
      rw [this]
      exact .head _
    · refine h5 k ?_ fun h => hkl (.tail _ h)
      rw [g5]
      refine (List.mem_erase_of_ne fun e => hkl ?_).mpr hk
      have : k = n := by omega
      rw [this]
      exact .head _
theorem crF_next {S : FS} {l : List Int} {n : Nat} {k : Int} (h : l[n]? = some k) : crF S (l.take (n + 1)) = (crF S (l.take n)).endT (k - 1).toNat "aborted" "rolled back" := by
  rw [List.take_succ, h]
  unfold crF
  rw [List.foldl_append]
  rfl
theorem not_in_take {l : List Int} {n : Nat} {k : Int} (nd : l.Nodup) (h : l[n]? = some k) : k ∉ l.take n := fun hm => by
  obtain ⟨m, hm⟩ := List.mem_iff_getElem?.mp hm
  rw [List.getElem?_take] at hm
  split at hm
  · rename_i lt
    have P := List.pairwise_iff_getElem.mp nd
    obtain ⟨h1, h2⟩ := List.getElem?_eq_some_iff.mp h
    obtain ⟨h3, h4⟩ := List.getElem?_eq_some_iff.mp hm
    exact P m n h3 h1 lt (h4.trans h2.symm)
  · cases hm
end Rm
namespace Rm
open PySem PySem.Spec L2
open PyProof.Rows hiding St
/-- what is asked without change -/
def spGet (C CP : Addr) (more : List (Str × V)) (g : FS → V) : Sp := fun vs H Q _ => ∃ a S F, vs = [.ref a] ∧ FsA C CP more H a S F ∧ Q (g S) H
def spGetL (C CP : Addr) (more : List (Str × V)) (g : FS → List Int) : Sp := fun vs H Q _ => ∃ a S F, vs = [.ref a] ∧ FsA C CP more H a S F ∧ ∀ p, H p = none → Q (.ref p) (upd H p (.lst ((g S).map V.int)))
def spGetN (K : PySem.W.Frag) (C CP : Addr) (more : List (Str × V)) (EE : EA) (q : FS → Nat → VK → Hp → Prop) : Sp := fun vs H Q E => ∃ a x d S F, vs = [.ref a, x] ∧ FsA C CP more H a S F ∧ Dx K H x d ∧ S.Wf ∧
  (∀ k, S.kn d = some k → ∀ H', Same H H' → Out EE E H' k x) ∧ ∀ i : Nat, d = .int ((i : Int) + 1) → i < S.states.length → ∀ H', Same H H' → q S i Q H'
def qSt : FS → Nat → VK → Hp → Prop := fun S i Q H => Q (.str (S.st (.int ((i : Int) + 1)))) H
def qPt : FS → Nat → VK → Hp → Prop := fun S i Q H => ∀ p, H p = none → Q (.ref p) (upd H p (.lst ((S.stacks.getD i []).map V.int)))
def FS.zero : FS := ⟨0, 0, [], [], [], []⟩
def spFInit (C CP : Addr) : Sp := fun vs H Q _ => ∃ a dx, vs = [.ref a] ∧ H a = some (.ins C dx []) ∧
  ∀ H' F, FsA C CP [] H' a .zero F → Fr (fun b => b = a) H H' → Grow (fun b => b = a) F H → Q .non H'
end Rm
namespace Rm
open PySem PySem.Spec L2
open PyProof.Rows hiding St
theorem pf2 {u v : V} : putF "_commits" u (putF "_done" v []) = [(("_done" : Str), v), ("_commits", u)] := by
  simp [putF, show ¬ (("_done" : Str) = "_commits") by decide +kernel]
theorem pf3 {u v x : V} : putF "_at_work" x [(("_done" : Str), v), ("_commits", u)] = [(("_done" : Str), v), ("_commits", u), ("_at_work", x)] := by
  simp [putF, show ¬ (("_done" : Str) = "_at_work") by decide +kernel, show ¬ (("_commits" : Str) = "_at_work") by decide +kernel]
theorem pf4 {u v x y : V} : putF "_states" y [(("_done" : Str), v), ("_commits", u), ("_at_work", x)] = [(("_done" : Str), v), ("_commits", u), ("_at_work", x), ("_states", y)] := by
  simp [putF, show ¬ (("_done" : Str) = "_states") by decide +kernel, show ¬ (("_commits" : Str) = "_states") by decide +kernel, show ¬ (("_at_work" : Str) = "_states") by decide +kernel]
theorem pf5 {u v x y z : V} : putF "_stacks" z [(("_done" : Str), v), ("_commits", u), ("_at_work", x), ("_states", y)] = [(("_done" : Str), v), ("_commits", u), ("_at_work", x), ("_states", y), ("_stacks", z)] := by
  simp [putF, show ¬ (("_done" : Str) = "_stacks") by decide +kernel, show ¬ (("_commits" : Str) = "_stacks") by decide +kernel, show ¬ (("_at_work" : Str) = "_stacks") by decide +kernel, show ¬ (("_states" : Str) = "_stacks") by decide +kernel]
theorem pf6 {u v x y z t : V} : putF "_all_parts" t [(("_done" : Str), v), ("_commits", u), ("_at_work", x), ("_states", y), ("_stacks", z)] = [(("_done" : Str), v), ("_commits", u), ("_at_work", x), ("_states", y), ("_stacks", z), ("_all_parts", t)] := by
  simp [putF, show ¬ (("_done" : Str) = "_all_parts") by decide +kernel, show ¬ (("_commits" : Str) = "_all_parts") by decide +kernel, show ¬ (("_at_work" : Str) = "_all_parts") by decide +kernel, show ¬ (("_states" : Str) = "_all_parts") by decide +kernel, show ¬ (("_stacks" : Str) = "_all_parts") by decide +kernel]
structure Stp (H Hk : Hp) (a y : Addr) (o : HO) (H' : Hp) : Prop where
  fr : Fr (fun b => b = a) H H'
  oa : H' a = some o
  oy : H' y = some (.lst [])
  k : ∀ b u, Hk b = some u → b ≠ a → H' b = some u
  ne : y ≠ a
  n : H y = none
theorem stp {H Hk : Hp} {a y : Addr} {o u : HO} (fr : Fr (fun b => b = a) H Hk) (ha : Hk a = some u) (ny : Hk y = none) : Stp H Hk a y o (upd (upd Hk y (.lst [])) a o) := by
  have ne : y ≠ a := fun e => by rw [e, ha] at ny; cases ny
  refine ⟨fun b v hb n => ?_, upd_same, by rw [upd_ne ne]; exact upd_same, fun b v hb n => ?_, ne, ?_⟩
  · have z := fr b v hb n
    rw [upd_ne n, upd_ne (fun e => by rw [e, ny] at z; cases z)]
    exact z
  · rw [upd_ne n, upd_ne (fun e => by rw [e, ny] at hb; cases hb)]
    exact hb
  · cases z : H y with
    | none => rfl
    | some v =>
      rw [fr y v z ne] at ny
      cases ny
end Rm

set_option maxRecDepth 100000
set_option maxHeartbeats 4000000
namespace K08
open PySem PySem.Spec L2 Rm
open PyProof.Rows hiding St
def top (i : Nat) : Stmt := PySem.Challenge.pw_rowmarks_k08_whole_what_is_alive_of_a_tr.main.body.getD i (.Pass ⟨0, 0, 0, 0⟩)
abbrev s__wall : Stmt := top 0
abbrev s_UnknownTransaction___init__ : Stmt := inClass (top 3) 0
abbrev s_UnknownPart___init__ : Stmt := inClass (top 4) 0
abbrev s_Ended___init__ : Stmt := inClass (top 5) 0
abbrev s_Prepared___init__ : Stmt := inClass (top 6) 0
abbrev s_FirstPart___init__ : Stmt := inClass (top 7) 0
abbrev s_StillOpen___init__ : Stmt := inClass (top 8) 0
abbrev s_TooMany___init__ : Stmt := inClass (top 9) 0
abbrev s_is_whole : Stmt := top 11
abbrev s_is_within : Stmt := top 12
abbrev s_Part___init__ : Stmt := inClass (top 16) 0
abbrev s_Fates___init__ : Stmt := inClass (top 17) 0
abbrev s_Fates_begin : Stmt := inClass (top 17) 1
abbrev s_Fates_save : Stmt := inClass (top 17) 2
abbrev s_Fates_release : Stmt := inClass (top 17) 3
abbrev s_Fates_back : Stmt := inClass (top 17) 4
abbrev s_Fates_prepare : Stmt := inClass (top 17) 5
abbrev s_Fates_commit : Stmt := inClass (top 17) 6
abbrev s_Fates_abort : Stmt := inClass (top 17) 7
abbrev s_Fates_crash : Stmt := inClass (top 17) 8
abbrev s_Fates_operations : Stmt := inClass (top 17) 9
abbrev s_Fates_moment : Stmt := inClass (top 17) 10
abbrev s_Fates_running : Stmt := inClass (top 17) 11
abbrev s_Fates_state : Stmt := inClass (top 17) 12
abbrev s_Fates_parts : Stmt := inClass (top 17) 13
abbrev s_Fates_is_transaction : Stmt := inClass (top 17) 14
abbrev s_Fates_is_part : Stmt := inClass (top 17) 15
abbrev s_Fates_root : Stmt := inClass (top 17) 16
abbrev s_Fates_owner : Stmt := inClass (top 17) 17
abbrev s_Fates_fate : Stmt := inClass (top 17) 18
abbrev s_Fates_transaction : Stmt := inClass (top 17) 19
abbrev s_Fates_around : Stmt := inClass (top 17) 20
abbrev s_Fates_joined_at : Stmt := inClass (top 17) 21
abbrev s_Fates_ended_at : Stmt := inClass (top 17) 22
abbrev s_Fates__count_operation : Stmt := inClass (top 17) 23
abbrev s_Fates__check_known : Stmt := inClass (top 17) 24
abbrev s_Fates__check_running : Stmt := inClass (top 17) 25
abbrev s_Fates__check_free : Stmt := inClass (top 17) 26
abbrev s_Fates__check_part : Stmt := inClass (top 17) 27
abbrev s_Fates__open_part : Stmt := inClass (top 17) 28
abbrev s_Fates__take_innermost : Stmt := inClass (top 17) 29
abbrev s_Fates__end_part : Stmt := inClass (top 17) 30
abbrev s_Fates__end_transaction : Stmt := inClass (top 17) 31
abbrev s__law_tape : Stmt := top 19
abbrev s__law_pick : Stmt := top 20
abbrev s__law_one_of : Stmt := top 21
abbrev s__law_world : Stmt := top 22
abbrev s__law_running : Stmt := top 23
abbrev s__law_refusal : Stmt := top 24
abbrev s__law_over : Stmt := top 25
abbrev s__law_opened : Stmt := top 26
abbrev s__law_done : Stmt := top 27
abbrev s__law_root : Stmt := top 28
abbrev s__law_owner : Stmt := top 29
abbrev s__law_step : Stmt := top 30
abbrev s__law_told : Stmt := top 31
abbrev s__law_call : Stmt := top 32
abbrev s__law_both : Stmt := top 33
abbrev s__law_chain_right : Stmt := top 34
abbrev s__law_alive_right : Stmt := top 35
abbrev s__law_roots_right : Stmt := top 36
abbrev s__law_told_of : Stmt := top 37
abbrev s_law : Stmt := top 38
/-- the names that are built-in still -/
structure Bl (mg : Str → Option Value) : Prop where
  n_int : mg "int" = none
  n_len : mg "len" = none
  n_isinstance : mg "isinstance" = none
  n_str : mg "str" = none
  n_range : mg "range" = none
  n_max : mg "max" = none
  n_min : mg "min" = none
  n_list : mg "list" = none
  n_repr : mg "repr" = none
  n_enumerate : mg "enumerate" = none
  n_tuple : mg "tuple" = none
  n_sorted : mg "sorted" = none
  n_bool : mg "bool" = none
  n_dict : mg "dict" = none
  n_set : mg "set" = none
  n_ValueError : mg "ValueError" = none
section
variable {P : Program} {w : World} {K : PySem.W.Frag} {mg : Str → Option Value} {base : Heap}
def isI : PyData → Bool
  | .int _ => true
  | _ => false
theorem sc_is_whole : FnScope ["value"] ["value"] (defScope s_is_whole) :=
  ⟨rfl, rfl, rfl, by decide +kernel, rfl, by decide +kernel, by decide +kernel⟩
theorem ok_whole {f : Addr} {fd : FuncData} (F : Fun K "is_whole" "is_whole" s_is_whole f fd) (B : Bl mg) :
    FnG P w K mg base CX0 1 f fd ["value"] (fun vs H Q _ => ∃ x d, vs = [x] ∧ Dx K H x d ∧ Q (.bl (isI d)) H) := by
  refine fn_q F sc_is_whole (fun vs H Q E h => ?_) (fun cdv A outer s H vs Q E hr hG h => ?_)
  · obtain ⟨x, d, rfl, _⟩ := h
    rfl
  · obtain ⟨x, d, rfl, hx, q⟩ := h
    have hu := hu_of hr
    refine ⟨_, (pss_one (ps_ret (pe_and (pe_callB call_isi (by rfl) B.n_isinstance (by decide +kernel) (pa_cons (pv 0) (pa_cons (pe_bltn (v := .ty "int") (u := .type "int") (by rfl) B.n_int (by decide +kernel) rfl) pa_nil))) (pe_one (pe_not (pe_callB call_isi (by rfl) B.n_isinstance (by decide +kernel) (pa_cons (pv 0) (pa_cons (pe_bltn (v := .ty "bool") (u := .type "bool") (by rfl) B.n_bool (by decide +kernel) rfl) pa_nil)))))))), ?_⟩
    refine ⟨x, rfl, x, .ty "int", _, _, _, rfl, .ty _, hx.tyx, kit_kd (T := "int") (by simp) d, ?_⟩
    cases d with
    | bool b => exact ⟨true, rfl, x, rfl, x, .ty "bool", _, _, _, rfl, .ty _, hx.tyx, kit_kd (T := "bool") (by simp) _, true, rfl, q⟩
    | int i => exact ⟨true, rfl, x, rfl, x, .ty "bool", _, _, _, rfl, .ty _, hx.tyx, kit_kd (T := "bool") (by simp) _, false, rfl, q⟩
    | _ => exact ⟨false, rfl, q⟩
theorem sc_is_within : FnScope ["value", "least", "most"] ["value", "least", "most"] (defScope s_is_within) :=
  ⟨rfl, rfl, rfl, by decide +kernel, rfl, by decide +kernel, by decide +kernel⟩
theorem ok_within {f : Addr} {fd : FuncData} (F : Fun K "is_within" "is_within" s_is_within f fd)
    (D_is_whole : Ce P w K mg base CX0 1 "is_whole" ["value"] (fun vs H Q _ => ∃ x d, vs = [x] ∧ Dx K H x d ∧ Q (.bl (isI d)) H)) :
    FnG P w K mg base CX0 2 f fd ["value", "least", "most"] (spWi K) := by
  refine fn_q F sc_is_within (fun vs H Q E h => ?_) (fun cdv A outer s H vs Q E hr hG h => ?_)
  · obtain ⟨x, d, lo, hi, rfl, _⟩ := h
    rfl
  · obtain ⟨x, d, lo, hi, rfl, hx, q⟩ := h
    have hu := hu_of hr
    refine ⟨_, (pss_one (ps_ret (pe_and (pe_ce D_is_whole (hr.mono (by decide)) hG (pa_cons (pv 0) pa_nil) pass0) (pe_one (pe_chain op_le op_le (pv 1) (pv 0) (pv 2)))))), ?_⟩
    refine ⟨x, rfl, x, d, rfl, hx, ?_⟩
    cases d with
    | int i =>
      cases hx
      refine ⟨true, rfl, ?_⟩
      refine ⟨_, rfl, _, rfl, _, _, rfl, rfl, _, rfl, ite2 (fun c => ?_) fun c => ?_⟩
      · refine ⟨_, rfl, _, _, rfl, rfl, ?_⟩
        have q : Q (.bl (decide (lo ≤ i) && decide (i ≤ hi))) H := q
        rw [c, Bool.true_and] at q
        exact q
      · have q : Q (.bl (decide (lo ≤ i) && decide (i ≤ hi))) H := q
        rw [eq_false_of_ne_true c, Bool.false_and] at q
        exact q
    | _ => exact ⟨false, rfl, q⟩
/-! ### what the methods of Fates keep -/
variable {C CP : Addr} {more : List (Str × V)} {EE : EA}
theorem sc_Fates__count_operation : FnScope ["self"] ["self"] (defScope s_Fates__count_operation) :=
  ⟨rfl, rfl, rfl, by decide +kernel, rfl, by decide +kernel, by decide +kernel⟩
theorem ok_count {f : Addr} {fd : FuncData} (F0 : Fun K "_count_operation" "Fates._count_operation" s_Fates__count_operation f fd) (FCC : FC K C) (mo : MO more) :
    FnG P w K mg base CX0 1 f fd ["self"] (spCnt C CP more) := by
  refine fn_q F0 sc_Fates__count_operation (fun vs H Q E h => ?_) (fun cdv A outer s H vs Q E hr hG h => ?_)
  · obtain ⟨a, S, F, rfl, _⟩ := h
    rfl
  · obtain ⟨a, S, F, rfl, ⟨ad, hf, hF⟩, q⟩ := h
    refine ⟨_, (pss_one (ps_fldaug (pv 0) pe_int in_add)), ?_⟩
    obtain ⟨dx, lk⟩ := hf.look
    refine ⟨_, rfl, a, C, dx, _, _, rfl, lk.o, FCC.cls, FCC.n0, rfl, _, _, rfl, rfl, dx, _, lk.o, mo.size, ?_⟩
    rw [put_done]
    obtain ⟨g1, g2⟩ := FsA.ofO (S' := S.cnt) (dx := dx) hf hF lk rfl rfl rfl rfl rfl
    refine q _ g1 (fun ad' hf' => ?_) g2
    obtain ⟨dx', lk'⟩ := hf'.look
    have e := Option.some.inj (lk.o.symm.trans lk'.o)
    simp only [HO.ins.injEq, true_and] at e
    obtain ⟨e1, e2⟩ := e
    subst e1
    refine hf'.setO lk' ?_ rfl rfl rfl rfl
    rw [← put_done (S := S) (i := S.done + 1), e2, put_done]
    rfl
def spIsT (K : PySem.W.Frag) (C CP : Addr) (more : List (Str × V)) (g : FS → Nat) : Sp := fun vs H Q _ => ∃ a x d S F, vs = [.ref a, x] ∧ FsA C CP more H a S F ∧ Dx K H x d ∧ Q (.bl (isW 1 (g S) d)) H
theorem sc_Fates_is_transaction : FnScope ["self", "number"] ["self", "number"] (defScope s_Fates_is_transaction) :=
  ⟨rfl, rfl, rfl, by decide +kernel, rfl, by decide +kernel, by decide +kernel⟩
theorem ok_isT {f : Addr} {fd : FuncData} (F0 : Fun K "is_transaction" "Fates.is_transaction" s_Fates_is_transaction f fd) (B : Bl mg) (FCC : FC K C)
    (D_is_within : Ce P w K mg base CX0 2 "is_within" ["value", "least", "most"] (spWi K)) :
    FnG P w K mg base CX0 3 f fd ["self", "number"] (spIsT K C CP more fun S => S.states.length) := by
  refine fn_q F0 sc_Fates_is_transaction (fun vs H Q E h => ?_) (fun cdv A outer s H vs Q E hr hG h => ?_)
  · obtain ⟨a, x, d, S, F, rfl, _⟩ := h
    rfl
  · obtain ⟨a, x, d, S, F, rfl, ⟨ad, hf, hF⟩, hx, q⟩ := h
    have hu := hu_of hr
    refine ⟨_, (pss_one (ps_ret (pe_ce D_is_within (hr.mono (by decide)) hG (pa_cons (pv 1) (pa_cons pe_int (pa_cons (pe_callB call_len_seq (by rfl) B.n_len (by decide +kernel) (pa_cons (pe_fld (pv 0) rfl) pa_nil)) pa_nil))) pass0))), ?_⟩
    obtain ⟨dx, lk⟩ := hf.look
    refine ⟨_, rfl, _, rfl, a, C, dx, _, _, rfl, lk.o, FCC.cls, FCC.n3, rfl, _, _, rfl, .inl (.inl (.inl lk.s)), x, d, 1, S.states.length, by simp, hx, q⟩
theorem sc_Fates__check_known : FnScope ["self", "number"] ["self", "number"] (defScope s_Fates__check_known) :=
  ⟨rfl, rfl, rfl, by decide +kernel, rfl, by decide +kernel, by decide +kernel⟩
theorem ok_known {f : Addr} {fd : FuncData} (F0 : Fun K "_check_known" "Fates._check_known" s_Fates__check_known f fd) (mo : MO more)
    (M_Fates_is_transaction : Cm P w K mg base CX0 3 C "is_transaction" ["self", "number"] (spIsT K C CP more fun S => S.states.length)) (X_UnknownTransaction : Er P w K mg base "UnknownTransaction" EE.ut "value") :
    FnG P w K mg base (L2.CX P w) 4 f fd ["self", "number"] (spAsk K C CP more EE FS.kn) := by
  refine fn_in F0 sc_Fates__check_known (fun vs H Q E h => ?_) (fun cdv A outer s H vs Q E hr hG h => ?_)
  · obtain ⟨a, x, d, S, F, rfl, _⟩ := h
    rfl
  · obtain ⟨a, x, d, S, F, rfl, hA, hx, hsz, q, e⟩ := h
    have hu := hu_of hr
    refine ⟨_, (pss_one (ps_if (pt_not (pt_val (pe_cm M_Fates_is_transaction (hr.mono (by decide)) hG (pv 0) (pa_cons (pv 1) pa_nil) pass0))) (pss_one (ps_raise rfl (takes_of rfl rfl rfl rfl) (pmk_er X_UnknownTransaction (hr.mono (by decide)) hG (pv 1)))) pss_nil)), ?_⟩
    obtain ⟨ad, hf, hF⟩ := id hA
    obtain ⟨dx, lk⟩ := hf.look
    refine ⟨_, rfl, a, dx, _, rfl, lk.o, mo.free (by decide +kernel), _, rfl, a, x, d, S, F, rfl, hA, hx, ?_⟩
    cases e1 : isW 1 S.states.length d with
    | false => exact ⟨_, rfl, _, rfl, x, rfl, e .ut (by simp [FS.kn, e1]) _ (.refl _)⟩
    | true => exact ⟨_, rfl, q (by simp [FS.kn, e1]) _ (.refl _)⟩
theorem in_two {z a b : Str} (h : inV (V.str z) [V.str a, V.str b] = true) : z = a ∨ z = b := by
  simp only [inV, List.any_cons, List.any_nil, eqV, Bool.or_false, Bool.or_eq_true, beq_iff_eq] at h
  exact h.imp Eq.symm Eq.symm
theorem two_in {z a b : Str} (h : z = a ∨ z = b) : inV (V.str z) [V.str a, V.str b] = true := by
  simp only [inV, List.any_cons, List.any_nil, eqV, Bool.or_false, Bool.or_eq_true, beq_iff_eq]
  exact h.imp Eq.symm Eq.symm
theorem sc_Fates__check_running : FnScope ["self", "number"] ["self", "number"] (defScope s_Fates__check_running) :=
  ⟨rfl, rfl, rfl, by decide +kernel, rfl, by decide +kernel, by decide +kernel⟩
theorem ok_running {f : Addr} {fd : FuncData} (F0 : Fun K "_check_running" "Fates._check_running" s_Fates__check_running f fd) (FCC : FC K C) (mo : MO more)
    (M_Fates__check_known : Cm P w K mg base (L2.CX P w) 4 C "_check_known" ["self", "number"] (spAsk K C CP more EE FS.kn)) (X_Ended : Er P w K mg base "Ended" EE.en "number") :
    FnG P w K mg base (L2.CX P w) 5 f fd ["self", "number"] (spAsk K C CP more EE FS.ru) := by
  refine fn_in F0 sc_Fates__check_running (fun vs H Q E h => ?_) (fun cdv A outer s H vs Q E hr hG h => ?_)
  · obtain ⟨a, x, d, S, F, rfl, _⟩ := h
    rfl
  · obtain ⟨a, x, d, S, F, rfl, hA, hx, hsz, q, e⟩ := h
    have hu := hu_of hr
    refine ⟨_, (pss_cons (ps_expr (pe_cm M_Fates__check_known (hr.mono (by decide)) hG (pv 0) (pa_cons (pv 1) pa_nil) (passes_call (takes_of rfl rfl rfl rfl) (fun _ _ _ _ h => h))))
      (pss_one (ps_if (pt_cmpR op_in_seq (pe_ix ix_list (pe_fld (pv 0) rfl) (pe_op op_sub (pv 1) pe_int) (fun _ _ => rfl)) (pe_tup (pa_cons pe_str (pa_cons pe_str pa_nil))) (by rfl)) (pss_one (ps_raise rfl (takes_of rfl rfl rfl rfl) (pmk_er X_Ended (hr.mono (by decide)) hG (pv 1)))) pss_nil))), ?_⟩
    have hA' := hA
    obtain ⟨ad, hf, hF⟩ := hA'
    obtain ⟨dx, lk⟩ := hf.look
    refine ⟨_, rfl, a, dx, _, rfl, lk.o, mo.free (by decide +kernel), _, rfl, a, x, d, S, F, rfl, hA, hx, hsz, fun hk H1 s1 => ?_, fun k hk => e k (by simp [FS.ru, hk])⟩
    obtain ⟨i, rfl, hi⟩ := FS.kn_none hk
    cases hx
    refine ⟨_, rfl, a, C, dx, _, _, rfl, s1 _ _ lk.o, FCC.cls, FCC.n3, rfl, _, rfl, _, _, rfl, rfl, _, _, _, _, rfl, rfl, .inl (.inl (s1 _ _ lk.s)), st_atI hi, (show 2 ≤ sizeLine by decide), fun T nT => ?_⟩
    have z := s1.trans (same_new (o := .tup [V.str "committed", .str "aborted"]) nT)
    refine ⟨T, _, rfl, .inr (.inl (.inl upd_same)), rfl, rfl, _, rfl, ite2 (fun c => ?_) fun c => ?_⟩
    · have c' : S.st (.int ((i : Int) + 1)) = "committed" ∨ S.st (.int ((i : Int) + 1)) = "aborted" := in_two c
      exact ⟨_, rfl, _, rfl, e .en (by simp [FS.ru, hk, c']) _ z⟩
    · have c' : ¬ (S.st (.int ((i : Int) + 1)) = "committed" ∨ S.st (.int ((i : Int) + 1)) = "aborted") := fun y => c (two_in y)
      exact q (by simp [FS.ru, hk, c']) _ z
theorem sc_Fates__check_free : FnScope ["self", "number"] ["self", "number"] (defScope s_Fates__check_free) :=
  ⟨rfl, rfl, rfl, by decide +kernel, rfl, by decide +kernel, by decide +kernel⟩
theorem ok_free {f : Addr} {fd : FuncData} (F0 : Fun K "_check_free" "Fates._check_free" s_Fates__check_free f fd) (FCC : FC K C) (mo : MO more)
    (M_Fates__check_running : Cm P w K mg base (L2.CX P w) 5 C "_check_running" ["self", "number"] (spAsk K C CP more EE FS.ru)) (X_Prepared : Er P w K mg base "Prepared" EE.pr "number") :
    FnG P w K mg base (L2.CX P w) 6 f fd ["self", "number"] (spAsk K C CP more EE FS.fr) := by
  refine fn_in F0 sc_Fates__check_free (fun vs H Q E h => ?_) (fun cdv A outer s H vs Q E hr hG h => ?_)
  · obtain ⟨a, x, d, S, F, rfl, _⟩ := h
    rfl
  · obtain ⟨a, x, d, S, F, rfl, hA, hx, hsz, q, e⟩ := h
    have hu := hu_of hr
    refine ⟨_, (pss_cons (ps_expr (pe_cm M_Fates__check_running (hr.mono (by decide)) hG (pv 0) (pa_cons (pv 1) pa_nil) (passes_call (takes_of rfl rfl rfl rfl) (fun _ _ _ _ h => h))))
      (pss_one (ps_if (pt_cmpR op_eq (pe_ix ix_list (pe_fld (pv 0) rfl) (pe_op op_sub (pv 1) pe_int) (fun _ _ => rfl)) pe_str (nomark _)) (pss_one (ps_raise rfl (takes_of rfl rfl rfl rfl) (pmk_er X_Prepared (hr.mono (by decide)) hG (pv 1)))) pss_nil))), ?_⟩
    have hA' := hA
    obtain ⟨ad, hf, hF⟩ := hA'
    obtain ⟨dx, lk⟩ := hf.look
    refine ⟨_, rfl, a, dx, _, rfl, lk.o, mo.free (by decide +kernel), _, rfl, a, x, d, S, F, rfl, hA, hx, hsz, fun hk H1 s1 => ?_, fun k hk => e k (by simp [FS.fr, hk])⟩
    obtain ⟨i, rfl, hi⟩ := FS.kn_none (FS.ru_none hk).1
    cases hx
    refine ⟨_, rfl, a, C, dx, _, _, rfl, s1 _ _ lk.o, FCC.cls, FCC.n3, rfl, _, rfl, _, _, rfl, rfl, _, _, _, _, rfl, rfl, .inl (.inl (s1 _ _ lk.s)), st_atI hi, ?_⟩
    refine ⟨rfl, _, rfl, ite2 (fun c => ?_) fun c => ?_⟩
    · have c' : S.st (.int ((i : Int) + 1)) = "prepared" := V.str.inj (of_decide_eq_true c)
      exact ⟨_, rfl, _, rfl, e .pr (by simp [FS.fr, hk, c']) _ s1⟩
    · have c' : ¬ S.st (.int ((i : Int) + 1)) = "prepared" := fun y => c (decide_eq_true (by rw [y]))
      exact q (by simp [FS.fr, hk, c']) _ s1
theorem sc_Part___init__ : FnScope ["self", "holder", "outer"] ["self", "holder", "outer"] (defScope s_Part___init__) :=
  ⟨rfl, rfl, rfl, by decide +kernel, rfl, by decide +kernel, by decide +kernel⟩
theorem ok_part {f : Addr} {fd : FuncData} (F0 : Fun K "__init__" "Part.__init__" s_Part___init__ f fd) (PCC : PC K CP) :
    FnG P w K mg base CX0 1 f fd ["self", "holder", "outer"] (spPartI CP) := by
  refine fn_q F0 sc_Part___init__ (fun vs H Q E h => ?_) (fun cdv A outer s H vs Q E hr hG h => ?_)
  · obtain ⟨q, dx, n, o, rfl, _⟩ := h
    rfl
  · obtain ⟨q, dx, n, o, rfl, hq, k⟩ := h
    refine ⟨_, (pss_cons (ps_fld (pv 0) (pv 1) rfl)
      (pss_cons (ps_fld (pv 0) (pv 2) rfl)
      (pss_cons (ps_fld (pv 0) pe_non rfl)
      (pss_cons (ps_fld (pv 0) pe_non rfl)
      (pss_one (ps_fld (pv 0) pe_str rfl)))))), ?_⟩
    refine ⟨_, rfl, _, rfl, _, _, dx, _, rfl, hq, PCC.cls, PCC.n0, (show 0 < 1000 by decide), ?_⟩
    refine ⟨_, rfl, _, rfl, _, _, dx, _, rfl, upd_same, PCC.cls, PCC.n1, (show 1 < 1000 by decide), ?_⟩
    refine ⟨_, rfl, _, _, dx, _, rfl, upd_same, PCC.cls, PCC.n2, (show 2 < 1000 by decide), ?_⟩
    refine ⟨_, rfl, _, _, dx, _, rfl, upd_same, PCC.cls, PCC.n3, (show 3 < 1000 by decide), ?_⟩
    refine ⟨_, rfl, _, _, dx, _, rfl, upd_same, PCC.cls, PCC.n4, (show 4 < 1000 by decide), ?_⟩
    simp only [upd_upd]
    have e := part_new (CP := CP) (dx := dx) (n := n) (o := o)
    show Q .non (upd H q (HO.ins CP dx (putF "outcome" (.str "open") (putF "ended" .non (putF "released" .non (putF "outer" (oI o) (putF "holder" (.int n) [])))))))
    rw [e]
    exact k
theorem sc_Fates__open_part : FnScope ["self", "number", "outer", "part"] ["self", "number", "outer"] (defScope s_Fates__open_part) :=
  ⟨rfl, rfl, rfl, by decide +kernel, rfl, by decide +kernel, by decide +kernel⟩
theorem ok_openp {f : Addr} {fd : FuncData} (F0 : Fun K "_open_part" "Fates._open_part" s_Fates__open_part f fd) (B : Bl mg) (FCC : FC K C) (mo : MO more)
    (D_Part : Cn P w K mg base CX0 1 "Part" CP ["self", "holder", "outer"] (spPartI CP)) :
    FnG P w K mg base CX0 3 f fd ["self", "number", "outer"] (spOpen C CP more) := by
  refine fn_q F0 sc_Fates__open_part (fun vs H Q E h => ?_) (fun cdv A outer s H vs Q E hr hG h => ?_)
  · obtain ⟨a, i, o, S, F, l, rfl, _⟩ := h
    rfl
  · obtain ⟨a, i, o, S, F, l, rfl, hA, hl, hp, hl2, q⟩ := h
    have hu := hu_of hr
    refine ⟨_, (pss_cons (ps_expr (pe_bm PySem.F.plainAttrs_list PySem.F.slot_list_append PySem.F.type_list_append mt_append (pe_fld (pv 0) rfl) (pa_cons (pe_cn D_Part (hr.mono (by decide)) hG (pa_cons (pv 1) (pa_cons (pv 2) pa_nil)) pass0) pa_nil)))
      (pss_cons (ps_set (i := 3) sc_Fates__open_part.nd rfl (Or.inl rfl) (pe_callB call_len_seq (by rfl) B.n_len (by decide +kernel) (pa_cons (pe_fld (pv 0) rfl) pa_nil)))
      (pss_cons (ps_expr (pe_bm PySem.F.plainAttrs_list PySem.F.slot_list_append PySem.F.type_list_append mt_append (pe_ix ix_list (pe_fld (pv 0) rfl) (pe_op op_sub (pv 1) pe_int) (fun _ _ => rfl)) (pa_cons (pv 3) pa_nil)))
      (pss_one (ps_ret (pv 3)))))), ?_⟩
    obtain ⟨ad, hf, hF⟩ := id hA
    obtain ⟨dx, lk⟩ := hf.look
    refine ⟨_, rfl, a, C, dx, _, _, rfl, lk.o, FCC.cls, FCC.n5, rfl, .inl ⟨rfl, _, .inl (.inl lk.p)⟩, ?_⟩
    refine ⟨_, rfl, _, rfl, fun y dy ny nd ne => ⟨y, dy, (i : Int) + 1, o, rfl, upd_same, rfl, ?_⟩⟩
    rw [upd_upd]
    have s1 := same_two (o := .own y) (o' := partO CP dy ⟨(i : Int) + 1, o, none, none, "open"⟩) nd ny ne
    have hy := upd_same (H := upd H dy (.own y)) (a := y) (o := partO CP dy ⟨(i : Int) + 1, o, none, none, "open"⟩)
    generalize upd (upd H dy (.own y)) y (partO CP dy ⟨(i : Int) + 1, o, none, none, "open"⟩) = H1 at s1 hy ⊢
    refine ⟨ad .parts, _, _, rfl, rfl, s1 _ _ lk.p, by rw [List.length_map, List.length_range]; exact sz1000 hp, ?_⟩
    obtain ⟨hA2, fr2⟩ := FsA.addPart hf hF s1 ny hy
    have gr2 := Grow.add (F := F) ny
    generalize upd H1 (ad .parts) _ = H2 at hA2 fr2 ⊢
    obtain ⟨ad2, hf2, hF2⟩ := id hA2
    obtain ⟨dx2, lk2⟩ := hf2.look
    have hi : i < S.stacks.length := (List.getElem?_eq_some_iff.mp hl).1
    have stk := hf2.stk (i := i) (l := l) hl
    have en : (((List.range (S.parts ++ [(⟨(i : Int) + 1, o, none, none, "open"⟩ : PI)]).length).map fun i => V.ref (ad2 (.part i))).length : Int) = (S.parts.length : Int) + 1 := by simp
    refine ⟨_, rfl, a, C, dx2, _, _, rfl, lk2.o, FCC.cls, FCC.n5, rfl, _, _, rfl, .inl (.inl (.inl lk2.p)), ?_⟩
    rw [en]
    refine ⟨_, rfl, a, C, dx2, _, _, rfl, lk2.o, FCC.cls, FCC.n4, rfl, _, rfl, _, _, rfl, rfl, ad2 .stacks, _, _, .ref (ad2 (.stack i)), rfl, rfl, .inl (.inl lk2.k), refs_atI hi, .inl ⟨rfl, _, .inl (.inl stk)⟩, _, rfl, ad2 (.stack i), _, _, rfl, rfl, stk, by rw [List.length_map]; exact sz1000 hl2, ?_⟩
    obtain ⟨hA3, fr3⟩ := FsA.setStack (l := l ++ [(S.parts.length : Int) + 1]) hf2 hF2 hi
    rw [List.map_append] at hA3 fr3
    refine ⟨_, rfl, q _ _ ?_ (fr2.trans gr2 fr3) gr2⟩
    have eg : S.stacks.getD i [] = l := by rw [List.getD_eq_getElem?_getD, hl]; rfl
    have eS : S.opn i o = { S with parts := S.parts ++ [⟨(i : Int) + 1, o, none, none, "open"⟩], stacks := S.stacks.set i (l ++ [(S.parts.length : Int) + 1]) } := by
      unfold FS.opn
      rw [eg]
    rw [eS]
    exact hA3
theorem sc_Fates_begin : FnScope ["self", "number"] ["self"] (defScope s_Fates_begin) :=
  ⟨rfl, rfl, rfl, by decide +kernel, rfl, by decide +kernel, by decide +kernel⟩
theorem ok_begin {f : Addr} {fd : FuncData} {tk : Tok} (F0 : Fun K "begin" "Fates.begin" s_Fates_begin f fd) (B : Bl mg) (FCC : FC K C) (mo : MO more) (g_RUN : mg "MOST_RUNNING" = some (.int 8 tk))
    (M_Fates__count_operation : Cm P w K mg base CX0 1 C "_count_operation" ["self"] (spCnt C CP more)) (M_Fates__open_part : Cm P w K mg base CX0 3 C "_open_part" ["self", "number", "outer"] (spOpen C CP more))
    (X_TooMany : Er P w K mg base "TooMany" EE.tm "limit") :
    FnG P w K mg base (L2.CX P w) 5 f fd ["self"] (spBegin C CP more EE) := by
  refine fn_in F0 sc_Fates_begin (fun vs H Q E h => ?_) (fun cdv A outer s H vs Q E hr hG h => ?_)
  · obtain ⟨a, S, F, rfl, _⟩ := h
    rfl
  · obtain ⟨a, S, F, rfl, hA, wf, q, e⟩ := h
    have hu := hu_of hr
    refine ⟨_, (pss_cons (ps_if (pt_cmpR op_ge (pe_callB call_len_seq (by rfl) B.n_len (by decide +kernel) (pa_cons (pe_fld (pv 0) rfl) pa_nil)) (pe_glob (v := .int 8) (by rfl) g_RUN ⟨_, rfl⟩) (nomark _)) (pss_one (ps_raise rfl (takes_of rfl rfl rfl rfl) (pmk_er X_TooMany (hr.mono (by decide)) hG (pe_glob (v := .int 8) (by rfl) g_RUN ⟨_, rfl⟩)))) pss_nil)
      (pss_cons (ps_expr (pe_cm0 M_Fates__count_operation (hr.mono (by decide)) hG (pv 0) pass0))
      (pss_cons (ps_set (i := 1) sc_Fates_begin.nd rfl (Or.inl rfl) (pe_op op_add (pe_callB call_len_seq (by rfl) B.n_len (by decide +kernel) (pa_cons (pe_fld (pv 0) rfl) pa_nil)) pe_int))
      (pss_cons (ps_expr (pe_bm PySem.F.plainAttrs_list PySem.F.slot_list_append PySem.F.type_list_append mt_append (pe_fld (pv 0) rfl) (pa_cons pe_str pa_nil)))
      (pss_cons (ps_expr (pe_bm PySem.F.plainAttrs_list PySem.F.slot_list_append PySem.F.type_list_append mt_append (pe_fld (pv 0) rfl) (pa_cons (pe_lst pa_nil) pa_nil)))
      (pss_cons (ps_expr (pe_bm PySem.F.plainAttrs_list PySem.F.slot_list_append PySem.F.type_list_append mt_append (pe_fld (pv 0) rfl) (pa_cons (pv 1) pa_nil)))
      (pss_cons (ps_expr (pe_cm M_Fates__open_part (hr.mono (by decide)) hG (pv 0) (pa_cons (pv 1) (pa_cons pe_non pa_nil)) pass0))
      (pss_one (ps_ret (pv 1)))))))))), ?_⟩
    obtain ⟨ad, hf, hF⟩ := id hA
    obtain ⟨dx, lk⟩ := hf.look
    refine ⟨_, rfl, a, C, dx, _, _, rfl, lk.o, FCC.cls, FCC.n2, rfl, _, _, rfl, .inl (.inl (.inl lk.w)), _, _, rfl, rfl, _, rfl, ite2 (fun c => ?_) fun c => ?_⟩
    · have c' := of_decide_eq_true c
      rw [List.length_map] at c'
      exact ⟨_, rfl, e (by omega)⟩
    · have c' := of_decide_eq_false (eq_false_of_ne_true c)
      rw [List.length_map] at c'
      refine ⟨_, rfl, a, dx, _, rfl, lk.o, mo.free (by decide +kernel), a, S, F, rfl, hA, fun H1 hA1 _ fr1 => ?_⟩
      obtain ⟨ad1, hf1, hF1⟩ := id hA1
      obtain ⟨dx1, lk1⟩ := hf1.look
      refine ⟨_, rfl, a, C, dx1, _, _, rfl, lk1.o, FCC.cls, FCC.n3, rfl, _, _, rfl, .inl (.inl (.inl lk1.s)), _, _, rfl, rfl, ?_⟩
      rw [List.length_map]
      refine ⟨_, rfl, a, C, dx1, _, _, rfl, lk1.o, FCC.cls, FCC.n3, rfl, .inl ⟨rfl, _, .inl (.inl lk1.s)⟩, ad1 .states, _, _, rfl, rfl, lk1.s, by rw [List.length_map]; exact sz1000 (Nat.le_trans wf.n (by decide)), ?_⟩
      obtain ⟨hA2, fr2⟩ := FsA.setStates (zs := S.cnt.states ++ [("running" : Str)]) hf1 hF1
      simp only [List.map_append, List.map_cons, List.map_nil] at hA2 fr2
      have fr2 := fr1.trans .refl fr2
      generalize upd H1 (ad1 .states) _ = H2 at hA2 fr2 ⊢
      obtain ⟨ad2, hf2, hF2⟩ := id hA2
      obtain ⟨dx2, lk2⟩ := hf2.look
      refine ⟨_, rfl, a, C, dx2, _, _, rfl, lk2.o, FCC.cls, FCC.n4, rfl, .inl ⟨rfl, _, .inl (.inl lk2.k)⟩, (show 0 ≤ sizeLine by decide), fun y ny => ⟨ad2 .stacks, _, _, rfl, rfl, (same_new ny) _ _ lk2.k, by rw [List.length_map, List.length_range]; exact sz1000 (by have := wf.ls; have := wf.n; show S.stacks.length ≤ 1000; omega), ?_⟩⟩
      obtain ⟨hA3, fr3⟩ := FsA.addStack (l := []) hf2 hF2 ny
      simp only [List.map_nil] at hA3 fr3
      have gr3 := Grow.refl.trans fr2 (Grow.add (F := F) ny)
      have fr3 := fr2.trans .refl fr3
      generalize upd (upd H2 y (.lst [])) (ad2 .stacks) _ = H3 at hA3 fr3 ⊢
      obtain ⟨ad3, hf3, hF3⟩ := id hA3
      obtain ⟨dx3, lk3⟩ := hf3.look
      refine ⟨_, rfl, a, C, dx3, _, _, rfl, lk3.o, FCC.cls, FCC.n2, rfl, .inl ⟨rfl, _, .inl (.inl lk3.w)⟩, _, rfl, ad3 .work, _, _, rfl, rfl, lk3.w, by rw [List.length_map]; exact sz1000 (Nat.le_trans wf.w (by decide)), ?_⟩
      obtain ⟨hA4, fr4⟩ := FsA.setWork (ws := S.cnt.work ++ [(S.cnt.states.length : Int) + 1]) hf3 hF3
      simp only [List.map_append, List.map_cons, List.map_nil] at hA4 fr4
      have fr4 := fr3.trans gr3 fr4
      generalize upd H3 (ad3 .work) _ = H4 at hA4 fr4 ⊢
      obtain ⟨ad4, hf4, hF4⟩ := id hA4
      obtain ⟨dx4, lk4⟩ := hf4.look
      refine ⟨_, rfl, a, dx4, _, rfl, lk4.o, mo.free (by decide +kernel), _, rfl, a, S.states.length, none, _, _, [], rfl, hA4, ?_, Nat.le_trans wf.p (by decide), by decide, fun H5 F5 hA5 fr5 gr5 => ⟨_, rfl, q (by omega) _ _ hA5 (fr4.trans gr3 fr5) (gr3.trans fr4 gr5)⟩⟩
      show (S.stacks ++ [[]])[S.states.length]? = some []
      rw [← wf.ls, List.getElem?_append_right (Nat.le_refl _)]
      simp
end
end K08

set_option maxRecDepth 100000
set_option maxHeartbeats 4000000
namespace K08
open PySem PySem.Spec L2 Rm
open PyProof.Rows hiding St
section
variable {P : Program} {w : World} {K : PySem.W.Frag} {mg : Str → Option Value} {base : Heap} {C CP : Addr} {more : List (Str × V)} {EE : EA}
theorem sc_Fates__end_part : FnScope ["self", "part", "outcome", "ended"] ["self", "part", "outcome"] (defScope s_Fates__end_part) :=
  ⟨rfl, rfl, rfl, by decide +kernel, rfl, by decide +kernel, by decide +kernel⟩
theorem ok_endp {f : Addr} {fd : FuncData} (F0 : Fun K "_end_part" "Fates._end_part" s_Fates__end_part f fd) (FCC : FC K C) (PCC : PC K CP) :
    FnG P w K mg base CX0 1 f fd ["self", "part", "outcome"] (spEndP C CP more) := by
  refine fn_q F0 sc_Fates__end_part (fun vs H Q E h => ?_) (fun cdv A outer s H vs Q E hr hG h => ?_)
  · obtain ⟨a, q0, z, S, F, rfl, _⟩ := h
    rfl
  · obtain ⟨a, q0, z, S, F, rfl, hA, h1, h2, q⟩ := h
    have hu := hu_of hr
    refine ⟨_, (pss_cons (ps_set (i := 3) sc_Fates__end_part.nd rfl (Or.inl rfl) (pe_ix ix_list (pe_fld (pv 0) rfl) (pe_op op_sub (pv 1) pe_int) (fun _ _ => rfl)))
      (pss_cons (ps_fld (pv 3) (pv 2) rfl)
      (pss_one (ps_fld (pv 3) (pe_fld (pv 0) rfl) rfl)))), ?_⟩
    obtain ⟨ad, hf, hF⟩ := id hA
    obtain ⟨dx, lk⟩ := hf.look
    obtain ⟨j, rfl⟩ : ∃ j : Nat, q0 = (j : Int) + 1 := ⟨(q0 - 1).toNat, by omega⟩
    have hj : j < S.parts.length := by omega
    have hp := List.getElem?_eq_getElem hj
    obtain ⟨dp, hd⟩ := hf.prt hp
    refine ⟨_, rfl, a, C, dx, _, _, rfl, lk.o, FCC.cls, FCC.n5, rfl, _, rfl, _, _, rfl, rfl, ad .parts, _, _, .ref (ad (.part j)), rfl, rfl, .inl (.inl lk.p), refs_atI hj, ?_⟩
    refine ⟨_, rfl, _, rfl, _, CP, dp, _, rfl, hd, PCC.cls, PCC.n4, (show 5 < 1000 by decide), ?_⟩
    have na : a ≠ ad (.part j) := fun e => by
      have := hf.inj .obj (.part j) trivial hj (hf.at_.trans e)
      cases this
    refine ⟨_, rfl, a, C, dx, _, _, rfl, by rw [upd_ne na]; exact lk.o, FCC.cls, FCC.n0, rfl, _, rfl, _, CP, dp, _, rfl, upd_same, PCC.cls, PCC.n3, (show 5 < 1000 by decide), ?_⟩
    rw [upd_upd]
    have pe := part_end (CP := CP) (dx := dp) (p := S.parts[j]) (i := S.done) (z := z)
    obtain ⟨hA2, fr2⟩ := FsA.setPart (p := { S.parts[j] with ended := some S.done, outcome := z }) hf hF hj (dx := dp) ⟨_, hd⟩
    have hP := fun (ad' : Ro → Addr) (hf' : FsAt C CP more H a S ad') => (hf.setPartAt (p := { S.parts[j] with ended := some S.done, outcome := z }) hj (dx := dp) ⟨_, hd⟩).congr (ad' := ad') fun r hr => hf.uniq hf' r (by cases r <;> simpa [Ro.ok] using hr)
    rw [← pe] at hA2 fr2 hP
    have e : S.endP ((j : Int) + 1) z = { S with parts := S.parts.set j { S.parts[j] with ended := some S.done, outcome := z } } := by
      unfold FS.endP FS.mdP
      rw [Int.add_sub_cancel, Int.toNat_natCast, ← modify_set (f := fun p => { p with ended := some S.done, outcome := z }) hp]
    rw [← e] at hA2 hP
    exact q _ hA2 hP fr2
theorem sc_Fates__take_innermost : FnScope ["self", "number"] ["self", "number"] (defScope s_Fates__take_innermost) :=
  ⟨rfl, rfl, rfl, by decide +kernel, rfl, by decide +kernel, by decide +kernel⟩
theorem ok_take {f : Addr} {fd : FuncData} (F0 : Fun K "_take_innermost" "Fates._take_innermost" s_Fates__take_innermost f fd) (B : Bl mg) (FCC : FC K C) (mo : MO more)
    (M_Fates__check_free : Cm P w K mg base (L2.CX P w) 6 C "_check_free" ["self", "number"] (spAsk K C CP more EE FS.fr)) (M_Fates__count_operation : Cm P w K mg base CX0 1 C "_count_operation" ["self"] (spCnt C CP more))
    (X_FirstPart : Er P w K mg base "FirstPart" EE.fp "number") :
    FnG P w K mg base (L2.CX P w) 7 f fd ["self", "number"] (spNumK K C CP more EE FS.tkE FS.tk fun S i => .int (lastI (S.stacks.getD i []))) := by
  refine fn_in F0 sc_Fates__take_innermost (fun vs H Q E h => ?_) (fun cdv A outer s H vs Q E hr hG h => ?_)
  · obtain ⟨a, x, d, S, F, rfl, _⟩ := h
    rfl
  · obtain ⟨a, x, d, S, F, rfl, hA, hx, wf, e, q⟩ := h
    have hu := hu_of hr
    refine ⟨_, (pss_cons (ps_expr (pe_cm M_Fates__check_free (hr.mono (by decide)) hG (pv 0) (pa_cons (pv 1) pa_nil) (passes_call (takes_of rfl rfl rfl rfl) (fun _ _ _ _ h => h))))
      (pss_cons (ps_if (pt_cmpR op_eq (pe_callB call_len_seq (by rfl) B.n_len (by decide +kernel) (pa_cons (pe_ix ix_list (pe_fld (pv 0) rfl) (pe_op op_sub (pv 1) pe_int) (fun _ _ => rfl)) pa_nil)) pe_int (nomark _)) (pss_one (ps_raise rfl (takes_of rfl rfl rfl rfl) (pmk_er X_FirstPart (hr.mono (by decide)) hG (pv 1)))) pss_nil)
      (pss_cons (ps_expr (pe_cm0 M_Fates__count_operation (hr.mono (by decide)) hG (pv 0) pass0))
      (pss_one (ps_ret (pe_bm0 PySem.F.plainAttrs_list PySem.F.slot_list_pop PySem.F.type_list_pop mt_pop (pe_ix ix_list (pe_fld (pv 0) rfl) (pe_op op_sub (pv 1) pe_int) (fun _ _ => rfl)))))))), ?_⟩
    obtain ⟨ad, hf, hF⟩ := id hA
    obtain ⟨dx, lk⟩ := hf.look
    refine ⟨_, rfl, a, dx, _, rfl, lk.o, mo.free (by decide +kernel), _, rfl, a, x, d, S, F, rfl, hA, hx, Nat.le_trans wf.n (by decide), fun hk H1 s1 => ?_, fun k hk => by
      have z := e k (tkE_fr hk)
      rw [fr_kv hk] at z
      exact z⟩
    obtain ⟨i, rfl, hi⟩ := FS.kn_none (FS.ru_none (FS.fr_none hk).1).1
    cases hx
    have hA1 := hA.same s1
    have hf1 := hf.same s1
    have hF1 := hF
    obtain ⟨dx1, lk1⟩ := hf1.look
    have his : i < S.stacks.length := by rw [wf.ls]; exact hi
    have stk := hf1.stk (wf.stk hi)
    refine ⟨_, rfl, a, C, dx1, _, _, rfl, lk1.o, FCC.cls, FCC.n4, rfl, _, rfl, _, _, rfl, rfl, ad .stacks, _, _, .ref (ad (.stack i)), rfl, rfl, .inl (.inl lk1.k), refs_atI his, ?_⟩
    refine ⟨_, _, rfl, .inl (.inl (.inl stk)), rfl, _, rfl, ite2 (fun c => ?_) fun c => ?_⟩
    · have c' : (S.stacks.getD i []).length = 1 := by
        have := of_decide_eq_true c
        rw [List.length_map] at this
        have z := V.int.inj this
        omega
      exact ⟨_, rfl, _, rfl, e .fp (tkE_some hk (by rw [sk_at]; exact c')) _ s1⟩
    · have c' : ¬ (S.stacks.getD i []).length = 1 := fun y => c (decide_eq_true (by rw [List.length_map, y]; rfl))
      refine ⟨_, rfl, a, dx1, _, rfl, lk1.o, mo.free (by decide +kernel), a, S, F, rfl, hA1, fun H2 hA2 hu2 fr2 => ?_⟩
      have hf2 := hu2 _ hf1
      have hF2 := hF1
      obtain ⟨dx2, lk2⟩ := hf2.look
      have stk2 := hf2.stk (i := i) (l := S.stacks.getD i []) (wf.stk hi)
      refine ⟨_, rfl, a, C, dx2, _, _, rfl, lk2.o, FCC.cls, FCC.n4, rfl, _, rfl, _, _, rfl, rfl, ad .stacks, _, _, .ref (ad (.stack i)), rfl, rfl, .inl (.inl lk2.k), refs_atI his, .inl ⟨rfl, _, .inl (.inl stk2)⟩, ?_⟩
      refine ⟨ad (.stack i), _, _, rfl, rfl, stk2, lastI_get (wf.nel hi (FS.fr_none hk).1), ?_⟩
      obtain ⟨⟨hf3, _⟩, fr3⟩ := FsA.setStackAt (l := (S.stacks.getD i []).dropLast) hf2 (F := F) (fun b => hF2 b) his
      rw [List.map_dropLast] at hf3 fr3
      refine q i rfl hi (tkE_none hk (by rw [sk_at]; exact c')) _ ⟨ad, hf3, fun b => (hF2 b).trans (by
        constructor
        · rintro ⟨r, h, e⟩
          exact ⟨r, by cases r <;> simpa [Ro.ok, FS.tk, FS.cnt] using h, e⟩
        · rintro ⟨r, h, e⟩
          exact ⟨r, by cases r <;> simpa [Ro.ok, FS.tk, FS.cnt] using h, e⟩)⟩ (fun ad' hf' => hf3.congr fun r hr => ?_) ((Fr.same s1).trans .refl (fr2.trans .refl fr3))
      have hr' : r.ok S := by cases r <;> simpa [Ro.ok, FS.tk, FS.cnt] using hr
      exact hf.uniq hf' r hr'
theorem sc_Fates_save : FnScope ["self", "number", "stack"] ["self", "number"] (defScope s_Fates_save) :=
  ⟨rfl, rfl, rfl, by decide +kernel, rfl, by decide +kernel, by decide +kernel⟩
theorem ok_save {f : Addr} {fd : FuncData} {tk : Tok} (F0 : Fun K "save" "Fates.save" s_Fates_save f fd) (B : Bl mg) (FCC : FC K C) (mo : MO more) (g_OPEN : mg "MOST_OPEN" = some (.int 5 tk))
    (M_Fates__check_free : Cm P w K mg base (L2.CX P w) 6 C "_check_free" ["self", "number"] (spAsk K C CP more EE FS.fr)) (M_Fates__count_operation : Cm P w K mg base CX0 1 C "_count_operation" ["self"] (spCnt C CP more))
    (M_Fates__open_part : Cm P w K mg base CX0 3 C "_open_part" ["self", "number", "outer"] (spOpen C CP more)) (X_TooMany : Er P w K mg base "TooMany" EE.tm "limit") :
    FnG P w K mg base (L2.CX P w) 7 f fd ["self", "number"] (spNum K C CP more EE FS.savE FS.sav fun S i => .int ((S.parts.length : Int) + 1)) := by
  refine fn_in F0 sc_Fates_save (fun vs H Q E h => ?_) (fun cdv A outer s H vs Q E hr hG h => ?_)
  · obtain ⟨a, x, d, S, F, rfl, _⟩ := h
    rfl
  · obtain ⟨a, x, d, S, F, rfl, hA, hx, wf, e, q⟩ := h
    have hu := hu_of hr
    refine ⟨_, (pss_cons (ps_expr (pe_cm M_Fates__check_free (hr.mono (by decide)) hG (pv 0) (pa_cons (pv 1) pa_nil) (passes_call (takes_of rfl rfl rfl rfl) (fun _ _ _ _ h => h))))
      (pss_cons (ps_set (i := 2) sc_Fates_save.nd rfl (Or.inl rfl) (pe_ix ix_list (pe_fld (pv 0) rfl) (pe_op op_sub (pv 1) pe_int) (fun _ _ => rfl)))
      (pss_cons (ps_if (pt_cmpR op_ge (pe_callB call_len_seq (by rfl) B.n_len (by decide +kernel) (pa_cons (pv 2) pa_nil)) (pe_glob (v := .int 5) (by rfl) g_OPEN ⟨_, rfl⟩) (nomark _)) (pss_one (ps_raise rfl (takes_of rfl rfl rfl rfl) (pmk_er X_TooMany (hr.mono (by decide)) hG (pe_glob (v := .int 5) (by rfl) g_OPEN ⟨_, rfl⟩)))) pss_nil)
      (pss_cons (ps_expr (pe_cm0 M_Fates__count_operation (hr.mono (by decide)) hG (pv 0) pass0))
      (pss_one (ps_ret (pe_cm M_Fates__open_part (hr.mono (by decide)) hG (pv 0) (pa_cons (pv 1) (pa_cons (pe_ix ix_list (pv 2) (pe_un un_neg pe_int) (fun _ _ => rfl)) pa_nil)) pass0))))))), ?_⟩
    obtain ⟨ad, hf, hF⟩ := id hA
    obtain ⟨dx, lk⟩ := hf.look
    refine ⟨_, rfl, a, dx, _, rfl, lk.o, mo.free (by decide +kernel), _, rfl, a, x, d, S, F, rfl, hA, hx, Nat.le_trans wf.n (by decide), fun hk H1 s1 => ?_, fun k hk => by
      have z := e k (savE_fr hk)
      rw [fr_kv hk] at z
      exact z⟩
    obtain ⟨i, rfl, hi⟩ := FS.kn_none (FS.ru_none (FS.fr_none hk).1).1
    cases hx
    have hA1 := hA.same s1
    obtain ⟨ad1, hf1, hF1⟩ := id hA1
    obtain ⟨dx1, lk1⟩ := hf1.look
    have his : i < S.stacks.length := by rw [wf.ls]; exact hi
    have stk := hf1.stk (wf.stk hi)
    refine ⟨_, rfl, a, C, dx1, _, _, rfl, lk1.o, FCC.cls, FCC.n4, rfl, _, rfl, _, _, rfl, rfl, ad1 .stacks, _, _, .ref (ad1 (.stack i)), rfl, rfl, .inl (.inl lk1.k), refs_atI his, ?_⟩
    refine ⟨_, rfl, _, _, rfl, .inl (.inl (.inl stk)), _, _, rfl, rfl, _, rfl, ite2 (fun c => ?_) fun c => ?_⟩
    · have c' : 5 ≤ (S.stacks.getD i []).length := by
        have := of_decide_eq_true c
        rw [List.length_map] at this
        omega
      exact ⟨_, rfl, e .tm (savE_some hk (by rw [sk_at]; exact c')) _ s1⟩
    · have c' : ¬ 5 ≤ (S.stacks.getD i []).length := fun y => c (decide_eq_true (by rw [List.length_map]; omega))
      refine ⟨_, rfl, a, dx1, _, rfl, lk1.o, mo.free (by decide +kernel), a, S, F, rfl, hA1, fun H2 hA2 hu2 fr2 => ?_⟩
      have hf2 := hu2 _ hf1
      obtain ⟨dx2, lk2⟩ := hf2.look
      have stk2 := hf2.stk (i := i) (l := S.stacks.getD i []) (wf.stk hi)
      have nel := wf.nel hi (FS.fr_none hk).1
      refine ⟨_, rfl, a, dx2, _, rfl, lk2.o, mo.free (by decide +kernel), _, rfl, _, rfl, _, rfl, _, _, _, _, rfl, rfl, .inl (.inl stk2), lastI_at nel, a, i, some (lastI (S.stacks.getD i [])), S.cnt, F, S.stacks.getD i [], rfl, hA2, wf.stk hi, Nat.le_trans wf.p (by decide), Nat.le_trans (wf.k _ (wf.mem hi)) (by decide), fun H3 F3 hA3 fr3 gr3 => ?_⟩
      exact q i rfl hi (savE_none hk (by rw [sk_at]; exact c')) _ _ hA3 ((Fr.same s1).trans .refl (fr2.trans .refl fr3)) (Grow.refl.trans ((Fr.same s1).trans .refl fr2) gr3)
theorem sc_Fates_release : FnScope ["self", "number", "part"] ["self", "number"] (defScope s_Fates_release) :=
  ⟨rfl, rfl, rfl, by decide +kernel, rfl, by decide +kernel, by decide +kernel⟩
theorem ok_release {f : Addr} {fd : FuncData} (F0 : Fun K "release" "Fates.release" s_Fates_release f fd) (FCC : FC K C) (PCC : PC K CP) (mo : MO more)
    (M_Fates__take_innermost : Cm P w K mg base (L2.CX P w) 7 C "_take_innermost" ["self", "number"] (spNumK K C CP more EE FS.tkE FS.tk fun S i => .int (lastI (S.stacks.getD i [])))) :
    FnG P w K mg base (L2.CX P w) 8 f fd ["self", "number"] (spNum K C CP more EE FS.tkE FS.rel fun _ _ => .non) := by
  refine fn_in F0 sc_Fates_release (fun vs H Q E h => ?_) (fun cdv A outer s H vs Q E hr hG h => ?_)
  · obtain ⟨a, x, d, S, F, rfl, _⟩ := h
    rfl
  · obtain ⟨a, x, d, S, F, rfl, hA, hx, wf, e, q⟩ := h
    have hu := hu_of hr
    refine ⟨_, (pss_cons (ps_set (i := 2) sc_Fates_release.nd rfl (Or.inl rfl) (pe_ix ix_list (pe_fld (pv 0) rfl) (pe_op op_sub (pe_cm M_Fates__take_innermost (hr.mono (by decide)) hG (pv 0) (pa_cons (pv 1) pa_nil) (passes_call (takes_of rfl rfl rfl rfl) (fun _ _ _ _ h => h))) pe_int) (fun _ _ => rfl)))
      (pss_one (ps_fld (pv 2) (pe_fld (pv 0) rfl) rfl))), ?_⟩
    obtain ⟨ad, hf, hF⟩ := id hA
    obtain ⟨dx, lk⟩ := hf.look
    refine ⟨_, rfl, a, C, dx, _, _, rfl, lk.o, FCC.cls, FCC.n5, rfl, _, rfl, a, dx, _, rfl, lk.o, mo.free (by decide +kernel), _, rfl, a, x, d, S, F, rfl, hA, hx, wf, e, fun i ed hi hk H1 hA1 hu1 fr1 => ?_⟩
    have hf1 := hu1 _ hf
    obtain ⟨dx1, lk1⟩ := hf1.look
    have hfr : S.fr d = none := by
      cases z : S.fr d with
      | none => rfl
      | some k => rw [tkE_fr z] at hk; cases hk
    subst ed
    have nel := wf.nel hi (FS.fr_none hfr).1
    obtain ⟨q1, q2⟩ := wf.kp _ (wf.mem hi) _ (lastI_mem nel)
    have eR : S.rel i = (S.tk i).mdP (lastI (S.stacks.getD i [])) fun p => { p with released := some (S.done + 1) } := rfl
    obtain ⟨j, ej⟩ : ∃ j : Nat, lastI (S.stacks.getD i []) = (j : Int) + 1 := ⟨(lastI (S.stacks.getD i []) - 1).toNat, by omega⟩
    rw [ej] at eR
    have hj : j < (S.tk i).parts.length := by show j < S.parts.length; omega
    have hp := List.getElem?_eq_getElem hj
    obtain ⟨dp, hd⟩ := hf1.prt hp
    refine ⟨_, _, rfl, rfl, ad .parts, _, _, .ref (ad (.part j)), rfl, rfl, .inl (.inl lk1.p), by rw [ej]; exact refs_atI hj, ?_⟩
    refine ⟨_, rfl, a, C, dx1, _, _, rfl, lk1.o, FCC.cls, FCC.n0, rfl, _, rfl, _, CP, dp, _, rfl, hd, PCC.cls, PCC.n2, (show 5 < 1000 by decide), ?_⟩
    obtain ⟨hA2, fr2⟩ := FsA.setPart (p := { (S.tk i).parts[j] with released := some (S.done + 1) }) hf1 (F := F) (fun b => (hF b).trans (by
        constructor
        · rintro ⟨r, h, e⟩
          exact ⟨r, by cases r <;> simpa [Ro.ok, FS.tk, FS.cnt] using h, e⟩
        · rintro ⟨r, h, e⟩
          exact ⟨r, by cases r <;> simpa [Ro.ok, FS.tk, FS.cnt] using h, e⟩)) hj (dx := dp) ⟨_, hd⟩
    have pe := part_rel (CP := CP) (dx := dp) (p := (S.tk i).parts[j]) (i := S.done + 1)
    rw [← pe] at hA2 fr2
    refine q i rfl hi hk _ F ?_ (fr1.trans .refl fr2) .refl
    rw [eR]
    unfold FS.mdP
    rw [Int.add_sub_cancel, Int.toNat_natCast, ← modify_set (f := fun p => { p with released := some (S.done + 1) }) hp]
    exact hA2
theorem sc_Fates_back : FnScope ["self", "number", "part"] ["self", "number"] (defScope s_Fates_back) :=
  ⟨rfl, rfl, rfl, by decide +kernel, rfl, by decide +kernel, by decide +kernel⟩
theorem ok_back {f : Addr} {fd : FuncData} (F0 : Fun K "back" "Fates.back" s_Fates_back f fd) (mo : MO more)
    (M_Fates__take_innermost : Cm P w K mg base (L2.CX P w) 7 C "_take_innermost" ["self", "number"] (spNumK K C CP more EE FS.tkE FS.tk fun S i => .int (lastI (S.stacks.getD i []))))
    (M_Fates__end_part : Cm P w K mg base CX0 1 C "_end_part" ["self", "part", "outcome"] (spEndP C CP more)) :
    FnG P w K mg base (L2.CX P w) 8 f fd ["self", "number"] (spNum K C CP more EE FS.tkE FS.bak fun _ _ => .non) := by
  refine fn_in F0 sc_Fates_back (fun vs H Q E h => ?_) (fun cdv A outer s H vs Q E hr hG h => ?_)
  · obtain ⟨a, x, d, S, F, rfl, _⟩ := h
    rfl
  · obtain ⟨a, x, d, S, F, rfl, hA, hx, wf, e, q⟩ := h
    have hu := hu_of hr
    refine ⟨_, (pss_cons (ps_set (i := 2) sc_Fates_back.nd rfl (Or.inl rfl) (pe_cm M_Fates__take_innermost (hr.mono (by decide)) hG (pv 0) (pa_cons (pv 1) pa_nil) (passes_call (takes_of rfl rfl rfl rfl) (fun _ _ _ _ h => h))))
      (pss_one (ps_expr (pe_cm M_Fates__end_part (hr.mono (by decide)) hG (pv 0) (pa_cons (pv 2) (pa_cons pe_str pa_nil)) pass0)))), ?_⟩
    obtain ⟨ad, hf, hF⟩ := id hA
    obtain ⟨dx, lk⟩ := hf.look
    refine ⟨_, rfl, a, dx, _, rfl, lk.o, mo.free (by decide +kernel), _, rfl, a, x, d, S, F, rfl, hA, hx, wf, e, fun i ed hi hk H1 hA1 hu1 fr1 => ?_⟩
    have hf1 := hu1 _ hf
    obtain ⟨dx1, lk1⟩ := hf1.look
    have hfr : S.fr d = none := by
      cases z : S.fr d with
      | none => rfl
      | some k => rw [tkE_fr z] at hk; cases hk
    subst ed
    have nel := wf.nel hi (FS.fr_none hfr).1
    obtain ⟨q1, q2⟩ := wf.kp _ (wf.mem hi) _ (lastI_mem nel)
    refine ⟨_, rfl, a, dx1, _, rfl, lk1.o, mo.free (by decide +kernel), _, rfl, a, _, _, S.tk i, F, rfl, hA1, q1, q2, fun H2 hA2 _ fr2 => ?_⟩
    exact q i rfl hi hk _ F hA2 (fr1.trans .refl fr2) .refl
theorem sc_Fates_prepare : FnScope ["self", "number"] ["self", "number"] (defScope s_Fates_prepare) :=
  ⟨rfl, rfl, rfl, by decide +kernel, rfl, by decide +kernel, by decide +kernel⟩
theorem ok_prepare {f : Addr} {fd : FuncData} (F0 : Fun K "prepare" "Fates.prepare" s_Fates_prepare f fd) (B : Bl mg) (FCC : FC K C) (mo : MO more)
    (M_Fates__check_free : Cm P w K mg base (L2.CX P w) 6 C "_check_free" ["self", "number"] (spAsk K C CP more EE FS.fr)) (M_Fates__count_operation : Cm P w K mg base CX0 1 C "_count_operation" ["self"] (spCnt C CP more))
    (X_StillOpen : Er P w K mg base "StillOpen" EE.so "number") :
    FnG P w K mg base (L2.CX P w) 7 f fd ["self", "number"] (spNum K C CP more EE FS.prE FS.prep fun _ _ => .non) := by
  refine fn_in F0 sc_Fates_prepare (fun vs H Q E h => ?_) (fun cdv A outer s H vs Q E hr hG h => ?_)
  · obtain ⟨a, x, d, S, F, rfl, _⟩ := h
    rfl
  · obtain ⟨a, x, d, S, F, rfl, hA, hx, wf, e, q⟩ := h
    have hu := hu_of hr
    refine ⟨_, (pss_cons (ps_expr (pe_cm M_Fates__check_free (hr.mono (by decide)) hG (pv 0) (pa_cons (pv 1) pa_nil) (passes_call (takes_of rfl rfl rfl rfl) (fun _ _ _ _ h => h))))
      (pss_cons (ps_if (pt_cmpR op_gt (pe_callB call_len_seq (by rfl) B.n_len (by decide +kernel) (pa_cons (pe_ix ix_list (pe_fld (pv 0) rfl) (pe_op op_sub (pv 1) pe_int) (fun _ _ => rfl)) pa_nil)) pe_int (nomark _)) (pss_one (ps_raise rfl (takes_of rfl rfl rfl rfl) (pmk_er X_StillOpen (hr.mono (by decide)) hG (pv 1)))) pss_nil)
      (pss_cons (ps_expr (pe_cm0 M_Fates__count_operation (hr.mono (by decide)) hG (pv 0) pass0))
      (pss_one (ps_asg pe_str (pg_sub (pe_fld (pv 0) rfl) (pe_op op_sub (pv 1) pe_int) set_list)))))), ?_⟩
    obtain ⟨ad, hf, hF⟩ := id hA
    obtain ⟨dx, lk⟩ := hf.look
    refine ⟨_, rfl, a, dx, _, rfl, lk.o, mo.free (by decide +kernel), _, rfl, a, x, d, S, F, rfl, hA, hx, Nat.le_trans wf.n (by decide), fun hk H1 s1 => ?_, fun k hk => by
      have z := e k (prE_fr hk)
      rw [fr_kv hk] at z
      exact z⟩
    obtain ⟨i, rfl, hi⟩ := FS.kn_none (FS.ru_none (FS.fr_none hk).1).1
    cases hx
    have hf1 := hf.same s1
    obtain ⟨dx1, lk1⟩ := hf1.look
    have his : i < S.stacks.length := by rw [wf.ls]; exact hi
    have stk := hf1.stk (wf.stk hi)
    refine ⟨_, rfl, a, C, dx1, _, _, rfl, lk1.o, FCC.cls, FCC.n4, rfl, _, rfl, _, _, rfl, rfl, ad .stacks, _, _, .ref (ad (.stack i)), rfl, rfl, .inl (.inl lk1.k), refs_atI his, ?_⟩
    refine ⟨_, _, rfl, .inl (.inl (.inl stk)), _, _, rfl, rfl, _, rfl, ite2 (fun c => ?_) fun c => ?_⟩
    · have c' : 1 < (S.stacks.getD i []).length := by
        have := of_decide_eq_true c
        rw [List.length_map] at this
        omega
      exact ⟨_, rfl, _, rfl, e .so (prE_some hk (by rw [sk_at]; exact c')) _ s1⟩
    · have c' : ¬ 1 < (S.stacks.getD i []).length := fun y => c (decide_eq_true (by rw [List.length_map]; omega))
      refine ⟨_, rfl, a, dx1, _, rfl, lk1.o, mo.free (by decide +kernel), a, S, F, rfl, ⟨ad, hf1, hF⟩, fun H2 hA2 hu2 fr2 => ?_⟩
      have hf2 := hu2 _ hf1
      obtain ⟨dx2, lk2⟩ := hf2.look
      refine ⟨_, rfl, a, C, dx2, _, _, rfl, lk2.o, FCC.cls, FCC.n3, rfl, _, rfl, _, _, rfl, rfl, ad .states, _, _, i, rfl, rfl, lk2.s, ?_, ?_⟩
      · rw [Int.add_sub_cancel]
        exact ixN_at (by rw [List.length_map]; exact hi)
      · obtain ⟨hA3, fr3⟩ := FsA.setStates (zs := S.cnt.states.set i ("prepared" : Str)) hf2 (F := F) (fun b => hF b)
        rw [List.map_set] at hA3 fr3
        exact q i rfl hi (prE_none hk (by rw [sk_at]; exact c')) _ F hA3 ((Fr.same s1).trans .refl (fr2.trans .refl fr3)) .refl
theorem sc_Fates__end_transaction : FnScope ["self", "number", "state", "outcome", "part"] ["self", "number", "state", "outcome"] (defScope s_Fates__end_transaction) :=
  ⟨rfl, rfl, rfl, by decide +kernel, rfl, by decide +kernel, by decide +kernel⟩
theorem ok_endt {f : Addr} {fd : FuncData} (F0 : Fun K "_end_transaction" "Fates._end_transaction" s_Fates__end_transaction f fd) (FCC : FC K C) (mo : MO more)
    (M_Fates__end_part : Cm P w K mg base CX0 1 C "_end_part" ["self", "part", "outcome"] (spEndP C CP more)) :
    FnG P w K mg base CX0 3 f fd ["self", "number", "state", "outcome"] (spEndT C CP more) := by
  refine fn_q F0 sc_Fates__end_transaction (fun vs H Q E h => ?_) (fun cdv A outer s H vs Q E hr hG h => ?_)
  · obtain ⟨a, i, st, z, S, F, rfl, _⟩ := h
    rfl
  · obtain ⟨a, i, st, z, S, F, rfl, hA, hi, hs, hl, hp, hw, q⟩ := h
    have hu := hu_of hr
    refine ⟨_, (pss_cons (ps_for PassesOwn.never rfl (pi_list (pe_ix ix_list (pe_fld (pv 0) rfl) (pe_op op_sub (pv 1) pe_int) (fun _ _ => rfl))) (pg_name (i := 4) sc_Fates__end_transaction.nd rfl (Or.inl rfl)) (pss_one (ps_expr (pe_cm M_Fates__end_part (hr.mono (by decide)) hG (pv 0) (pa_cons (pv 4) (pa_cons (pv 3) pa_nil)) pass0))))
      (pss_cons (ps_asg (pe_lst pa_nil) (pg_sub (pe_fld (pv 0) rfl) (pe_op op_sub (pv 1) pe_int) set_list))
      (pss_cons (ps_asg (pv 2) (pg_sub (pe_fld (pv 0) rfl) (pe_op op_sub (pv 1) pe_int) set_list))
      (pss_one (ps_expr (pe_bm PySem.F.plainAttrs_list PySem.F.slot_list_remove PySem.F.type_list_remove mt_remove (pe_fld (pv 0) rfl) (pa_cons (pv 1) pa_nil))))))), ?_⟩
    obtain ⟨ad, hf, hF⟩ := id hA
    obtain ⟨dx, lk⟩ := hf.look
    have hg : S.stacks[i]? = some (S.stacks.getD i []) := by rw [List.getD_eq_getElem?_getD, List.getElem?_eq_getElem hs]; rfl
    have stk := hf.stk hg
    refine ⟨_, rfl, a, C, dx, _, _, rfl, lk.o, FCC.cls, FCC.n4, rfl, _, rfl, _, _, rfl, rfl, ad .stacks, _, _, .ref (ad (.stack i)), rfl, rfl, .inl (.inl lk.k), refs_atI hs, ?_⟩
    refine ⟨ad (.stack i), rfl, ⟨_, .inl (.inl stk)⟩, for_list (xs := (S.stacks.getD i []).map V.int) (fun n σ H' => (∃ c, σ = [some (.ref a), some (.int ((i : Int) + 1)), some (.str st), some (.str z), c]) ∧ FsA C CP more H' a (S.endAll z ((S.stacks.getD i []).take n)) F ∧ Fr F H H' ∧
        (∀ ad, FsAt C CP more H a S ad → FsAt C CP more H' a (S.endAll z ((S.stacks.getD i []).take n)) ad)) ⟨⟨_, rfl⟩, hA, .refl, fun _ h => h⟩ (fun n σ H' _ e => ?_) ?_ ?_⟩
    · have h1 := e.2.2.2 _ hf
      exact .inl (.inl (h1.stk (i := i) (by rw [(endAll_keeps z _ S).1]; exact hg)))
    · rintro n x σ H1 hx ⟨⟨c, rfl⟩, hA1, fr1, hu1⟩
      obtain ⟨q0, hq0, rfl⟩ : ∃ q0, (S.stacks.getD i [])[n]? = some q0 ∧ x = .int q0 := by
        rw [List.getElem?_map] at hx
        cases y : (S.stacks.getD i [])[n]? with
        | none => rw [y] at hx; cases hx
        | some q0 => rw [y] at hx; cases hx; exact ⟨q0, rfl, rfl⟩
      obtain ⟨p1, p2⟩ := hp q0 (List.mem_of_getElem? hq0)
      have hf1 := hu1 _ hf
      obtain ⟨dx1, lk1⟩ := hf1.look
      obtain ⟨k1, k2, k3, k4, k5, k6⟩ := endAll_keeps z ((S.stacks.getD i []).take n) S
      refine ⟨_, rfl, a, dx1, _, rfl, lk1.o, mo.free (by decide +kernel), _, rfl, _, rfl, a, q0, z, _, F, rfl, hA1, p1, by rw [k6]; exact p2, fun H2 hA2 hu2 fr2 => ?_⟩
      rw [endAll_next hq0]
      exact ⟨⟨_, rfl⟩, hA2, fr1.trans .refl fr2, fun ad' h' => hu2 _ (hu1 _ h')⟩
    · rintro σ H1 ⟨⟨c, rfl⟩, hA1, fr1, hu1⟩
      rw [List.length_map, List.take_length] at hA1 hu1
      obtain ⟨k1, k2, k3, k4, k5, k6⟩ := endAll_keeps z (S.stacks.getD i []) S
      have hf1 := hu1 _ hf
      have hF1 : ∀ b, F b ↔ Foot (S.endAll z (S.stacks.getD i [])) ad b := fun b => (hF b).trans (Foot.put (ok_same (by rw [k1]) k6) b).symm
      generalize eS1 : S.endAll z (S.stacks.getD i []) = S1 at *
      obtain ⟨dx1, lk1⟩ := hf1.look
      have hs1 : i < S1.stacks.length := by rw [k1]; exact hs
      refine ⟨(show 0 ≤ sizeLine by decide), fun y ny => ?_⟩
      have zy := same_new (o := .lst []) ny
      refine ⟨_, rfl, a, C, dx1, _, _, rfl, zy _ _ lk1.o, FCC.cls, FCC.n4, rfl, _, rfl, _, _, rfl, rfl, ad .stacks, _, _, i, rfl, rfl, zy _ _ lk1.k, by rw [Int.add_sub_cancel]; exact ixN_at (by rw [List.length_map, List.length_range]; exact hs1), ?_⟩
      obtain ⟨hA2, fr2⟩ := FsA.newStack (l := []) hf1 hF1 ny hs1
      simp only [List.map_nil] at hA2 fr2
      have gr2 : Grow F (fun b => With F y b ∧ b ≠ ad (.stack i)) H1 := fun b hb => Grow.add ny b hb.1
      have gr2 := Grow.refl.trans fr1 gr2
      have fr2 := fr1.trans .refl fr2
      generalize (fun b => With F y b ∧ b ≠ ad (.stack i)) = F2 at hA2 gr2
      generalize upd (upd H1 y (.lst [])) (ad .stacks) _ = H2 at hA2 fr2 ⊢
      obtain ⟨ad2, hf2, hF2⟩ := id hA2
      obtain ⟨dx2, lk2⟩ := hf2.look
      refine ⟨_, rfl, _, rfl, a, C, dx2, _, _, rfl, lk2.o, FCC.cls, FCC.n3, rfl, _, rfl, _, _, rfl, rfl, ad2 .states, _, _, i, rfl, rfl, lk2.s, by rw [Int.add_sub_cancel]; exact ixN_at (by rw [List.length_map]; show i < S1.states.length; rw [k2]; exact hi), ?_⟩
      obtain ⟨hA3, fr3⟩ := FsA.setStates (zs := S1.states.set i st) hf2 hF2
      rw [List.map_set] at hA3 fr3
      have fr3 := fr2.trans gr2 fr3
      generalize upd H2 (ad2 .states) (.lst ((S1.states.map V.str).set i (.str st))) = H3 at hA3 fr3 ⊢
      obtain ⟨ad3, hf3, hF3⟩ := id hA3
      obtain ⟨dx3, lk3⟩ := hf3.look
      obtain ⟨j, j1, j2, j3⟩ := erase_at (show ((i : Int) + 1) ∈ S1.work by rw [k3]; exact hw)
      refine ⟨_, rfl, a, C, dx3, _, _, rfl, lk3.o, FCC.cls, FCC.n2, rfl, .inl ⟨rfl, _, .inl (.inl lk3.w)⟩, _, rfl, ad3 .work, S1.work, _, j, rfl, rfl, lk3.w, j1, j2, ?_⟩
      obtain ⟨hA4, fr4⟩ := FsA.setWork (ws := S1.work.eraseIdx j) hf3 hF3
      refine q _ _ ?_ (fr3.trans gr2 fr4) gr2
      have eT : S.endT i st z = { S1 with stacks := S1.stacks.set i [], states := S1.states.set i st, work := S1.work.eraseIdx j } := by
        unfold FS.endT
        rw [eS1, j3, k1, k2, k3]
      rw [eT]
      exact hA4
theorem sc_Fates_commit : FnScope ["self", "number"] ["self", "number"] (defScope s_Fates_commit) :=
  ⟨rfl, rfl, rfl, by decide +kernel, rfl, by decide +kernel, by decide +kernel⟩
theorem ok_commit {f : Addr} {fd : FuncData} (F0 : Fun K "commit" "Fates.commit" s_Fates_commit f fd) (FCC : FC K C) (mo : MO more)
    (M_Fates__check_running : Cm P w K mg base (L2.CX P w) 5 C "_check_running" ["self", "number"] (spAsk K C CP more EE FS.ru)) (M_Fates__count_operation : Cm P w K mg base CX0 1 C "_count_operation" ["self"] (spCnt C CP more))
    (M_Fates__end_transaction : Cm P w K mg base CX0 3 C "_end_transaction" ["self", "number", "state", "outcome"] (spEndT C CP more)) :
    FnG P w K mg base (L2.CX P w) 6 f fd ["self", "number"] (spNum K C CP more EE FS.ru FS.com fun _ _ => .non) := by
  refine fn_in F0 sc_Fates_commit (fun vs H Q E h => ?_) (fun cdv A outer s H vs Q E hr hG h => ?_)
  · obtain ⟨a, x, d, S, F, rfl, _⟩ := h
    rfl
  · obtain ⟨a, x, d, S, F, rfl, hA, hx, wf, e, q⟩ := h
    have hu := hu_of hr
    refine ⟨_, (pss_cons (ps_expr (pe_cm M_Fates__check_running (hr.mono (by decide)) hG (pv 0) (pa_cons (pv 1) pa_nil) (passes_call (takes_of rfl rfl rfl rfl) (fun _ _ _ _ h => h))))
      (pss_cons (ps_expr (pe_cm0 M_Fates__count_operation (hr.mono (by decide)) hG (pv 0) pass0))
      (pss_cons (ps_fldaug (pv 0) pe_int in_add)
      (pss_one (ps_expr (pe_cm M_Fates__end_transaction (hr.mono (by decide)) hG (pv 0) (pa_cons (pv 1) (pa_cons pe_str (pa_cons pe_str pa_nil))) pass0)))))), ?_⟩
    obtain ⟨ad, hf, hF⟩ := id hA
    obtain ⟨dx, lk⟩ := hf.look
    refine ⟨_, rfl, a, dx, _, rfl, lk.o, mo.free (by decide +kernel), _, rfl, a, x, d, S, F, rfl, hA, hx, Nat.le_trans wf.n (by decide), fun hk H1 s1 => ?_, fun k hk => by
      have z := e k hk
      rw [ru_kv hk] at z
      exact z⟩
    obtain ⟨i, rfl, hi⟩ := FS.kn_none (FS.ru_none hk).1
    cases hx
    have hf1 := hf.same s1
    obtain ⟨dx1, lk1⟩ := hf1.look
    refine ⟨_, rfl, a, dx1, _, rfl, lk1.o, mo.free (by decide +kernel), a, S, F, rfl, ⟨ad, hf1, hF⟩, fun H2 hA2 hu2 fr2 => ?_⟩
    have hf2 := hu2 _ hf1
    obtain ⟨dx2, lk2⟩ := hf2.look
    refine ⟨_, rfl, a, C, dx2, _, _, rfl, lk2.o, FCC.cls, FCC.n1, rfl, _, _, rfl, rfl, dx2, _, lk2.o, mo.size, ?_⟩
    rw [put_commits]
    obtain ⟨hA3, fr3⟩ := FsA.ofO (S' := ⟨S.cnt.done, S.cnt.moment + 1, S.cnt.work, S.cnt.states, S.cnt.stacks, S.cnt.parts⟩) (dx := dx2) hf2 (F := F) (fun b => hF b) lk2 rfl rfl rfl rfl rfl
    generalize upd H2 a _ = H3 at hA3 fr3 ⊢
    obtain ⟨ad3, hf3, hF3⟩ := id hA3
    obtain ⟨dx3, lk3⟩ := hf3.look
    have his : i < S.stacks.length := by rw [wf.ls]; exact hi
    refine ⟨_, rfl, a, dx3, _, rfl, lk3.o, mo.free (by decide +kernel), _, rfl, a, i, _, _, _, F, rfl, hA3, hi, his, wf.k _ (wf.mem hi), wf.kp _ (wf.mem hi), wf.wk i _ (FS.st_at hi) (FS.ru_none hk).2, fun H4 F4 hA4 fr4 gr4 => ?_⟩
    have fr2' := (Fr.same s1).trans .refl (fr2.trans .refl fr3)
    exact q i rfl hi hk _ _ hA4 (fr2'.trans .refl fr4) (Grow.refl.trans fr2' gr4)
theorem sc_Fates_abort : FnScope ["self", "number"] ["self", "number"] (defScope s_Fates_abort) :=
  ⟨rfl, rfl, rfl, by decide +kernel, rfl, by decide +kernel, by decide +kernel⟩
theorem ok_abort {f : Addr} {fd : FuncData} (F0 : Fun K "abort" "Fates.abort" s_Fates_abort f fd) (FCC : FC K C) (mo : MO more)
    (M_Fates__check_running : Cm P w K mg base (L2.CX P w) 5 C "_check_running" ["self", "number"] (spAsk K C CP more EE FS.ru)) (M_Fates__count_operation : Cm P w K mg base CX0 1 C "_count_operation" ["self"] (spCnt C CP more))
    (M_Fates__end_transaction : Cm P w K mg base CX0 3 C "_end_transaction" ["self", "number", "state", "outcome"] (spEndT C CP more)) :
    FnG P w K mg base (L2.CX P w) 6 f fd ["self", "number"] (spNum K C CP more EE FS.ru FS.abo fun _ _ => .non) := by
  refine fn_in F0 sc_Fates_abort (fun vs H Q E h => ?_) (fun cdv A outer s H vs Q E hr hG h => ?_)
  · obtain ⟨a, x, d, S, F, rfl, _⟩ := h
    rfl
  · obtain ⟨a, x, d, S, F, rfl, hA, hx, wf, e, q⟩ := h
    have hu := hu_of hr
    refine ⟨_, (pss_cons (ps_expr (pe_cm M_Fates__check_running (hr.mono (by decide)) hG (pv 0) (pa_cons (pv 1) pa_nil) (passes_call (takes_of rfl rfl rfl rfl) (fun _ _ _ _ h => h))))
      (pss_cons (ps_expr (pe_cm0 M_Fates__count_operation (hr.mono (by decide)) hG (pv 0) pass0))
      (pss_one (ps_expr (pe_cm M_Fates__end_transaction (hr.mono (by decide)) hG (pv 0) (pa_cons (pv 1) (pa_cons pe_str (pa_cons pe_str pa_nil))) pass0))))), ?_⟩
    obtain ⟨ad, hf, hF⟩ := id hA
    obtain ⟨dx, lk⟩ := hf.look
    refine ⟨_, rfl, a, dx, _, rfl, lk.o, mo.free (by decide +kernel), _, rfl, a, x, d, S, F, rfl, hA, hx, Nat.le_trans wf.n (by decide), fun hk H1 s1 => ?_, fun k hk => by
      have z := e k hk
      rw [ru_kv hk] at z
      exact z⟩
    obtain ⟨i, rfl, hi⟩ := FS.kn_none (FS.ru_none hk).1
    cases hx
    have hf1 := hf.same s1
    obtain ⟨dx1, lk1⟩ := hf1.look
    refine ⟨_, rfl, a, dx1, _, rfl, lk1.o, mo.free (by decide +kernel), a, S, F, rfl, ⟨ad, hf1, hF⟩, fun H2 hA2 hu2 fr2 => ?_⟩
    have hf2 := hu2 _ hf1
    obtain ⟨dx2, lk2⟩ := hf2.look
    have his : i < S.stacks.length := by rw [wf.ls]; exact hi
    refine ⟨_, rfl, a, dx2, _, rfl, lk2.o, mo.free (by decide +kernel), _, rfl, a, i, _, _, S.cnt, F, rfl, hA2, hi, his, wf.k _ (wf.mem hi), wf.kp _ (wf.mem hi), wf.wk i _ (FS.st_at hi) (FS.ru_none hk).2, fun H3 F3 hA3 fr3 gr3 => ?_⟩
    exact q i rfl hi hk _ _ hA3 ((Fr.same s1).trans .refl (fr2.trans .refl fr3)) (Grow.refl.trans ((Fr.same s1).trans .refl fr2) gr3)
theorem sc_Fates_crash : FnScope ["self", "number", "hit"] ["self"] (defScope s_Fates_crash) :=
  ⟨rfl, rfl, rfl, by decide +kernel, rfl, by decide +kernel, by decide +kernel⟩
theorem ok_crash {f : Addr} {fd : FuncData} (F0 : Fun K "crash" "Fates.crash" s_Fates_crash f fd) (FCC : FC K C) (mo : MO more)
    (M_Fates__count_operation : Cm P w K mg base CX0 1 C "_count_operation" ["self"] (spCnt C CP more))
    (M_Fates__end_transaction : Cm P w K mg base CX0 3 C "_end_transaction" ["self", "number", "state", "outcome"] (spEndT C CP more)) :
    FnG P w K mg base CX0 5 f fd ["self"] (spCrash C CP more) := by
  refine fn_q F0 sc_Fates_crash (fun vs H Q E h => ?_) (fun cdv A outer s H vs Q E hr hG h => ?_)
  · obtain ⟨a, S, F, rfl, _⟩ := h
    rfl
  · obtain ⟨a, S, F, rfl, hA, wf, q⟩ := h
    have hu := hu_of hr
    refine ⟨_, (pss_cons (ps_expr (pe_cm0 M_Fates__count_operation (hr.mono (by decide)) hG (pv 0) pass0))
      (pss_cons (ps_setLc (i := 2) (own := [("number", 1)]) (g := gName 1) rfl sc_Fates_crash.nd rfl rfl (sw_true rfl rfl rfl (by decide +kernel)) (pi_list (pe_fld (pv 0) rfl)) (blkOk_by (own := [("number", 1)]) (N := ["self", "number", "hit"]) (sc := defScope s_Fates_crash) (by decide +kernel))
        (fun _ _ _ _ _ => pg_name (i := 1) sc_Fates_crash.nd rfl (Or.inl rfl)) (fun _ _ _ _ _ => (pts_one (pt_cmpR op_eq (pe_ix (show IxR _ (rIxL K) from ix_list) (show PE _ _ (tFld K _ "_states") from pe_fld (pv 0) rfl) (pe_op op_sub (pv 1) pe_int) (fun _ _ => rfl)) pe_str (nomark _)))) (fun _ _ _ _ _ => (pv 1)))
      (pss_one (ps_for PassesOwn.never rfl (pi_list (pv 2)) (pg_name (i := 1) sc_Fates_crash.nd rfl (Or.inl rfl)) (pss_one (ps_expr (pe_cm M_Fates__end_transaction (hr.mono (by decide)) hG (pv 0) (pa_cons (pv 1) (pa_cons pe_str (pa_cons pe_str pa_nil))) pass0))))))), ?_⟩
    obtain ⟨ad, hf, hF⟩ := id hA
    obtain ⟨dx, lk⟩ := hf.look
    refine ⟨_, rfl, a, dx, _, rfl, lk.o, mo.free (by decide +kernel), a, S, F, rfl, hA, fun H1 hA1 hu1 fr1 => ?_⟩
    have hf1 := hu1 _ hf
    obtain ⟨dx1, lk1⟩ := hf1.look
    refine ⟨_, rfl, a, C, dx1, _, _, rfl, lk1.o, FCC.cls, FCC.n2, rfl, ad .work, rfl, ⟨_, .inl (.inl lk1.w)⟩, fun D nD => lc_list (xs := S.work.map V.int) (fun n H' => Same H1 H' ∧ H' D = some (.lst (((S.work.take n).filter S.isRun).map V.int))) ⟨same_new nD, upd_same⟩ (fun n H' _ e => .inl (.inl (e.1 _ _ lk1.w))) ?_ ?_⟩
    · rintro n x H2 hx ⟨s2, hD⟩
      obtain ⟨k, hk, rfl⟩ : ∃ k, S.work[n]? = some k ∧ x = .int k := by
        rw [List.getElem?_map] at hx
        cases y : S.work[n]? with
        | none => rw [y] at hx; cases hx
        | some k => rw [y] at hx; cases hx; exact ⟨k, rfl, rfl⟩
      obtain ⟨w1, w2⟩ := wf.wr k (List.mem_of_getElem? hk)
      obtain ⟨i, rfl⟩ : ∃ i : Nat, k = (i : Int) + 1 := ⟨(k - 1).toNat, by omega⟩
      have hi : i < S.states.length := by omega
      have nl : (((S.work.take n).filter S.isRun).map V.int).length < sizeLine := by
        rw [List.length_map]
        have := List.length_filter_le S.isRun (S.work.take n)
        have h2 : (S.work.take n).length ≤ S.work.length := by rw [List.length_take]; exact Nat.min_le_right _ _
        have := wf.w
        exact sz1000 (by omega)
      refine ⟨rfl, _, rfl, a, C, dx1, _, _, rfl, s2 _ _ lk1.o, FCC.cls, FCC.n3, rfl, _, rfl, _, _, rfl, rfl, ad .states, _, _, _, rfl, rfl, .inl (.inl (s2 _ _ lk1.s)), st_atI hi, rfl, _, rfl, ite2 (fun c => ?_) fun c => ?_⟩
      · have c' : S.st (.int ((i : Int) + 1)) = "running" := V.str.inj (of_decide_eq_true c)
        refine ⟨_, rfl, _, hD, nl, same_tape nD s2, ?_⟩
        rw [upd_same, List.take_succ, hk, List.filter_append, List.map_append]
        simp [FS.isRun, c']
      · have c' : ¬ S.st (.int ((i : Int) + 1)) = "running" := fun y => c (decide_eq_true (by rw [show S.cnt.st (.int ((i : Int) + 1)) = S.st (.int ((i : Int) + 1)) from rfl, y]))
        refine ⟨s2, ?_⟩
        rw [hD, List.take_succ, hk, List.filter_append, List.map_append]
        simp [FS.isRun, c']
    · rintro H2 ⟨s2, hD⟩
      rw [List.length_map, List.take_length] at hD
      have hpos : ∀ k ∈ S.work.filter S.isRun, 1 ≤ k := fun k hk => (wf.wr k (List.mem_filter.mp hk).1).1
      have hnd : (S.work.filter S.isRun).Nodup := wf.nd.filter _
      have hA2 := hA1.same s2
      refine ⟨_, rfl, D, rfl, ⟨_, .inl (.inl hD)⟩, for_list (xs := (S.work.filter S.isRun).map V.int) (fun n σ H' => (∃ c, σ = [some (.ref a), c, some (.ref D)]) ∧ H' D = some (.lst ((S.work.filter S.isRun).map V.int)) ∧
        ∃ F', ¬ F' D ∧ FsA C CP more H' a (crF S.cnt ((S.work.filter S.isRun).take n)) F' ∧ Fr F H1 H' ∧ Grow F F' H1) ⟨⟨_, rfl⟩, hD, F, fun h => ?_, hA2, .same s2, .refl⟩ (fun n σ H' _ e => .inl (.inl e.2.1)) ?_ ?_⟩
      · obtain ⟨u, hu'⟩ := hA1.on D h
        rw [nD] at hu'
        cases hu'
      · rintro n x σ H3 hx ⟨⟨c, rfl⟩, hD3, F', nF, hA3, fr3, gr3⟩
        obtain ⟨k, hk, rfl⟩ : ∃ k, (S.work.filter S.isRun)[n]? = some k ∧ x = .int k := by
          rw [List.getElem?_map] at hx
          cases y : (S.work.filter S.isRun)[n]? with
          | none => rw [y] at hx; cases hx
          | some k => rw [y] at hx; cases hx; exact ⟨k, rfl, rfl⟩
        have hkm := List.mem_of_getElem? hk
        obtain ⟨hkw, hkr⟩ := List.mem_filter.mp hkm
        obtain ⟨w1, w2⟩ := wf.wr k hkw
        obtain ⟨i, rfl⟩ : ∃ i : Nat, k = (i : Int) + 1 := ⟨(k - 1).toNat, by omega⟩
        have hi : i < S.states.length := by omega
        have his : i < S.stacks.length := by rw [wf.ls]; exact hi
        have hnt := not_in_take hnd hk
        obtain ⟨k1, k2, k3, k4, k5⟩ := crF_keeps ((S.work.filter S.isRun).take n) S.cnt fun k hk => hpos k (List.mem_of_mem_take hk)
        have e4 : (crF S.cnt ((S.work.filter S.isRun).take n)).stacks.getD i [] = S.stacks.getD i [] := k4 i hnt
        obtain ⟨ad3, hf3, hF3⟩ := id hA3
        obtain ⟨dx3, lk3⟩ := hf3.look
        refine ⟨_, rfl, a, dx3, _, rfl, lk3.o, mo.free (by decide +kernel), _, rfl, a, i, _, _, _, F', rfl, hA3, by rw [k1]; exact hi, by rw [k2]; exact his, by rw [e4]; exact wf.k _ (wf.mem hi), by rw [e4, k3]; exact wf.kp _ (wf.mem hi), k5 _ hkw hnt, fun H4 F4 hA4 fr4 gr4 => ?_⟩
        refine ⟨⟨_, rfl⟩, fr4 _ _ hD3 nF, F4, fun h => ?_, ?_, fr3.trans gr3 fr4, gr3.trans fr3 gr4⟩
        · rcases gr4 D h with h | h
          · exact nF h
          · rw [hD3] at h; cases h
        · rw [crF_next hk, Int.add_sub_cancel, Int.toNat_natCast]
          exact hA4
      · rintro σ H3 ⟨⟨c, rfl⟩, hD3, F', nF, hA3, fr3, gr3⟩
        rw [List.length_map, List.take_length] at hA3
        exact q _ F' hA3 (fr1.trans .refl fr3) (Grow.refl.trans fr1 gr3)
end
end K08

set_option maxRecDepth 100000
set_option maxHeartbeats 4000000
namespace K08
open PySem PySem.Spec L2 Rm
open PyProof.Rows hiding St
section
variable {P : Program} {w : World} {K : PySem.W.Frag} {mg : Str → Option Value} {base : Heap} {C CP : Addr} {more : List (Str × V)} {EE : EA}
theorem sc_Fates_moment : FnScope ["self"] ["self"] (defScope s_Fates_moment) :=
  ⟨rfl, rfl, rfl, by decide +kernel, rfl, by decide +kernel, by decide +kernel⟩
theorem ok_moment {f : Addr} {fd : FuncData} (F0 : Fun K "moment" "Fates.moment" s_Fates_moment f fd) (FCC : FC K C) :
    FnG P w K mg base CX0 1 f fd ["self"] (spGet C CP more fun S => .int S.moment) := by
  refine fn_q F0 sc_Fates_moment (fun vs H Q E h => ?_) (fun cdv A outer s H vs Q E hr hG h => ?_)
  · obtain ⟨a, S, F, rfl, _⟩ := h
    rfl
  · obtain ⟨a, S, F, rfl, ⟨ad, hf, hF⟩, q⟩ := h
    refine ⟨_, (pss_one (ps_ret (pe_fld (pv 0) rfl))), ?_⟩
    obtain ⟨dx, lk⟩ := hf.look
    exact ⟨_, rfl, a, C, dx, _, _, rfl, lk.o, FCC.cls, FCC.n1, rfl, q⟩
theorem sc_Fates_running : FnScope ["self"] ["self"] (defScope s_Fates_running) :=
  ⟨rfl, rfl, rfl, by decide +kernel, rfl, by decide +kernel, by decide +kernel⟩
theorem ok_runlist {f : Addr} {fd : FuncData} (F0 : Fun K "running" "Fates.running" s_Fates_running f fd) (B : Bl mg) (FCC : FC K C) :
    FnG P w K mg base CX0 1 f fd ["self"] (spGetL C CP more fun S => S.work) := by
  refine fn_q F0 sc_Fates_running (fun vs H Q E h => ?_) (fun cdv A outer s H vs Q E hr hG h => ?_)
  · obtain ⟨a, S, F, rfl, _⟩ := h
    rfl
  · obtain ⟨a, S, F, rfl, ⟨ad, hf, hF⟩, q⟩ := h
    refine ⟨_, (pss_one (ps_ret (pe_callTy call_list_of (by rfl) B.n_list (by decide +kernel) (pa_cons (pe_fld (pv 0) rfl) pa_nil)))), ?_⟩
    obtain ⟨dx, lk⟩ := hf.look
    exact ⟨_, rfl, a, C, dx, _, _, rfl, lk.o, FCC.cls, FCC.n2, rfl, _, _, rfl, .inl (.inl (.inl lk.w)), q⟩
theorem sc_Fates_state : FnScope ["self", "number"] ["self", "number"] (defScope s_Fates_state) :=
  ⟨rfl, rfl, rfl, by decide +kernel, rfl, by decide +kernel, by decide +kernel⟩
theorem ok_state {f : Addr} {fd : FuncData} (F0 : Fun K "state" "Fates.state" s_Fates_state f fd) (FCC : FC K C) (mo : MO more)
    (M_Fates__check_known : Cm P w K mg base (L2.CX P w) 4 C "_check_known" ["self", "number"] (spAsk K C CP more EE FS.kn)) :
    FnG P w K mg base (L2.CX P w) 5 f fd ["self", "number"] (spGetN K C CP more EE qSt) := by
  refine fn_in F0 sc_Fates_state (fun vs H Q E h => ?_) (fun cdv A outer s H vs Q E hr hG h => ?_)
  · obtain ⟨a, x, d, S, F, rfl, _⟩ := h
    rfl
  · obtain ⟨a, x, d, S, F, rfl, hA, hx, wf, e, q⟩ := h
    have hu := hu_of hr
    refine ⟨_, (pss_cons (ps_expr (pe_cm M_Fates__check_known (hr.mono (by decide)) hG (pv 0) (pa_cons (pv 1) pa_nil) (passes_call (takes_of rfl rfl rfl rfl) (fun _ _ _ _ h => h))))
      (pss_one (ps_ret (pe_ix ix_list (pe_fld (pv 0) rfl) (pe_op op_sub (pv 1) pe_int) (fun _ _ => rfl))))), ?_⟩
    obtain ⟨ad, hf, hF⟩ := id hA
    obtain ⟨dx, lk⟩ := hf.look
    refine ⟨_, rfl, a, dx, _, rfl, lk.o, mo.free (by decide +kernel), _, rfl, a, x, d, S, F, rfl, hA, hx, Nat.le_trans wf.n (by decide), fun hk H1 s1 => ?_, e⟩
    obtain ⟨i, rfl, hi⟩ := FS.kn_none hk
    cases hx
    exact ⟨_, rfl, a, C, dx, _, _, rfl, s1 _ _ lk.o, FCC.cls, FCC.n3, rfl, _, rfl, _, _, rfl, rfl, _, _, _, _, rfl, rfl, .inl (.inl (s1 _ _ lk.s)), st_atI hi, q i rfl hi _ s1⟩
theorem sc_Fates_parts : FnScope ["self", "number"] ["self", "number"] (defScope s_Fates_parts) :=
  ⟨rfl, rfl, rfl, by decide +kernel, rfl, by decide +kernel, by decide +kernel⟩
theorem ok_parts {f : Addr} {fd : FuncData} (F0 : Fun K "parts" "Fates.parts" s_Fates_parts f fd) (B : Bl mg) (FCC : FC K C) (mo : MO more)
    (M_Fates__check_known : Cm P w K mg base (L2.CX P w) 4 C "_check_known" ["self", "number"] (spAsk K C CP more EE FS.kn)) :
    FnG P w K mg base (L2.CX P w) 5 f fd ["self", "number"] (spGetN K C CP more EE qPt) := by
  refine fn_in F0 sc_Fates_parts (fun vs H Q E h => ?_) (fun cdv A outer s H vs Q E hr hG h => ?_)
  · obtain ⟨a, x, d, S, F, rfl, _⟩ := h
    rfl
  · obtain ⟨a, x, d, S, F, rfl, hA, hx, wf, e, q⟩ := h
    have hu := hu_of hr
    refine ⟨_, (pss_cons (ps_expr (pe_cm M_Fates__check_known (hr.mono (by decide)) hG (pv 0) (pa_cons (pv 1) pa_nil) (passes_call (takes_of rfl rfl rfl rfl) (fun _ _ _ _ h => h))))
      (pss_one (ps_ret (pe_callTy call_list_of (by rfl) B.n_list (by decide +kernel) (pa_cons (pe_ix ix_list (pe_fld (pv 0) rfl) (pe_op op_sub (pv 1) pe_int) (fun _ _ => rfl)) pa_nil))))), ?_⟩
    obtain ⟨ad, hf, hF⟩ := id hA
    obtain ⟨dx, lk⟩ := hf.look
    refine ⟨_, rfl, a, dx, _, rfl, lk.o, mo.free (by decide +kernel), _, rfl, a, x, d, S, F, rfl, hA, hx, Nat.le_trans wf.n (by decide), fun hk H1 s1 => ?_, e⟩
    obtain ⟨i, rfl, hi⟩ := FS.kn_none hk
    cases hx
    have his : i < S.stacks.length := by rw [wf.ls]; exact hi
    exact ⟨_, rfl, a, C, dx, _, _, rfl, s1 _ _ lk.o, FCC.cls, FCC.n4, rfl, _, rfl, _, _, rfl, rfl, ad .stacks, _, _, .ref (ad (.stack i)), rfl, rfl, .inl (.inl (s1 _ _ lk.k)), refs_atI his, _, _, rfl, .inl (.inl (.inl (s1 _ _ (hf.stk (wf.stk hi))))), q i rfl hi _ s1⟩
theorem sc_Fates___init__ : FnScope ["self"] ["self"] (defScope s_Fates___init__) :=
  ⟨rfl, rfl, rfl, by decide +kernel, rfl, by decide +kernel, by decide +kernel⟩
theorem ok_finit {f : Addr} {fd : FuncData} (F0 : Fun K "__init__" "Fates.__init__" s_Fates___init__ f fd) (FCC : FC K C) :
    FnG P w K mg base CX0 1 f fd ["self"] (spFInit C CP) := by
  refine fn_q F0 sc_Fates___init__ (fun vs H Q E h => ?_) (fun cdv A outer s H vs Q E hr hG h => ?_)
  · obtain ⟨a, dx, rfl, _⟩ := h
    rfl
  · obtain ⟨a, dx, rfl, ha, q⟩ := h
    refine ⟨_, (pss_cons (ps_fld (pv 0) pe_int rfl)
      (pss_cons (ps_fld (pv 0) pe_int rfl)
      (pss_cons (ps_fld (pv 0) (pe_lst pa_nil) rfl)
      (pss_cons (ps_fld (pv 0) (pe_lst pa_nil) rfl)
      (pss_cons (ps_fld (pv 0) (pe_lst pa_nil) rfl)
      (pss_one (ps_fld (pv 0) (pe_lst pa_nil) rfl))))))), ?_⟩
    refine ⟨_, rfl, _, C, dx, _, rfl, ha, FCC.cls, FCC.n0, (show 0 < 1000 by decide), ?_⟩
    refine ⟨_, rfl, _, C, dx, _, rfl, upd_same, FCC.cls, FCC.n1, (show 1 < 1000 by decide), ?_⟩
    rw [upd_upd, pf2]
    have f0 : Rm.Fr (fun b => b = a) H (upd H a (.ins C dx [("_done", .int 0), ("_commits", .int 0)])) := Fr.put rfl
    have a0 := upd_same (H := H) (a := a) (o := .ins C dx [("_done", V.int 0), ("_commits", .int 0)])
    generalize upd H a (.ins C dx [("_done", V.int 0), ("_commits", .int 0)]) = H0 at f0 a0 ⊢
    refine ⟨(show 0 ≤ sizeLine by decide), fun w nw => ?_⟩
    have aw : a ≠ w := fun e => by rw [← e, a0] at nw; cases nw
    refine ⟨_, rfl, _, C, dx, _, rfl, (upd_ne aw).trans a0, FCC.cls, FCC.n2, (show 2 < 1000 by decide), ?_⟩
    rw [pf3]
    have T1 := stp (o := .ins C dx [("_done", V.int 0), ("_commits", .int 0), ("_at_work", .ref w)]) f0 a0 nw
    generalize upd (upd H0 w (.lst [])) a (.ins C dx [("_done", V.int 0), ("_commits", .int 0), ("_at_work", .ref w)]) = H1 at T1 ⊢
    refine ⟨(show 0 ≤ sizeLine by decide), fun s' ns => ?_⟩
    have as : a ≠ s' := fun e => by rw [← e, T1.oa] at ns; cases ns
    refine ⟨_, rfl, _, C, dx, _, rfl, (upd_ne as).trans T1.oa, FCC.cls, FCC.n3, (show 3 < 1000 by decide), ?_⟩
    rw [pf4]
    have T2 := stp (o := .ins C dx [("_done", V.int 0), ("_commits", .int 0), ("_at_work", .ref w), ("_states", .ref s')]) T1.fr T1.oa ns
    generalize upd (upd H1 s' (.lst [])) a (.ins C dx [("_done", V.int 0), ("_commits", .int 0), ("_at_work", .ref w), ("_states", .ref s')]) = H2 at T2 ⊢
    refine ⟨(show 0 ≤ sizeLine by decide), fun k nk => ?_⟩
    have ak : a ≠ k := fun e => by rw [← e, T2.oa] at nk; cases nk
    refine ⟨_, rfl, _, C, dx, _, rfl, (upd_ne ak).trans T2.oa, FCC.cls, FCC.n4, (show 4 < 1000 by decide), ?_⟩
    rw [pf5]
    have T3 := stp (o := .ins C dx [("_done", V.int 0), ("_commits", .int 0), ("_at_work", .ref w), ("_states", .ref s'), ("_stacks", .ref k)]) T2.fr T2.oa nk
    generalize upd (upd H2 k (.lst [])) a (.ins C dx [("_done", V.int 0), ("_commits", .int 0), ("_at_work", .ref w), ("_states", .ref s'), ("_stacks", .ref k)]) = H3 at T3 ⊢
    refine ⟨(show 0 ≤ sizeLine by decide), fun p np => ?_⟩
    have ap : a ≠ p := fun e => by rw [← e, T3.oa] at np; cases np
    refine ⟨_, rfl, _, C, dx, _, rfl, (upd_ne ap).trans T3.oa, FCC.cls, FCC.n5, (show 5 < 1000 by decide), ?_⟩
    rw [pf6]
    have T4 := stp (o := .ins C dx [("_done", V.int 0), ("_commits", .int 0), ("_at_work", .ref w), ("_states", .ref s'), ("_stacks", .ref k), ("_all_parts", .ref p)]) T3.fr T3.oa np
    generalize upd (upd H3 p (.lst [])) a (.ins C dx [("_done", V.int 0), ("_commits", .int 0), ("_at_work", .ref w), ("_states", .ref s'), ("_stacks", .ref k), ("_all_parts", .ref p)]) = H4 at T4 ⊢
    have w2 := T2.k _ _ T1.oy T1.ne
    have w3 := T3.k _ _ w2 T1.ne
    have w4 := T4.k _ _ w3 T1.ne
    have s3 := T3.k _ _ T2.oy T2.ne
    have s4 := T4.k _ _ s3 T2.ne
    have k4 := T4.k _ _ T3.oy T3.ne
    have ws : w ≠ s' := fun e => by rw [← e, T1.oy] at ns; cases ns
    have wk : w ≠ k := fun e => by rw [← e, w2] at nk; cases nk
    have wp : w ≠ p := fun e => by rw [← e, w3] at np; cases np
    have sk : s' ≠ k := fun e => by rw [← e, T2.oy] at nk; cases nk
    have sp : s' ≠ p := fun e => by rw [← e, s3] at np; cases np
    have kp : k ≠ p := fun e => by rw [← e, T3.oy] at np; cases np
    let ad : Ro → Addr := fun r => match r with
      | .work => w | .states => s' | .stacks => k | .parts => p | _ => a
    have hf : FsAt C CP [] H4 a .zero ad := by
      refine ⟨rfl, fun r r' hr hr' e => ?_, dx, fun _ => dx, fun r hr => ?_⟩
      · cases r <;> cases r' <;> first | rfl | exact absurd hr (Nat.not_lt_zero _) | exact absurd hr' (Nat.not_lt_zero _) | exact absurd e aw | exact absurd e.symm aw | exact absurd e as | exact absurd e.symm as | exact absurd e ak | exact absurd e.symm ak | exact absurd e ap | exact absurd e.symm ap | exact absurd e ws | exact absurd e.symm ws | exact absurd e wk | exact absurd e.symm wk | exact absurd e wp | exact absurd e.symm wp | exact absurd e sk | exact absurd e.symm sk | exact absurd e sp | exact absurd e.symm sp | exact absurd e kp | exact absurd e.symm kp
      · cases r with
        | obj => exact T4.oa
        | work => exact w4
        | states => exact s4
        | stacks => exact k4
        | parts => exact T4.oy
        | stack i => exact absurd hr (Nat.not_lt_zero _)
        | part i => exact absurd hr (Nat.not_lt_zero _)
    refine q H4 (Foot .zero ad) ⟨ad, hf, fun b => .rfl⟩ T4.fr ?_
    rintro b ⟨r, hr, rfl⟩
    cases r with
    | obj => exact .inl rfl
    | work => exact .inr T1.n
    | states => exact .inr T2.n
    | stacks => exact .inr T3.n
    | parts => exact .inr T4.n
    | stack i => exact absurd hr (Nat.not_lt_zero _)
    | part i => exact absurd hr (Nat.not_lt_zero _)
end
end K08

set_option maxRecDepth 100000
set_option maxHeartbeats 4000000
namespace Rm
open PySem PySem.Spec L2
open PyProof.Rows hiding St

/-! ### dicts whose keys are 1, 2, .. n -/
def kr (f : Nat → Addr) (n : Nat) : List (Key × V) := (List.range n).map fun i : Nat => ((Sum.inl ((i : Int) + 1) : Key), V.ref (f i))
theorem kr_len {f : Nat → Addr} {n : Nat} : (kr f n).length = n := by simp [kr]
theorem kr_keys {f : Nat → Addr} {n : Nat} : (kr f n).map (·.1) = ((List.range n).map fun i : Nat => (i : Int) + 1).map Sum.inl := by simp [kr]
theorem kr_succ {f : Nat → Addr} {n : Nat} : kr f (n + 1) = kr f n ++ [((Sum.inl ((n : Int) + 1) : Key), V.ref (f n))] := by
  unfold kr
  rw [List.range_succ, List.map_append]
  rfl
theorem kr_at {f : Nat → Addr} {i : Nat} : ∀ {n : Nat}, i < n → valV (kr f n) (.inl ((i : Int) + 1)) = some (.ref (f i))
  | 0, h => absurd h (Nat.not_lt_zero _)
  | n + 1, h => by
    rw [kr_succ]
    have hn : valV (kr f n) (.inl ((n : Int) + 1)) = none := by
      rw [← Option.not_isSome_iff_eq_none, ← valV_any]
      simp [kr]
      intro x hx
      omega
    rw [valV_snoc _ _ _ _ hn]
    by_cases e : i = n
    · subst e
      rw [if_pos rfl]
    · rw [if_neg (fun q => e (by have := Sum.inl.inj q; omega))]
      exact kr_at (by omega)
theorem kr_no {f : Nat → Addr} {n : Nat} {z : Int} (h : ¬ (1 ≤ z ∧ z ≤ n)) : valV (kr f n) (.inl z) = none := by
  rw [← Option.not_isSome_iff_eq_none, ← valV_any]
  simp [kr]
  intro x hx
  omega
theorem kr_new {f : Nat → Addr} {n : Nat} {y : Addr} : putK (kr f n) (.inl ((n : Int) + 1)) (.ref y) = kr (fun i => if i = n then y else f i) (n + 1) := by
  rw [putK_new _ (kr_no (by omega)), kr_succ, if_pos rfl]
  congr 1
  apply List.map_congr_left
  intro i hi
  have e : ¬ i = n := by have := List.mem_range.mp hi; omega
  show _ = ((Sum.inl ((i : Int) + 1) : Key), V.ref (if i = n then y else f i))
  rw [if_neg e]
theorem kr_set {f : Nat → Addr} {n i : Nat} {y : Addr} (h : i < n) : putK (kr f n) (.inl ((i : Int) + 1)) (.ref y) = kr (fun j => if j = i then y else f j) n := by
  unfold putK
  rw [if_pos (by rw [valV_any, kr_at h]; rfl)]
  unfold kr
  rw [List.map_map]
  apply List.map_congr_left
  intro j hj
  by_cases e : j = i
  · subst e
    simp
  · have e2 : ¬ ((j : Int) + 1 = (i : Int) + 1) := by omega
    simp [e]
    intro h
    omega
/-! ### the law's own record -/
inductive Wo where
  | obj | parts | runs | ents
  | run (i : Nat)
  | opn (i : Nat)
  | part (i : Nat)
  deriving DecidableEq
def Wo.ok (S : FS) : Wo → Prop
  | .run i => i < S.states.length
  | .opn i => i < S.states.length
  | .part i => i < S.parts.length
  | _ => True
def PI.to (p : PI) : Option Int := if p.released.isSome then p.outer else none
def wpart (p : PI) : List (Key × V) :=
  [(.inr "of", .int p.holder), (.inr "around", oI p.outer), (.inr "to", oI p.to), (.inr "at", oI p.released), (.inr "fate", .str p.outcome), (.inr "ended", oI p.ended)]
def wobj (p r e : Addr) (S : FS) : List (Key × V) := [(.inr "parts", .ref p), (.inr "runs", .ref r), (.inr "done", .int S.done), (.inr "moment", .int S.moment), (.inr "entries", .ref e)]
def wcont (S : FS) (ad : Wo → Addr) : Wo → HO
  | .obj => .dK (wobj (ad .parts) (ad .runs) (ad .ents) S)
  | .parts => .dK (kr (fun i => ad (.part i)) S.parts.length)
  | .runs => .dK (kr (fun i => ad (.run i)) S.states.length)
  | .ents => .lst []
  | .run i => .lst [.str (S.states.getD i ""), .ref (ad (.opn i))]
  | .opn i => .lst ((S.stacks.getD i []).map V.int)
  | .part i => match S.parts[i]? with
    | some p => .dK (wpart p)
    | none => .lst []
structure WdAt (H : Hp) (b : Addr) (S : FS) (ad : Wo → Addr) : Prop where
  at_ : ad .obj = b
  inj : ∀ r r', r.ok S → r'.ok S → ad r = ad r' → r = r'
  ex : ∀ r, r.ok S → H (ad r) = some (wcont S ad r)
def WFoot (S : FS) (ad : Wo → Addr) (b : Addr) : Prop := ∃ r, r.ok S ∧ ad r = b
def WdA (H : Hp) (b : Addr) (S : FS) (G : Addr → Prop) : Prop := ∃ ad, WdAt H b S ad ∧ ∀ x, G x ↔ WFoot S ad x
section
variable {H H' : Hp} {b : Addr} {S S' : FS} {ad : Wo → Addr} {F G : Addr → Prop}
theorem WdAt.up (h : WdAt H b S ad) (s : ∀ r, r.ok S → H' (ad r) = H (ad r)) : WdAt H' b S ad :=
  ⟨h.at_, h.inj, fun r hr => (s r hr).trans (h.ex r hr)⟩
theorem WdA.frame (h : WdA H b S G) (fr : Fr F H H') (d : ∀ x, G x → ¬ F x) : WdA H' b S G := by
  obtain ⟨ad, h, hG⟩ := h
  refine ⟨ad, h.up fun r hr => ?_, hG⟩
  rw [h.ex r hr]
  exact fr _ _ (h.ex r hr) (d _ ((hG _).mpr ⟨r, hr, rfl⟩))
theorem WdA.same (h : WdA H b S G) (s : Same H H') : WdA H' b S G := h.frame (F := fun _ => False) (Fr.same s) fun _ _ z => z
theorem WdAt.same (h : WdAt H b S ad) (s : Same H H') : WdAt H' b S ad := h.up fun r hr => by rw [h.ex r hr]; exact s _ _ (h.ex r hr)
theorem WdA.on (h : WdA H b S G) : ∀ x, G x → ∃ u, H x = some u := fun x hx => by
  obtain ⟨ad, h, hG⟩ := h
  obtain ⟨r, hr, rfl⟩ := (hG x).mp hx
  exact ⟨_, h.ex r hr⟩
theorem WdAt.ob (h : WdAt H b S ad) : H b = some (.dK (wobj (ad .parts) (ad .runs) (ad .ents) S)) := by
  rw [← h.at_]
  exact h.ex .obj trivial
theorem WdAt.off (h : WdAt H b S ad) {r r' : Wo} {o : HO} (hr : r.ok S) (hr' : r'.ok S) (ne : r' ≠ r) : upd H (ad r) o (ad r') = H (ad r') :=
  upd_ne fun e => ne (h.inj _ _ hr' hr e)
theorem w_pr : ¬ (("parts" : Str) = "runs") := by decide +kernel
theorem w_pd : ¬ (("parts" : Str) = "done") := by decide +kernel
theorem w_pm : ¬ (("parts" : Str) = "moment") := by decide +kernel
theorem w_rd : ¬ (("runs" : Str) = "done") := by decide +kernel
theorem w_rm : ¬ (("runs" : Str) = "moment") := by decide +kernel
theorem w_dm : ¬ (("done" : Str) = "moment") := by decide +kernel
theorem kne {x y : Str} (h : ¬ x = y) : ¬ ((Sum.inr x : Key) = Sum.inr y) := fun e => h (Sum.inr.inj e)
theorem WdAt.gp (h : WdAt H b S ad) : DGet H b (.str "parts") (some (.ref (ad .parts))) := by
  have e := DGet.k (k := Sum.inr ("parts" : Str)) h.ob
  unfold wobj at e
  rw [valV_pos rfl] at e
  exact e
theorem WdAt.gr (h : WdAt H b S ad) : DGet H b (.str "runs") (some (.ref (ad .runs))) := by
  have e := DGet.k (k := Sum.inr ("runs" : Str)) h.ob
  unfold wobj at e
  rw [valV_neg (kne w_pr), valV_pos rfl] at e
  exact e
theorem WdAt.gd (h : WdAt H b S ad) : DGet H b (.str "done") (some (.int S.done)) := by
  have e := DGet.k (k := Sum.inr ("done" : Str)) h.ob
  unfold wobj at e
  rw [valV_neg (kne w_pd), valV_neg (kne w_rd), valV_pos rfl] at e
  exact e
theorem WdAt.gm (h : WdAt H b S ad) : DGet H b (.str "moment") (some (.int S.moment)) := by
  have e := DGet.k (k := Sum.inr ("moment" : Str)) h.ob
  unfold wobj at e
  rw [valV_neg (kne w_pm), valV_neg (kne w_rm), valV_neg (kne w_dm), valV_pos rfl] at e
  exact e
theorem WdAt.grun (h : WdAt H b S ad) {i : Nat} (hi : i < S.states.length) : DGet H (ad .runs) (.int ((i : Int) + 1)) (some (.ref (ad (.run i)))) := by
  have e := DGet.k (k := Sum.inl ((i : Int) + 1)) (h.ex .runs trivial)
  rw [kr_at hi] at e
  exact e
theorem WdAt.gpart (h : WdAt H b S ad) {i : Nat} (hi : i < S.parts.length) : DGet H (ad .parts) (.int ((i : Int) + 1)) (some (.ref (ad (.part i)))) := by
  have e := DGet.k (k := Sum.inl ((i : Int) + 1)) (h.ex .parts trivial)
  rw [kr_at hi] at e
  exact e
theorem WdAt.run (h : WdAt H b S ad) {i : Nat} (hi : i < S.states.length) : H (ad (.run i)) = some (.lst [.str (S.st (.int ((i : Int) + 1))), .ref (ad (.opn i))]) := by
  rw [h.ex (.run i) hi]
  show some (HO.lst [.str (S.states.getD i ""), .ref (ad (.opn i))]) = _
  unfold FS.st
  simp only [Int.add_sub_cancel, Int.toNat_natCast]
theorem WdAt.opn (h : WdAt H b S ad) {i : Nat} (hi : i < S.states.length) : H (ad (.opn i)) = some (.lst ((S.stacks.getD i []).map V.int)) := h.ex (.opn i) hi
theorem WdAt.prt (h : WdAt H b S ad) {i : Nat} {p : PI} (hi : S.parts[i]? = some p) : H (ad (.part i)) = some (.dK (wpart p)) := by
  rw [h.ex (.part i) (List.getElem?_eq_some_iff.mp hi).1]
  show some (match S.parts[i]? with | some p => HO.dK (wpart p) | none => .lst []) = _
  rw [hi]
end
end Rm

set_option maxRecDepth 100000
set_option maxHeartbeats 4000000
namespace Rm
open PySem PySem.Spec L2
open PyProof.Rows hiding St

/-! ### what stays so, operation by operation (plain data) -/
def aliveZ (z : Str) : Bool := decide (z = "running") || decide (z = "prepared")
def aliveL (zs : List Str) : List Int := ((List.range zs.length).filter fun i => aliveZ (zs.getD i "")).map fun i : Nat => (i : Int) + 1
structure FS.Inv (S : FS) : Prop where
  ls : S.stacks.length = S.states.length
  ne : ∀ (i : Nat) (z : Str) (l : List Int), S.states[i]? = some z → ¬ (z = "committed" ∨ z = "aborted") → S.stacks[i]? = some l → l ≠ []
  kp : ∀ l ∈ S.stacks, ∀ q ∈ l, 1 ≤ q ∧ q ≤ (S.parts.length : Int)
  ws : S.work = aliveL S.states
  sw : ∀ z ∈ S.states, z = "running" ∨ z = "prepared" ∨ z = "committed" ∨ z = "aborted"
  ch : ∀ l ∈ S.stacks, ∀ (n : Nat) (q q' : Int), l[n]? = some q' → l[n + 1]? = some q → ∀ p, S.parts[(q - 1).toNat]? = some p → p.outer = some q'
/-- at most m of all -/
structure FS.Few (S : FS) (m : Nat) : Prop where
  n : S.states.length ≤ m
  p : S.parts.length ≤ m
  k : ∀ l ∈ S.stacks, l.length ≤ m
theorem s_rc : ¬ (("running" : Str) = "committed") := by decide +kernel
theorem s_ra : ¬ (("running" : Str) = "aborted") := by decide +kernel
theorem s_pc : ¬ (("prepared" : Str) = "committed") := by decide +kernel
theorem s_pa : ¬ (("prepared" : Str) = "aborted") := by decide +kernel
theorem s_cr : ¬ (("committed" : Str) = "running") := by decide +kernel
theorem s_cp : ¬ (("committed" : Str) = "prepared") := by decide +kernel
theorem s_ar : ¬ (("aborted" : Str) = "running") := by decide +kernel
theorem s_ap : ¬ (("aborted" : Str) = "prepared") := by decide +kernel
theorem aliveL_mem {zs : List Str} {n : Int} : n ∈ aliveL zs ↔ ∃ i : Nat, n = (i : Int) + 1 ∧ i < zs.length ∧ aliveZ (zs.getD i "") = true := by
  unfold aliveL
  simp only [List.mem_map, List.mem_filter, List.mem_range]
  constructor
  · rintro ⟨i, ⟨h1, h2⟩, rfl⟩
    exact ⟨i, rfl, h1, h2⟩
  · rintro ⟨i, rfl, h1, h2⟩
    exact ⟨i, ⟨h1, h2⟩, rfl⟩
theorem aliveL_nodup {zs : List Str} : (aliveL zs).Nodup := by
  unfold aliveL
  refine List.Pairwise.map _ (fun a b h => ?_) ((List.nodup_range).filter _)
  omega
theorem aliveL_len {zs : List Str} : (aliveL zs).length ≤ zs.length := by
  unfold aliveL
  rw [List.length_map]
  refine Nat.le_trans (List.length_filter_le _ _) ?_
  rw [List.length_range]
  exact Nat.le_refl _
theorem FS.Inv.wf {S : FS} (h : S.Inv) {m : Nat} (f : S.Few m) (hm : m ≤ 900) : S.Wf where
  ls := h.ls
  n := Nat.le_trans f.n hm
  p := Nat.le_trans f.p hm
  k := fun l hl => Nat.le_trans (f.k l hl) hm
  w := by rw [h.ws]; exact Nat.le_trans aliveL_len (Nat.le_trans f.n hm)
  ne := h.ne
  kp := h.kp
  wk := fun i z hz hn => by
    rw [h.ws, aliveL_mem]
    refine ⟨i, rfl, (List.getElem?_eq_some_iff.mp hz).1, ?_⟩
    rw [List.getD_eq_getElem?_getD, hz]
    show aliveZ z = true
    unfold aliveZ
    rcases h.sw z (List.mem_of_getElem? hz) with e | e | e | e
    · simp [e]
    · simp [e]
    · exact absurd (.inl e) hn
    · exact absurd (.inr e) hn
  nd := by rw [h.ws]; exact aliveL_nodup
  wr := fun n hn => by
    rw [h.ws, aliveL_mem] at hn
    obtain ⟨i, rfl, hi, _⟩ := hn
    omega
theorem inv_zero : FS.zero.Inv where
  ls := rfl
  ne := fun i z l h => by simp [FS.zero] at h
  kp := fun l h => by cases h
  ws := rfl
  sw := fun z h => by cases h
  ch := fun l h => by cases h
/-- counting changes nothing else -/
theorem FS.Inv.cnt {S : FS} (h : S.Inv) : S.cnt.Inv := ⟨h.ls, h.ne, h.kp, h.ws, h.sw, h.ch⟩
/-- a part is written, its outer stays -/
theorem FS.Inv.mdP {S : FS} (h : S.Inv) {q : Int} {f : PI → PI} (hf : ∀ p, (f p).outer = p.outer) : (S.mdP q f).Inv where
  ls := h.ls
  ne := h.ne
  kp := fun l hl q' hq => by
    show 1 ≤ q' ∧ q' ≤ ((S.parts.modify (q - 1).toNat f).length : Int)
    rw [List.length_modify]
    exact h.kp l hl q' hq
  ws := h.ws
  sw := h.sw
  ch := fun l hl n q1 q2 h1 h2 p hp => by
    have hp : (S.parts.modify (q - 1).toNat f)[(q1 - 1).toNat]? = some p := hp
    rw [List.getElem?_modify] at hp
    cases e : S.parts[(q1 - 1).toNat]? with
    | none => rw [e] at hp; simp at hp
    | some p0 =>
      rw [e] at hp
      have r := h.ch l hl n q1 q2 h1 h2 p0 e
      simp only [Option.map_eq_map, Option.map_some, Option.some.injEq] at hp
      subst hp
      split
      · rw [hf]; exact r
      · exact r
/-- the last part of a stack leaves it -/
theorem FS.Inv.tk {S : FS} (h : S.Inv) {i : Nat} (hl : (S.stacks.getD i []).length ≠ 1) : (S.tk i).Inv where
  ls := by show (S.stacks.set i _).length = _; rw [List.length_set]; exact h.ls
  ne := fun j z l hz hn hj => by
    have hj : (S.stacks.set i (S.stacks.getD i []).dropLast)[j]? = some l := hj
    by_cases e : i = j
    · subst e
      have hlen : i < S.stacks.length := by
        have := (List.getElem?_eq_some_iff.mp hj).1
        rwa [List.length_set] at this
      rw [List.getElem?_set_self hlen] at hj
      cases hj
      have hg : S.stacks[i]? = some (S.stacks.getD i []) := by rw [List.getD_eq_getElem?_getD, List.getElem?_eq_getElem hlen]; rfl
      have := h.ne i z _ hz hn hg
      intro e2
      have l1 := congrArg List.length e2
      rw [List.length_dropLast, List.length_nil] at l1
      have l2 := List.length_pos_iff.mpr this
      omega
    · rw [List.getElem?_set_ne e] at hj
      exact h.ne j z l hz hn hj
  kp := fun l hl q hq => by
    have hl : l ∈ S.stacks.set i (S.stacks.getD i []).dropLast := hl
    rcases List.mem_or_eq_of_mem_set hl with hl | rfl
    · exact h.kp l hl q hq
    · by_cases hi : i < S.stacks.length
      · have hg : S.stacks.getD i [] ∈ S.stacks := by rw [List.getD_eq_getElem?_getD, List.getElem?_eq_getElem hi]; exact List.getElem_mem hi
        exact h.kp _ hg q ((List.dropLast_prefix _).subset hq)
      · rw [List.getD_eq_getElem?_getD, List.getElem?_eq_none (by omega)] at hq
        simp at hq
  ws := h.ws
  sw := h.sw
  ch := fun l hl n q q' h1 h2 p hp => by
    have hl : l ∈ S.stacks.set i (S.stacks.getD i []).dropLast := hl
    rcases List.mem_or_eq_of_mem_set hl with hl | rfl
    · exact h.ch l hl n q q' h1 h2 p hp
    · by_cases hi : i < S.stacks.length
      · have hg : S.stacks.getD i [] ∈ S.stacks := by rw [List.getD_eq_getElem?_getD, List.getElem?_eq_getElem hi]; exact List.getElem_mem hi
        have d : ∀ {m : Nat} {x : Int}, (S.stacks.getD i []).dropLast[m]? = some x → (S.stacks.getD i [])[m]? = some x := fun {m x} hm => by
          rw [List.getElem?_dropLast] at hm
          split at hm
          · exact hm
          · cases hm
        exact h.ch _ hg n q q' (d h1) (d h2) p hp
      · have z : S.stacks.getD i [] = [] := by rw [List.getD_eq_getElem?_getD, List.getElem?_eq_none (by omega)]; rfl
        rw [z] at h1
        simp at h1
/-- a part is opened in stack i -/
theorem FS.Inv.opn {S : FS} (h : S.Inv) {i : Nat} {o : Option Int} (hi : i < S.stacks.length) (ho : S.stacks.getD i [] = [] ∨ o = some (lastI (S.stacks.getD i []))) : (S.opn i o).Inv where
  ls := by show (S.stacks.set i _).length = _; rw [List.length_set]; exact h.ls
  ne := fun j z l hz hn hj => by
    have hj : (S.stacks.set i (S.stacks.getD i [] ++ [(S.parts.length : Int) + 1]))[j]? = some l := hj
    by_cases e : i = j
    · subst e
      rw [List.getElem?_set_self hi] at hj
      cases hj
      simp
    · rw [List.getElem?_set_ne e] at hj
      exact h.ne j z l hz hn hj
  kp := fun l hl q hq => by
    have hl : l ∈ S.stacks.set i (S.stacks.getD i [] ++ [(S.parts.length : Int) + 1]) := hl
    show 1 ≤ q ∧ q ≤ ((S.parts ++ [_]).length : Int)
    rw [List.length_append, List.length_singleton]
    have hg : S.stacks.getD i [] ∈ S.stacks := by rw [List.getD_eq_getElem?_getD, List.getElem?_eq_getElem hi]; exact List.getElem_mem hi
    rcases List.mem_or_eq_of_mem_set hl with hl | rfl
    · have := h.kp l hl q hq
      omega
    · rcases List.mem_append.mp hq with hq | hq
      · have := h.kp _ hg q hq
        omega
      · rw [List.mem_singleton.mp hq]
        omega
  ws := h.ws
  sw := h.sw
  ch := fun l hl n q q' h1 h2 p hp => by
    have hl : l ∈ S.stacks.set i (S.stacks.getD i [] ++ [(S.parts.length : Int) + 1]) := hl
    have hp : (S.parts ++ [(⟨(i : Int) + 1, o, none, none, "open"⟩ : PI)])[(q - 1).toNat]? = some p := hp
    have hg : S.stacks.getD i [] ∈ S.stacks := by rw [List.getD_eq_getElem?_getD, List.getElem?_eq_getElem hi]; exact List.getElem_mem hi
    have old : ∀ {l : List Int}, l ∈ S.stacks → q ∈ l → S.parts[(q - 1).toNat]? = some p := fun hl hq => by
      have := h.kp _ hl q hq
      rwa [List.getElem?_append_left (by omega)] at hp
    rcases List.mem_or_eq_of_mem_set hl with hl | rfl
    · exact h.ch l hl n q q' h1 h2 p (old hl (List.mem_of_getElem? h2))
    · by_cases e : n + 1 < (S.stacks.getD i []).length
      · rw [List.getElem?_append_left e] at h2
        rw [List.getElem?_append_left (by omega)] at h1
        exact h.ch _ hg n q q' h1 h2 p (old hg (List.mem_of_getElem? h2))
      · have hn := (List.getElem?_eq_some_iff.mp h2).1
        rw [List.length_append, List.length_singleton] at hn
        have e1 : n + 1 = (S.stacks.getD i []).length := by omega
        rw [e1, List.getElem?_append_right (Nat.le_refl _)] at h2
        simp at h2
        subst h2
        rw [List.getElem?_append_left (by omega)] at h1
        rcases ho with ho | ho
        · rw [ho] at e1; simp at e1
        · rw [show ((S.parts.length : Int) + 1 - 1).toNat = S.parts.length by omega, List.getElem?_append_right (Nat.le_refl _)] at hp
          simp at hp
          subst hp
          show o = some q'
          rw [ho]
          congr 1
          unfold lastI
          rw [List.getLast?_eq_getElem?, show (S.stacks.getD i []).length - 1 = n by omega, h1]
          rfl
/-- the states of one change -/
theorem aliveL_set {zs : List Str} {i : Nat} {z : Str} (hi : i < zs.length) (h : aliveZ z = aliveZ (zs.getD i "")) : aliveL (zs.set i z) = aliveL zs := by
  unfold aliveL
  rw [List.length_set]
  congr 1
  apply List.filter_congr
  intro j hj
  rw [List.getD_eq_getElem?_getD]
  by_cases e : i = j
  · subst e
    rw [List.getElem?_set_self hi]
    exact h
  · rw [List.getElem?_set_ne e, ← List.getD_eq_getElem?_getD]
theorem aliveL_end {zs : List Str} {i : Nat} {z : Str} (hi : i < zs.length) (h : aliveZ z = false) : aliveL (zs.set i z) = (aliveL zs).erase ((i : Int) + 1) := by
  rw [List.Nodup.erase_eq_filter aliveL_nodup]
  unfold aliveL
  rw [List.length_set, List.filter_map, List.filter_filter]
  congr 1
  apply List.filter_congr
  intro j hj
  rw [List.getD_eq_getElem?_getD]
  by_cases e : i = j
  · subst e
    rw [List.getElem?_set_self hi]
    simp [h]
  · rw [List.getElem?_set_ne e, ← List.getD_eq_getElem?_getD]
    have e2 : ¬ (j : Int) + 1 = (i : Int) + 1 := by omega
    simp [e2]
theorem aliveL_add {zs : List Str} : aliveL (zs ++ [("running" : Str)]) = aliveL zs ++ [(zs.length : Int) + 1] := by
  unfold aliveL
  rw [List.length_append, List.length_singleton, List.range_succ, List.filter_append, List.map_append]
  congr 1
  · congr 1
    apply List.filter_congr
    intro j hj
    have hj := List.mem_range.mp hj
    rw [List.getD_eq_getElem?_getD, List.getD_eq_getElem?_getD, List.getElem?_append_left hj]
  · have e : (zs ++ [("running" : Str)]).getD zs.length "" = "running" := by
      rw [List.getD_eq_getElem?_getD, List.getElem?_append_right (Nat.le_refl _)]
      simp
    simp only [List.filter_cons, e, List.filter_nil]
    rw [if_pos (by decide +kernel)]
    rfl
theorem FS.Inv.prep {S : FS} (h : S.Inv) {i : Nat} (hi : i < S.states.length) (ha : aliveZ (S.states.getD i "") = true) : (S.prep i).Inv where
  ls := by show _ = (S.states.set i _).length; rw [List.length_set]; exact h.ls
  ne := fun j z l hz hn hj => by
    have hz : (S.states.set i ("prepared" : Str))[j]? = some z := hz
    by_cases e : i = j
    · subst e
      have h0 : S.states[i]? = some (S.states.getD i "") := by rw [List.getD_eq_getElem?_getD, List.getElem?_eq_getElem hi]; rfl
      refine h.ne i _ l h0 (fun y => ?_) hj
      unfold aliveZ at ha
      rcases y with y | y <;> rw [y] at ha <;> exact absurd ha (by decide +kernel)
    · rw [List.getElem?_set_ne e] at hz
      exact h.ne j z l hz hn hj
  kp := h.kp
  ws := by
    show S.work = aliveL (S.states.set i "prepared")
    rw [aliveL_set hi (by rw [ha]; decide +kernel)]
    exact h.ws
  sw := fun z hz => by
    have hz : z ∈ S.states.set i ("prepared" : Str) := hz
    rcases List.mem_or_eq_of_mem_set hz with hz | rfl
    · exact h.sw z hz
    · exact .inr (.inl rfl)
  ch := h.ch
theorem FS.Inv.endAll {z : Str} : ∀ (l : List Int) {S : FS}, S.Inv → (S.endAll z l).Inv
  | [], _, h => h
  | q :: l, S, h => FS.Inv.endAll l (S := S.endP q z) (h.mdP fun _ => rfl)
theorem FS.Inv.endT {S : FS} (h : S.Inv) {i : Nat} {st z : Str} (hi : i < S.states.length) (hst : st = "committed" ∨ st = "aborted") : (S.endT i st z).Inv := by
  have g := FS.Inv.endAll (z := z) (S.stacks.getD i []) h
  obtain ⟨k1, k2, k3, k4, k5, k6⟩ := endAll_keeps z (S.stacks.getD i []) S
  refine ⟨?_, fun j y l hz hn hj => ?_, fun l hl q hq => ?_, ?_, fun y hy => ?_, fun l hl n q q' h1 h2 p hp => ?_⟩
  · show (S.stacks.set i []).length = (S.states.set i st).length
    rw [List.length_set, List.length_set]
    exact h.ls
  · have hz : (S.states.set i st)[j]? = some y := hz
    have hj : (S.stacks.set i [])[j]? = some l := hj
    by_cases e : i = j
    · subst e
      rw [List.getElem?_set_self hi] at hz
      cases hz
      exact absurd hst hn
    · rw [List.getElem?_set_ne e] at hz hj
      exact h.ne j y l hz hn hj
  · have hl : l ∈ S.stacks.set i [] := hl
    show 1 ≤ q ∧ q ≤ ((S.endAll z (S.stacks.getD i [])).parts.length : Int)
    rw [k6]
    rcases List.mem_or_eq_of_mem_set hl with hl | rfl
    · exact h.kp l hl q hq
    · cases hq
  · show S.work.erase ((i : Int) + 1) = aliveL (S.states.set i st)
    rw [aliveL_end hi (by rcases hst with e | e <;> rw [e] <;> decide +kernel), h.ws]
  · have hy : y ∈ S.states.set i st := hy
    rcases List.mem_or_eq_of_mem_set hy with hy | rfl
    · exact h.sw y hy
    · exact .inr (.inr hst)
  · have hl : l ∈ S.stacks.set i [] := hl
    rcases List.mem_or_eq_of_mem_set hl with hl | rfl
    · exact g.ch l (by rw [k1]; exact hl) n q q' h1 h2 p hp
    · simp at h1
theorem beg_stacks {S : FS} (ls : S.stacks.length = S.states.length) : S.beg.stacks = S.stacks ++ [[(S.parts.length : Int) + 1]] := by
  show (S.stacks ++ [[]]).set S.states.length ((S.stacks ++ [[]]).getD S.states.length [] ++ [(S.parts.length : Int) + 1]) = _
  have e : (S.stacks ++ [[]]).getD S.states.length [] = [] := by
    rw [List.getD_eq_getElem?_getD, ← ls, List.getElem?_append_right (Nat.le_refl _)]
    simp
  rw [e, ← ls, List.set_append_right _ _ (Nat.le_refl _), Nat.sub_self]
  rfl
theorem FS.Inv.beg {S : FS} (h : S.Inv) : S.beg.Inv := by
  have es := beg_stacks h.ls
  refine ⟨?_, fun j z l hz hn hj => ?_, fun l hl q hq => ?_, ?_, fun z hz => ?_, fun l hl n q q' h1 h2 p hp => ?_⟩
  · rw [es]
    show _ = (S.states ++ [_]).length
    rw [List.length_append, List.length_append, h.ls]
    rfl
  · rw [es] at hj
    have hz : (S.states ++ [("running" : Str)])[j]? = some z := hz
    by_cases e : j < S.states.length
    · rw [List.getElem?_append_left e] at hz
      rw [List.getElem?_append_left (by rw [h.ls]; exact e)] at hj
      exact h.ne j z l hz hn hj
    · have := (List.getElem?_eq_some_iff.mp hj).1
      rw [List.length_append, List.length_singleton, h.ls] at this
      have e2 : j = S.stacks.length := by rw [h.ls]; omega
      rw [e2, List.getElem?_append_right (Nat.le_refl _)] at hj
      simp at hj
      rw [← hj]
      simp
  · rw [es] at hl
    show 1 ≤ q ∧ q ≤ ((S.parts ++ [_]).length : Int)
    rw [List.length_append, List.length_singleton]
    rcases List.mem_append.mp hl with hl | hl
    · have := h.kp l hl q hq
      omega
    · rw [List.mem_singleton.mp hl] at hq
      rw [List.mem_singleton.mp hq]
      omega
  · show S.work ++ [(S.states.length : Int) + 1] = aliveL (S.states ++ [("running" : Str)])
    rw [aliveL_add, h.ws]
  · have hz : z ∈ S.states ++ [("running" : Str)] := hz
    rcases List.mem_append.mp hz with hz | hz
    · exact h.sw z hz
    · exact .inl (List.mem_singleton.mp hz)
  · rw [es] at hl
    have hp : (S.parts ++ [_])[(q - 1).toNat]? = some p := hp
    rcases List.mem_append.mp hl with hl | hl
    · have := h.kp l hl q (List.mem_of_getElem? h2)
      rw [List.getElem?_append_left (by omega)] at hp
      exact h.ch l hl n q q' h1 h2 p hp
    · rw [List.mem_singleton.mp hl] at h2
      simp at h2
theorem FS.Inv.crs {S : FS} (h : S.Inv) : S.crs.Inv := by
  have go : ∀ (l : List Int) (T : FS), T.Inv → (∀ k ∈ l, 1 ≤ k ∧ k ≤ (T.states.length : Int)) → (crF T l).Inv := fun l => by
    induction l with
    | nil => intro T hT _; exact hT
    | cons k l ih =>
      intro T hT hk
      obtain ⟨h1, h2⟩ := hk k (.head _)
      have hi : (k - 1).toNat < T.states.length := by omega
      refine ih (T.endT (k - 1).toNat "aborted" "rolled back") (hT.endT hi (.inr rfl)) fun k' hk' => ?_
      rw [(endT_keeps T (k - 1).toNat "aborted" "rolled back").1]
      exact hk k' (.tail _ hk')
  refine go _ _ h.cnt fun k hk => ?_
  have hw := (List.mem_filter.mp hk).1
  rw [h.ws, aliveL_mem] at hw
  obtain ⟨i, rfl, hi, _⟩ := hw
  show 1 ≤ (i : Int) + 1 ∧ (i : Int) + 1 ≤ (S.states.length : Int)
  omega
/-! ### sizes -/
theorem FS.Few.mono {S : FS} {m n : Nat} (f : S.Few m) (h : m ≤ n) : S.Few n := ⟨Nat.le_trans f.n h, Nat.le_trans f.p h, fun l hl => Nat.le_trans (f.k l hl) h⟩
theorem FS.Few.mdP {S : FS} {m : Nat} (f : S.Few m) {q : Int} {g : PI → PI} : (S.mdP q g).Few m := ⟨f.n, by show (S.parts.modify _ _).length ≤ m; rw [List.length_modify]; exact f.p, f.k⟩
theorem few_getD {S : FS} {m : Nat} (f : S.Few m) {i : Nat} : (S.stacks.getD i []).length ≤ m := by
  rw [List.getD_eq_getElem?_getD]
  cases e : S.stacks[i]? with
  | none => exact Nat.zero_le _
  | some l => exact f.k l (List.mem_of_getElem? e)
theorem FS.Few.tk {S : FS} {m : Nat} (f : S.Few m) {i : Nat} : (S.tk i).Few m := ⟨f.n, f.p, fun l hl => by
  have hl : l ∈ S.stacks.set i (S.stacks.getD i []).dropLast := hl
  rcases List.mem_or_eq_of_mem_set hl with hl | rfl
  · exact f.k l hl
  · rw [List.length_dropLast]
    have := few_getD f (i := i)
    omega⟩
theorem FS.Few.opn {S : FS} {m : Nat} (f : S.Few m) {i : Nat} {o : Option Int} : (S.opn i o).Few (m + 1) := by
  refine ⟨Nat.le_succ_of_le f.n, ?_, fun l hl => ?_⟩
  · show (S.parts ++ [_]).length ≤ m + 1
    rw [List.length_append, List.length_singleton]
    have := f.p
    omega
  · have hl : l ∈ S.stacks.set i (S.stacks.getD i [] ++ [_]) := hl
    rcases List.mem_or_eq_of_mem_set hl with hl | rfl
    · exact Nat.le_succ_of_le (f.k l hl)
    · rw [List.length_append, List.length_singleton]
      have := few_getD f (i := i)
      omega
theorem FS.Few.endAll {z : Str} {m : Nat} : ∀ (l : List Int) {S : FS}, S.Few m → (S.endAll z l).Few m
  | [], _, h => h
  | q :: l, S, h => FS.Few.endAll l (S := S.endP q z) h.mdP
theorem FS.Few.endT {S : FS} {m : Nat} (f : S.Few m) {i : Nat} {st z : Str} : (S.endT i st z).Few m := by
  have g := FS.Few.endAll (z := z) (S.stacks.getD i []) f
  refine ⟨by show (S.states.set i st).length ≤ m; rw [List.length_set]; exact f.n, g.p, fun l hl => ?_⟩
  have hl : l ∈ S.stacks.set i [] := hl
  rcases List.mem_or_eq_of_mem_set hl with hl | rfl
  · exact f.k l hl
  · exact Nat.zero_le _
theorem FS.Few.crF {m : Nat} : ∀ (l : List Int) {S : FS}, S.Few m → (crF S l).Few m
  | [], _, h => h
  | k :: l, S, h => FS.Few.crF l (S := S.endT (k - 1).toNat "aborted" "rolled back") h.endT
theorem FS.Few.cnt {S : FS} {m : Nat} (f : S.Few m) : S.cnt.Few m := ⟨f.n, f.p, f.k⟩
theorem FS.Few.crs {S : FS} {m : Nat} (f : S.Few m) : S.crs.Few m := FS.Few.crF _ f.cnt
theorem FS.Few.beg {S : FS} {m : Nat} (f : S.Few m) (ls : S.stacks.length = S.states.length) : S.beg.Few (m + 1) := by
  refine ⟨?_, ?_, fun l hl => ?_⟩
  · show (S.states ++ [_]).length ≤ m + 1
    rw [List.length_append, List.length_singleton]
    have := f.n
    omega
  · show (S.parts ++ [_]).length ≤ m + 1
    rw [List.length_append, List.length_singleton]
    have := f.p
    omega
  · rw [beg_stacks ls] at hl
    rcases List.mem_append.mp hl with hl | hl
    · exact Nat.le_succ_of_le (f.k l hl)
    · rw [List.mem_singleton.mp hl]
      simp
end Rm

set_option maxRecDepth 100000
set_option maxHeartbeats 4000000
namespace Rm
open PySem PySem.Spec L2
open PyProof.Rows hiding St

/-! ### the law's record is written -/
section
variable {H H1 H' : Hp} {b : Addr} {S S' : FS} {ad ad' : Wo → Addr} {F G : Addr → Prop}
theorem WdAt.step (h : WdAt H b S ad) (at_ : ad' .obj = b) (fresh : ∀ r : Wo, r.ok S' → (r.ok S ∧ ad' r = ad r) ∨ H (ad' r) = none)
    (inj' : ∀ r r' : Wo, r.ok S' → r'.ok S' → H (ad' r) = none → H (ad' r') = none → ad' r = ad' r' → r = r') (ex : ∀ r : Wo, r.ok S' → H' (ad' r) = some (wcont S' ad' r)) : WdAt H' b S' ad' := by
  refine ⟨at_, fun r r' hr hr' e => ?_, ex⟩
  rcases fresh r hr with ⟨o, q⟩ | n
  · rcases fresh r' hr' with ⟨o', q'⟩ | n'
    · exact h.inj r r' o o' (by rw [← q, ← q', e])
    · rw [← e, q, h.ex r o] at n'
      cases n'
  · rcases fresh r' hr' with ⟨o', q'⟩ | n'
    · rw [e, q', h.ex r' o'] at n
      cases n
    · exact inj' r r' hr hr' n n' e
theorem WdAt.foot (h : WdAt H b S ad) (hG : ∀ x, G x ↔ WFoot S ad x) {r : Wo} (hr : r.ok S) : G (ad r) := (hG _).mpr ⟨r, hr, rfl⟩
theorem WdAt.obne (h : WdAt H b S ad) {r : Wo} (hr : r.ok S) (ne : r ≠ .obj) : ad r ≠ b := fun e => ne (h.inj r .obj hr trivial (e.trans h.at_.symm))
/-- nothing that it stands for has changed -/
theorem WdAt.congr (h : WdAt H b S ad) (e1 : S'.done = S.done) (e2 : S'.moment = S.moment) (e3 : S'.states = S.states) (e4 : S'.stacks = S.stacks) (e5 : S'.parts = S.parts) : WdAt H b S' ad := by
  have hok : ∀ r : Wo, r.ok S' ↔ r.ok S := fun r => by cases r <;> simp [Wo.ok, e3, e5]
  refine ⟨h.at_, fun r r' hr hr' e => h.inj r r' ((hok r).mp hr) ((hok r').mp hr') e, fun r hr => ?_⟩
  rw [h.ex r ((hok r).mp hr)]
  cases r <;> simp [wcont, wobj, e1, e2, e3, e4, e5]
theorem WdA.congr (h : WdA H b S G) (e1 : S'.done = S.done) (e2 : S'.moment = S.moment) (e3 : S'.states = S.states) (e4 : S'.stacks = S.stacks) (e5 : S'.parts = S.parts) : WdA H b S' G := by
  obtain ⟨ad, h, hG⟩ := h
  refine ⟨ad, h.congr e1 e2 e3 e4 e5, fun x => (hG x).trans ?_⟩
  have hok : ∀ r : Wo, r.ok S' ↔ r.ok S := fun r => by cases r <;> simp [Wo.ok, e3, e5]
  exact ⟨fun ⟨r, h, e⟩ => ⟨r, (hok r).mpr h, e⟩, fun ⟨r, h, e⟩ => ⟨r, (hok r).mp h, e⟩⟩
theorem wput_done {p r e : Addr} {i : Int} : putK (wobj p r e S) (.inr "done") (.int i) = wobj p r e { S with done := i } := by
  simp [putK, wobj, w_pd, w_rd, show ¬ (("moment" : Str) = "done") by decide +kernel, show ¬ (("entries" : Str) = "done") by decide +kernel]
theorem wput_moment {p r e : Addr} {i : Int} : putK (wobj p r e S) (.inr "moment") (.int i) = wobj p r e { S with moment := i } := by
  simp [putK, wobj, w_pm, w_rm, w_dm, show ¬ (("entries" : Str) = "moment") by decide +kernel]
/-- the dict itself is written -/
theorem WdA.setO (h : WdAt H b S ad) (hG : ∀ x, G x ↔ WFoot S ad x) (e3 : S'.states = S.states) (e4 : S'.stacks = S.stacks) (e5 : S'.parts = S.parts) :
    WdA (upd H b (.dK (wobj (ad .parts) (ad .runs) (ad .ents) S'))) b S' G ∧ Fr G H (upd H b (.dK (wobj (ad .parts) (ad .runs) (ad .ents) S'))) := by
  have hok : ∀ r : Wo, r.ok S' ↔ r.ok S := fun r => by cases r <;> simp [Wo.ok, e3, e5]
  refine ⟨⟨ad, ⟨h.at_, fun r r' hr hr' e => h.inj r r' ((hok r).mp hr) ((hok r').mp hr') e, fun r hr => ?_⟩, fun x => (hG x).trans ⟨fun ⟨r, h, e⟩ => ⟨r, (hok r).mpr h, e⟩, fun ⟨r, h, e⟩ => ⟨r, (hok r).mp h, e⟩⟩⟩, Fr.put ?_⟩
  · have hr := (hok r).mp hr
    by_cases e : r = .obj
    · subst e
      rw [h.at_, upd_same]
      rfl
    · rw [upd_ne (h.obne hr e), h.ex r hr]
      cases r <;> first | exact absurd rfl e | simp [wcont, e3, e4, e5]
  · rw [← h.at_]
    exact h.foot hG (r := .obj) trivial
/-- a part's dict is written -/
theorem WdA.setPart {i : Nat} {p : PI} (h : WdAt H b S ad) (hG : ∀ x, G x ↔ WFoot S ad x) (hi : i < S.parts.length) :
    WdA (upd H (ad (.part i)) (.dK (wpart p))) b { S with parts := S.parts.set i p } G ∧ Fr G H (upd H (ad (.part i)) (.dK (wpart p))) := by
  have hok : ∀ r : Wo, r.ok { S with parts := S.parts.set i p } ↔ r.ok S := fun r => by cases r <;> simp [Wo.ok]
  have pi : Wo.ok S (.part i) := hi
  refine ⟨⟨ad, ⟨h.at_, fun r r' hr hr' e => h.inj r r' ((hok r).mp hr) ((hok r').mp hr') e, fun r hr => ?_⟩, fun x => (hG x).trans ⟨fun ⟨r, h, e⟩ => ⟨r, (hok r).mpr h, e⟩, fun ⟨r, h, e⟩ => ⟨r, (hok r).mp h, e⟩⟩⟩, Fr.put (h.foot hG pi)⟩
  have hr := (hok r).mp hr
  by_cases e : r = .part i
  · subst e
    rw [upd_same]
    show _ = some (match (S.parts.set i p)[i]? with | some p => HO.dK (wpart p) | none => .lst [])
    rw [List.getElem?_set_self hi]
  · rw [h.off pi hr e, h.ex r hr]
    cases r with
    | part j =>
      have nj : i ≠ j := fun q => e (by rw [q])
      show some (match S.parts[j]? with | some p => HO.dK (wpart p) | none => .lst []) = some (match (S.parts.set i p)[j]? with | some p => HO.dK (wpart p) | none => .lst [])
      rw [List.getElem?_set_ne nj]
    | parts =>
      show some (HO.dK (kr _ S.parts.length)) = some (HO.dK (kr _ (S.parts.set i p).length))
      rw [List.length_set]
    | _ => rfl
def wmove (ad : Wo → Addr) (r : Wo) (y : Addr) : Wo → Addr := fun x => if x = r then y else ad x
theorem wmove_at {r : Wo} {y : Addr} : wmove ad r y r = y := if_pos rfl
theorem wmove_off {r x : Wo} {y : Addr} (h : x ≠ r) : wmove ad r y x = ad x := if_neg h
/-- one part more -/
theorem WdA.addPart {y : Addr} {p : PI} (h : WdAt H b S ad) (hG : ∀ x, G x ↔ WFoot S ad x) (s : Same H H1) (hy : H y = none) (hv : H1 y = some (.dK (wpart p))) :
    WdA (upd H1 (ad .parts) (.dK (putK (kr (fun i => ad (.part i)) S.parts.length) (.inl ((S.parts.length : Int) + 1)) (.ref y)))) b { S with parts := S.parts ++ [p] } (With G y) ∧
      Fr G H (upd H1 (ad .parts) (.dK (putK (kr (fun i => ad (.part i)) S.parts.length) (.inl ((S.parts.length : Int) + 1)) (.ref y)))) ∧
      WdAt (upd H1 (ad .parts) (.dK (putK (kr (fun i => ad (.part i)) S.parts.length) (.inl ((S.parts.length : Int) + 1)) (.ref y)))) b { S with parts := S.parts ++ [p] } (wmove ad (.part S.parts.length) y) := by
  rw [kr_new]
  have okd : ∀ {r : Wo}, r.ok { S with parts := S.parts ++ [p] } → r.ok S ∨ r = .part S.parts.length := fun {r} hr => by
    cases r with
    | part i =>
      have hi : i < (S.parts ++ [p]).length := hr
      rw [List.length_append] at hi
      by_cases e : i = S.parts.length
      · exact .inr (by rw [e])
      · exact .inl (show i < S.parts.length by simp at hi; omega)
    | run i => exact .inl hr
    | opn i => exact .inl hr
    | _ => exact .inl trivial
  have oku : ∀ {r : Wo}, r.ok S → r.ok { S with parts := S.parts ++ [p] } := fun {r} hr => by
    cases r with
    | part i => exact (show i < (S.parts ++ [p]).length by rw [List.length_append]; exact Nat.lt_of_lt_of_le hr (Nat.le_add_right _ _))
    | run i => exact hr
    | opn i => exact hr
    | _ => exact trivial
  have mv : ∀ {r : Wo}, r.ok S → wmove ad (.part S.parts.length) y r = ad r := fun {r} hr => wmove_off (fun e => by
    rw [e] at hr
    exact Nat.lt_irrefl _ hr)
  have ny : ∀ {r : Wo}, r.ok S → ad r ≠ y := fun hr e => by
    have z := h.ex _ hr
    rw [e, hy] at z
    cases z
  have hw : WdAt (upd H1 (ad .parts) (.dK (kr (fun i => if i = S.parts.length then y else ad (.part i)) (S.parts.length + 1)))) b { S with parts := S.parts ++ [p] } (wmove ad (.part S.parts.length) y) := by
    refine h.step (by rw [mv (r := .obj) trivial]; exact h.at_) (fun r hr => (okd hr).elim (fun o => .inl ⟨o, mv o⟩) fun e => .inr (by rw [e, wmove_at]; exact hy)) (fun r r' hr hr' n n' e => ?_) (fun r hr => ?_)
    · rcases okd hr with o | q
      · rw [mv o, h.ex _ o] at n
        cases n
      · rcases okd hr' with o' | q'
        · rw [mv o', h.ex _ o'] at n'
          cases n'
        · rw [q, q']
    · rcases okd hr with hr | rfl
      · rw [mv hr]
        by_cases e : r = .parts
        · subst e
          rw [upd_same]
          show _ = some (HO.dK (kr (fun i => wmove ad (.part S.parts.length) y (.part i)) (S.parts ++ [p]).length))
          rw [List.length_append, List.length_singleton]
          congr 3
          funext i
          unfold wmove
          by_cases q : i = S.parts.length
          · rw [if_pos q, if_pos (by rw [q])]
          · rw [if_neg q, if_neg (fun z => q (by simpa using z))]
        · rw [upd_ne (fun z => e (h.inj _ _ hr trivial z)), s _ _ (h.ex r hr)]
          cases r with
          | obj =>
            show some (HO.dK (wobj (ad .parts) (ad .runs) (ad .ents) S)) = some (HO.dK (wobj (wmove ad (.part S.parts.length) y .parts) (wmove ad (.part S.parts.length) y .runs) (wmove ad (.part S.parts.length) y .ents) _))
            rw [mv (r := .parts) trivial, mv (r := .runs) trivial, mv (r := .ents) trivial]
            rfl
          | runs =>
            show some (HO.dK (kr (fun i => ad (.run i)) S.states.length)) = some (HO.dK (kr (fun i => wmove ad (.part S.parts.length) y (.run i)) S.states.length))
            rfl
          | run i =>
            show some (HO.lst [.str (S.states.getD i ""), .ref (ad (.opn i))]) = some (HO.lst [.str (S.states.getD i ""), .ref (wmove ad (.part S.parts.length) y (.opn i))])
            rfl
          | part i =>
            have hi : i < S.parts.length := hr
            show some (match S.parts[i]? with | some p => HO.dK (wpart p) | none => .lst []) = some (match (S.parts ++ [p])[i]? with | some p => HO.dK (wpart p) | none => .lst [])
            rw [List.getElem?_append_left hi]
          | parts => exact absurd rfl e
          | _ => rfl
      · rw [wmove_at, upd_ne (fun e => ny (r := .parts) trivial e.symm), hv]
        show _ = some (match (S.parts ++ [p])[S.parts.length]? with | some p => HO.dK (wpart p) | none => .lst [])
        rw [List.getElem?_append_right (Nat.le_refl _)]
        simp
  refine ⟨⟨_, hw, fun x => ?_⟩, fun c u hc n => ?_, hw⟩
  · constructor
    · rintro (hb | rfl)
      · obtain ⟨r, hr, rfl⟩ := (hG x).mp hb
        exact ⟨r, oku hr, mv hr⟩
      · exact ⟨.part S.parts.length, (show S.parts.length < (S.parts ++ [p]).length by rw [List.length_append]; exact Nat.lt_succ_self _), wmove_at⟩
    · rintro ⟨r, hr, rfl⟩
      rcases okd hr with hr | rfl
      · rw [mv hr]
        exact .inl (h.foot hG hr)
      · exact .inr wmove_at
  · rw [upd_ne (fun e => n (by rw [e]; exact h.foot hG (r := .parts) trivial))]
    exact s _ _ hc
end
end Rm

set_option maxRecDepth 100000
set_option maxHeartbeats 4000000
namespace Rm
open PySem PySem.Spec L2
open PyProof.Rows hiding St

section
variable {H H1 H' : Hp} {b : Addr} {S S' : FS} {ad ad' : Wo → Addr} {F G : Addr → Prop}
def wrun (ad : Wo → Addr) (i : Nat) (y l : Addr) : Wo → Addr := fun r => if r = .run i then y else if r = .opn i then l else ad r
theorem wrun_run {i : Nat} {y l : Addr} : wrun ad i y l (.run i) = y := if_pos rfl
theorem wrun_opn {i : Nat} {y l : Addr} : wrun ad i y l (.opn i) = l := by
  unfold wrun
  rw [if_neg (by simp), if_pos rfl]
theorem wrun_off {i : Nat} {y l : Addr} {r : Wo} (h1 : r ≠ .run i) (h2 : r ≠ .opn i) : wrun ad i y l r = ad r := by
  unfold wrun
  rw [if_neg h1, if_neg h2]
/-- a run is written anew: its state, its open parts -/
theorem WdA.setRun {i : Nat} {y l : Addr} {st : Str} {stk : List Int} (h : WdAt H b S ad) (hG : ∀ x, G x ↔ WFoot S ad x) (ls : S.stacks.length = S.states.length) (hi : i < S.states.length) (s : Same H H1) (hy : H y = none)
    (hv : H1 y = some (.lst [.str st, .ref l])) (hl : (H l = none ∧ l ≠ y) ∨ l = ad (.opn i)) (hlv : H1 l = some (.lst (stk.map V.int))) :
    ∃ G', WdA (upd H1 (ad .runs) (.dK (putK (kr (fun i => ad (.run i)) S.states.length) (.inl ((i : Int) + 1)) (.ref y)))) b { S with states := S.states.set i st, stacks := S.stacks.set i stk } G' ∧
      Fr G H (upd H1 (ad .runs) (.dK (putK (kr (fun i => ad (.run i)) S.states.length) (.inl ((i : Int) + 1)) (.ref y)))) ∧ Grow G G' H := by
  rw [kr_set hi]
  have his : i < S.stacks.length := by rw [ls]; exact hi
  have ri : Wo.ok S (.run i) := hi
  have oi : Wo.ok S (.opn i) := hi
  have hok : ∀ r : Wo, r.ok { S with states := S.states.set i st, stacks := S.stacks.set i stk } ↔ r.ok S := fun r => by cases r <;> simp [Wo.ok]
  have ny : ∀ {r : Wo}, r.ok S → ad r ≠ y := fun hr e => by
    have z := h.ex _ hr
    rw [e, hy] at z
    cases z
  have nl : ∀ {r : Wo}, r.ok S → r ≠ .opn i → ad r ≠ l := fun hr ne e => by
    rcases hl with ⟨hl, _⟩ | hl
    · have z := h.ex _ hr
      rw [e, hl] at z
      cases z
    · exact ne (h.inj _ _ hr oi (e.trans hl))
  have ly : l ≠ y := by
    rcases hl with ⟨_, hl⟩ | hl
    · exact hl
    · rw [hl]; exact ny oi
  have hw : WdAt (upd H1 (ad .runs) (.dK (kr (fun j => if j = i then y else ad (.run j)) S.states.length))) b { S with states := S.states.set i st, stacks := S.stacks.set i stk } (wrun ad i y l) := by
    refine h.step (by rw [wrun_off (by simp) (by simp)]; exact h.at_) (fun r hr => ?_) (fun r r' hr hr' n n' e => ?_) (fun r hr => ?_)
    · have hr := (hok r).mp hr
      by_cases q : r = .run i
      · rw [q, wrun_run]; exact .inr hy
      · by_cases q2 : r = .opn i
        · rw [q2, wrun_opn]
          rcases hl with ⟨hl, _⟩ | hl
          · exact .inr hl
          · exact .inl ⟨oi, hl⟩
        · exact .inl ⟨hr, wrun_off q q2⟩
    · have hr := (hok r).mp hr
      have hr' := (hok r').mp hr'
      have two : ∀ {x : Wo}, x.ok S → H (wrun ad i y l x) = none → x = .run i ∨ x = .opn i := fun {x} hx hn => by
        by_cases q : x = .run i
        · exact .inl q
        · by_cases q2 : x = .opn i
          · exact .inr q2
          · rw [wrun_off q q2, h.ex _ hx] at hn
            cases hn
      rcases two hr n with q | q <;> rcases two hr' n' with q' | q'
      · rw [q, q']
      · rw [q, q', wrun_run, wrun_opn] at e
        exact absurd e.symm ly
      · rw [q, q', wrun_run, wrun_opn] at e
        exact absurd e ly
      · rw [q, q']
    · have hr := (hok r).mp hr
      by_cases q : r = .run i
      · subst q
        rw [wrun_run, upd_ne (fun e => ny (r := .runs) trivial e.symm), hv]
        show _ = some (HO.lst [.str ((S.states.set i st).getD i ""), .ref (wrun ad i y l (.opn i))])
        rw [wrun_opn, List.getD_eq_getElem?_getD, List.getElem?_set_self hi]
        rfl
      · by_cases q2 : r = .opn i
        · subst q2
          rw [wrun_opn, upd_ne (fun e => nl (r := .runs) trivial (by simp) e.symm), hlv]
          show _ = some (HO.lst (((S.stacks.set i stk).getD i []).map V.int))
          rw [List.getD_eq_getElem?_getD, List.getElem?_set_self his]
          rfl
        · rw [wrun_off q q2]
          by_cases e : r = .runs
          · subst e
            rw [upd_same]
            show _ = some (HO.dK (kr (fun j => wrun ad i y l (.run j)) (S.states.set i st).length))
            rw [List.length_set]
            congr 3
            funext j
            by_cases z : j = i
            · subst z
              rw [if_pos rfl, wrun_run]
            · rw [if_neg z, wrun_off (fun y => z (by simpa using y)) (by simp)]
          · rw [upd_ne (fun z => e (h.inj _ _ hr trivial z)), s _ _ (h.ex r hr)]
            cases r with
            | run j =>
              have ij : i ≠ j := fun z => q (by rw [z])
              show some (HO.lst [.str (S.states.getD j ""), .ref (ad (.opn j))]) = some (HO.lst [.str ((S.states.set i st).getD j ""), .ref (wrun ad i y l (.opn j))])
              rw [wrun_off (by simp) (fun z => ij (by simpa using z.symm)), List.getD_eq_getElem?_getD, List.getD_eq_getElem?_getD, List.getElem?_set_ne ij]
            | opn j =>
              have ij : i ≠ j := fun z => q2 (by rw [z])
              show some (HO.lst ((S.stacks.getD j []).map V.int)) = some (HO.lst (((S.stacks.set i stk).getD j []).map V.int))
              rw [List.getD_eq_getElem?_getD, List.getD_eq_getElem?_getD, List.getElem?_set_ne ij]
            | obj =>
              show some (HO.dK (wobj (ad .parts) (ad .runs) (ad .ents) S)) = some (HO.dK (wobj (wrun ad i y l .parts) (wrun ad i y l .runs) (wrun ad i y l .ents) _))
              rw [wrun_off (by simp) (by simp), wrun_off (by simp) (by simp), wrun_off (by simp) (by simp)]
              rfl
            | parts =>
              show some (HO.dK (kr (fun j => ad (.part j)) S.parts.length)) = some (HO.dK (kr (fun j => wrun ad i y l (.part j)) S.parts.length))
              congr 3
            | runs => exact absurd rfl e
            | _ => rfl
  refine ⟨WFoot _ (wrun ad i y l), ⟨_, hw, fun _ => .rfl⟩, fun c u hc n => ?_, ?_⟩
  · rw [upd_ne (fun e => n (by rw [e]; exact h.foot hG (r := .runs) trivial))]
    exact s _ _ hc
  · rintro c ⟨r, hr, rfl⟩
    have hr := (hok r).mp hr
    by_cases q : r = .run i
    · rw [q, wrun_run]; exact .inr hy
    · by_cases q2 : r = .opn i
      · rw [q2, wrun_opn]
        rcases hl with ⟨hl, _⟩ | hl
        · exact .inr hl
        · rw [hl]; exact .inl (h.foot hG oi)
      · rw [wrun_off q q2]; exact .inl (h.foot hG hr)
/-- one run more -/
theorem WdA.addRun {y l : Addr} {st : Str} {stk : List Int} (h : WdAt H b S ad) (hG : ∀ x, G x ↔ WFoot S ad x) (ls : S.stacks.length = S.states.length) (s : Same H H1) (hy : H y = none)
    (hv : H1 y = some (.lst [.str st, .ref l])) (hl : H l = none) (ly : l ≠ y) (hlv : H1 l = some (.lst (stk.map V.int))) :
    ∃ G', WdA (upd H1 (ad .runs) (.dK (putK (kr (fun i => ad (.run i)) S.states.length) (.inl ((S.states.length : Int) + 1)) (.ref y)))) b { S with states := S.states ++ [st], stacks := S.stacks ++ [stk] } G' ∧
      Fr G H (upd H1 (ad .runs) (.dK (putK (kr (fun i => ad (.run i)) S.states.length) (.inl ((S.states.length : Int) + 1)) (.ref y)))) ∧ Grow G G' H := by
  rw [kr_new]
  have okd : ∀ {r : Wo}, r.ok { S with states := S.states ++ [st], stacks := S.stacks ++ [stk] } → (r.ok S ∧ r ≠ .run S.states.length ∧ r ≠ .opn S.states.length) ∨ r = .run S.states.length ∨ r = .opn S.states.length := fun {r} hr => by
    cases r with
    | run i =>
      have hi : i < (S.states ++ [st]).length := hr
      rw [List.length_append] at hi
      by_cases e : i = S.states.length
      · exact .inr (.inl (by rw [e]))
      · exact .inl ⟨show i < S.states.length by simp at hi; omega, by simpa using e, by simp⟩
    | opn i =>
      have hi : i < (S.states ++ [st]).length := hr
      rw [List.length_append] at hi
      by_cases e : i = S.states.length
      · exact .inr (.inr (by rw [e]))
      · exact .inl ⟨show i < S.states.length by simp at hi; omega, by simp, by simpa using e⟩
    | part i => exact .inl ⟨hr, by simp, by simp⟩
    | _ => exact .inl ⟨trivial, by simp, by simp⟩
  have ny : ∀ {r : Wo}, r.ok S → ad r ≠ y := fun hr e => by
    have z := h.ex _ hr
    rw [e, hy] at z
    cases z
  have nl : ∀ {r : Wo}, r.ok S → ad r ≠ l := fun hr e => by
    have z := h.ex _ hr
    rw [e, hl] at z
    cases z
  have hw : WdAt (upd H1 (ad .runs) (.dK (kr (fun j => if j = S.states.length then y else ad (.run j)) (S.states.length + 1)))) b { S with states := S.states ++ [st], stacks := S.stacks ++ [stk] } (wrun ad S.states.length y l) := by
    refine h.step (by rw [wrun_off (by simp) (by simp)]; exact h.at_) (fun r hr => ?_) (fun r r' hr hr' n n' e => ?_) (fun r hr => ?_)
    · rcases okd hr with ⟨o, q, q2⟩ | q | q
      · exact .inl ⟨o, wrun_off q q2⟩
      · rw [q, wrun_run]; exact .inr hy
      · rw [q, wrun_opn]; exact .inr hl
    · have two : ∀ {x : Wo}, x.ok { S with states := S.states ++ [st], stacks := S.stacks ++ [stk] } → H (wrun ad S.states.length y l x) = none → x = .run S.states.length ∨ x = .opn S.states.length := fun {x} hx hn => by
        rcases okd hx with ⟨o, q, q2⟩ | q
        · rw [wrun_off q q2, h.ex _ o] at hn
          cases hn
        · exact q
      rcases two hr n with q | q <;> rcases two hr' n' with q' | q'
      · rw [q, q']
      · rw [q, q', wrun_run, wrun_opn] at e
        exact absurd e.symm ly
      · rw [q, q', wrun_run, wrun_opn] at e
        exact absurd e ly
      · rw [q, q']
    · rcases okd hr with ⟨o, q, q2⟩ | q | q
      · rw [wrun_off q q2]
        by_cases e : r = .runs
        · subst e
          rw [upd_same]
          show _ = some (HO.dK (kr (fun j => wrun ad S.states.length y l (.run j)) (S.states ++ [st]).length))
          rw [List.length_append, List.length_singleton]
          congr 3
          funext j
          by_cases z : j = S.states.length
          · rw [if_pos z, z, wrun_run]
          · rw [if_neg z, wrun_off (fun y => z (by simpa using y)) (by simp)]
        · rw [upd_ne (fun z => e (h.inj _ _ o trivial z)), s _ _ (h.ex r o)]
          cases r with
          | run j =>
            have hj : j < S.states.length := o
            show some (HO.lst [.str (S.states.getD j ""), .ref (ad (.opn j))]) = some (HO.lst [.str ((S.states ++ [st]).getD j ""), .ref (wrun ad S.states.length y l (.opn j))])
            rw [wrun_off (by simp) (fun z => by have := (show j = S.states.length by simpa using z); omega), List.getD_eq_getElem?_getD, List.getD_eq_getElem?_getD, List.getElem?_append_left hj]
          | opn j =>
            have hj : j < S.stacks.length := by rw [ls]; exact o
            show some (HO.lst ((S.stacks.getD j []).map V.int)) = some (HO.lst (((S.stacks ++ [stk]).getD j []).map V.int))
            rw [List.getD_eq_getElem?_getD, List.getD_eq_getElem?_getD, List.getElem?_append_left hj]
          | obj =>
            show some (HO.dK (wobj (ad .parts) (ad .runs) (ad .ents) S)) = some (HO.dK (wobj (wrun ad S.states.length y l .parts) (wrun ad S.states.length y l .runs) (wrun ad S.states.length y l .ents) _))
            rw [wrun_off (by simp) (by simp), wrun_off (by simp) (by simp), wrun_off (by simp) (by simp)]
            rfl
          | parts =>
            show some (HO.dK (kr (fun j => ad (.part j)) S.parts.length)) = some (HO.dK (kr (fun j => wrun ad S.states.length y l (.part j)) S.parts.length))
            congr 3
          | runs => exact absurd rfl e
          | _ => rfl
      · subst q
        rw [wrun_run, upd_ne (fun e => ny (r := .runs) trivial e.symm), hv]
        show _ = some (HO.lst [.str ((S.states ++ [st]).getD S.states.length ""), .ref (wrun ad S.states.length y l (.opn S.states.length))])
        rw [wrun_opn, List.getD_eq_getElem?_getD, List.getElem?_append_right (Nat.le_refl _)]
        simp
      · subst q
        rw [wrun_opn, upd_ne (fun e => nl (r := .runs) trivial e.symm), hlv]
        show _ = some (HO.lst (((S.stacks ++ [stk]).getD S.states.length []).map V.int))
        rw [List.getD_eq_getElem?_getD, ← ls, List.getElem?_append_right (Nat.le_refl _)]
        simp
  refine ⟨WFoot _ (wrun ad S.states.length y l), ⟨_, hw, fun _ => .rfl⟩, fun c u hc n => ?_, ?_⟩
  · rw [upd_ne (fun e => n (by rw [e]; exact h.foot hG (r := .runs) trivial))]
    exact s _ _ hc
  · rintro c ⟨r, hr, rfl⟩
    rcases okd hr with ⟨o, q, q2⟩ | q | q
    · rw [wrun_off q q2]; exact .inl (h.foot hG o)
    · rw [q, wrun_run]; exact .inr hy
    · rw [q, wrun_opn]; exact .inr hl
end
end Rm

set_option maxRecDepth 100000
set_option maxHeartbeats 4000000
namespace Rm
open PySem PySem.Spec L2
open PyProof.Rows hiding St

def oneTo (n : Nat) : List Int := (List.range n).map fun i : Nat => (i : Int) + 1
theorem oneTo_len {n : Nat} : (oneTo n).length = n := by simp [oneTo]
theorem oneTo_lt {n : Nat} : (oneTo n).Pairwise (· < ·) := by
  unfold oneTo
  refine List.Pairwise.map _ (fun a b h => ?_) (List.pairwise_lt_range (n := n))
  omega
theorem sorted_eq : ∀ {ys ks : List Int}, ys.Perm ks → ys.Pairwise (· ≤ ·) → ks.Pairwise (· < ·) → ys = ks
  | [], ks, p, _, _ => (List.Perm.nil_eq p)
  | y :: ys, [], p, _, _ => absurd p.length_eq (by simp)
  | y :: ys, k :: ks, p, hy, hk => by
    have hy' := List.pairwise_cons.mp hy
    have hk' := List.pairwise_cons.mp hk
    have e : y = k := by
      have h1 : y ∈ k :: ks := p.subset (List.mem_cons_self ..)
      have h2 : k ∈ y :: ys := p.symm.subset (List.mem_cons_self ..)
      rcases List.mem_cons.mp h1 with h1 | h1
      · exact h1
      · rcases List.mem_cons.mp h2 with h2 | h2
        · exact h2.symm
        · have a1 := hk'.1 _ h1
          have a2 := hy'.1 _ h2
          omega
    subst e
    rw [sorted_eq p.cons_inv hy'.2 hk'.2]
def fltL (f : Nat → Bool) (n : Nat) : List Int := ((List.range n).filter f).map fun i : Nat => (i : Int) + 1
theorem fltL_succ {f : Nat → Bool} {n : Nat} : fltL f (n + 1) = fltL f n ++ if f n then [(n : Int) + 1] else [] := by
  unfold fltL
  rw [List.range_succ, List.filter_append, List.map_append]
  congr 1
  by_cases h : f n = true
  · simp [h]
  · simp [h]
theorem fltL_len {f : Nat → Bool} {n : Nat} : (fltL f n).length ≤ n := by
  unfold fltL
  rw [List.length_map]
  refine Nat.le_trans (List.length_filter_le _ _) ?_
  rw [List.length_range]
  exact Nat.le_refl _
theorem aliveL_flt {zs : List Str} : aliveL zs = fltL (fun i => aliveZ (zs.getD i "")) zs.length := rfl
theorem oneTo_at {n i : Nat} {x : V} (h : ((oneTo n).map V.int)[i]? = some x) : i < n ∧ x = .int ((i : Int) + 1) := by
  unfold oneTo at h
  rw [List.map_map, List.getElem?_map] at h
  by_cases hi : i < n
  · rw [List.getElem?_range hi] at h
    cases h
    exact ⟨hi, rfl⟩
  · rw [List.getElem?_eq_none (by simpa using hi)] at h
    cases h
/-- the running ones among those at work -/
theorem work_run {S : FS} (inv : S.Inv) : S.work.filter S.isRun = fltL (fun i => decide (S.states.getD i "" = "running")) S.states.length := by
  rw [inv.ws, aliveL_flt]
  unfold fltL
  rw [List.filter_map, List.filter_filter]
  congr 1
  apply List.filter_congr
  intro i hi
  have e : S.isRun ((i : Int) + 1) = decide (S.states.getD i "" = "running") := by
    unfold FS.isRun FS.st
    simp only [Int.add_sub_cancel, Int.toNat_natCast]
  show (S.isRun ((i : Int) + 1) && aliveZ _) = _
  rw [e]
  unfold aliveZ
  cases decide (S.states.getD i "" = "running") <;> simp
theorem ne_new {H : Hp} {a c : Addr} {o : HO} (h : upd H a o c = none) : c ≠ a := fun e => by
  subst e
  rw [upd_same] at h
  cases h
theorem off_new {H : Hp} {a c : Addr} {o : HO} (h : upd H a o c = none) : H c = none := by
  rw [upd_ne (ne_new h)] at h
  exact h
theorem none_run {i : Nat} (h : Wo.ok FS.zero (.run i)) : False := absurd h (Nat.not_lt_zero _)
theorem none_opn {i : Nat} (h : Wo.ok FS.zero (.opn i)) : False := absurd h (Nat.not_lt_zero _)
theorem none_part {i : Nat} (h : Wo.ok FS.zero (.part i)) : False := absurd h (Nat.not_lt_zero _)
def wzero (p1 p2 p3 p4 : Addr) : Wo → Addr
  | .obj => p4
  | .parts => p1
  | .runs => p2
  | .ents => p3
  | _ => p4
theorem world_made {H : Hp} {p p1 p2 p3 : Addr} (np : H p = none) (n1 : upd H p (.dK []) p1 = none) (n2 : upd (upd H p (.dK [])) p1 (.dK []) p2 = none)
    (n3 : upd (upd (upd H p (.dK [])) p1 (.dK [])) p2 (.dK []) p3 = none) :
    WdA (upd (upd (upd (upd (upd H p (.dK [])) p1 (.dK [])) p2 (.dK [])) p3 (.lst [])) p (.dK (wobj p1 p2 p3 FS.zero))) p FS.zero (WFoot FS.zero (wzero p1 p2 p3 p)) ∧
    (∀ x, WFoot FS.zero (wzero p1 p2 p3 p) x → H x = none) ∧ Same H (upd (upd (upd (upd (upd H p (.dK [])) p1 (.dK [])) p2 (.dK [])) p3 (.lst [])) p (.dK (wobj p1 p2 p3 FS.zero))) := by
  have a1 := ne_new n1
  have b1 := off_new n1
  have a2 := ne_new n2
  have a3 := ne_new (off_new n2)
  have b2 := off_new (off_new n2)
  have a4 := ne_new n3
  have a5 := ne_new (off_new n3)
  have a6 := ne_new (off_new (off_new n3))
  have b3 := off_new (off_new (off_new n3))
  refine ⟨⟨wzero p1 p2 p3 p, ⟨rfl, fun r r' hr hr' e => ?_, fun r hr => ?_⟩, fun _ => .rfl⟩, ?_, ?_⟩
  · cases r with
    | run i => exact (none_run hr).elim
    | opn i => exact (none_opn hr).elim
    | part i => exact (none_part hr).elim
    | _ =>
      cases r' with
      | run i => exact (none_run hr').elim
      | opn i => exact (none_opn hr').elim
      | part i => exact (none_part hr').elim
      | _ => first | rfl | exact absurd e a1 | exact absurd e a2 | exact absurd e a3 | exact absurd e a4 | exact absurd e a5 | exact absurd e a6 | exact absurd e.symm a1 | exact absurd e.symm a2 | exact absurd e.symm a3 | exact absurd e.symm a4 | exact absurd e.symm a5 | exact absurd e.symm a6
  · cases r with
    | run i => exact (none_run hr).elim
    | opn i => exact (none_opn hr).elim
    | part i => exact (none_part hr).elim
    | obj => exact upd_same
    | parts => exact (upd_ne a1).trans ((upd_ne a5.symm).trans ((upd_ne a2.symm).trans upd_same))
    | runs => exact (upd_ne a3).trans ((upd_ne a4.symm).trans upd_same)
    | ents => exact (upd_ne a6).trans upd_same
  · rintro x ⟨r, hr, rfl⟩
    cases r with
    | run i => exact (none_run hr).elim
    | opn i => exact (none_opn hr).elim
    | part i => exact (none_part hr).elim
    | obj => exact np
    | parts => exact b1
    | runs => exact b2
    | ents => exact b3
  · exact same_tape np (((((same_new np).trans (same_new n1)).trans (same_new n2)).trans (same_new n3)))
theorem world_keys {p1 p2 p3 : Addr} : mergeK [] [((Sum.inr "parts" : Key), V.ref p1), (.inr "runs", .ref p2), (.inr "done", .int 0), (.inr "moment", .int 0), (.inr "entries", .ref p3)] = wobj p1 p2 p3 FS.zero := by
  simp [mergeK, putK, wobj, FS.zero, w_pr, w_pd, w_pm, w_rd, w_rm, w_dm, show ¬ (("parts" : Str) = "entries") by decide +kernel, show ¬ (("runs" : Str) = "entries") by decide +kernel, show ¬ (("done" : Str) = "entries") by decide +kernel, show ¬ (("moment" : Str) = "entries") by decide +kernel]
theorem WdAt.setPart {H : Hp} {b : Addr} {S : FS} {ad : Wo → Addr} {i : Nat} {p : PI} (h : WdAt H b S ad) (hi : i < S.parts.length) :
    WdAt (upd H (ad (.part i)) (.dK (wpart p))) b { S with parts := S.parts.set i p } ad := by
  have hok : ∀ r : Wo, r.ok { S with parts := S.parts.set i p } ↔ r.ok S := fun r => by cases r <;> simp [Wo.ok]
  have pi : Wo.ok S (.part i) := hi
  refine ⟨h.at_, fun r r' hr hr' e => h.inj r r' ((hok r).mp hr) ((hok r').mp hr') e, fun r hr => ?_⟩
  have hr := (hok r).mp hr
  by_cases e : r = .part i
  · subst e
    rw [upd_same]
    show _ = some (match (S.parts.set i p)[i]? with | some p => HO.dK (wpart p) | none => .lst [])
    rw [List.getElem?_set_self hi]
  · rw [h.off pi hr e, h.ex r hr]
    cases r with
    | part j =>
      have nj : i ≠ j := fun q => e (by rw [q])
      show some (match S.parts[j]? with | some p => HO.dK (wpart p) | none => .lst []) = some (match (S.parts.set i p)[j]? with | some p => HO.dK (wpart p) | none => .lst [])
      rw [List.getElem?_set_ne nj]
    | parts =>
      show some (HO.dK (kr _ S.parts.length)) = some (HO.dK (kr _ (S.parts.set i p).length))
      rw [List.length_set]
    | _ => rfl
theorem w_of : ¬ (("of" : Str) = "fate") := by decide +kernel
theorem w_af : ¬ (("around" : Str) = "fate") := by decide +kernel
theorem w_tf : ¬ (("to" : Str) = "fate") := by decide +kernel
theorem w_atf : ¬ (("at" : Str) = "fate") := by decide +kernel
theorem w_ef : ¬ (("ended" : Str) = "fate") := by decide +kernel
theorem w_oe : ¬ (("of" : Str) = "ended") := by decide +kernel
theorem w_ae : ¬ (("around" : Str) = "ended") := by decide +kernel
theorem w_te : ¬ (("to" : Str) = "ended") := by decide +kernel
theorem w_ate : ¬ (("at" : Str) = "ended") := by decide +kernel
theorem w_fe : ¬ (("fate" : Str) = "ended") := by decide +kernel
theorem w_ot : ¬ (("of" : Str) = "to") := by decide +kernel
theorem w_art : ¬ (("around" : Str) = "to") := by decide +kernel
theorem w_att : ¬ (("at" : Str) = "to") := by decide +kernel
theorem w_ft : ¬ (("fate" : Str) = "to") := by decide +kernel
theorem w_et : ¬ (("ended" : Str) = "to") := by decide +kernel
theorem w_oa : ¬ (("of" : Str) = "at") := by decide +kernel
theorem w_ara : ¬ (("around" : Str) = "at") := by decide +kernel
theorem w_ta : ¬ (("to" : Str) = "at") := by decide +kernel
theorem w_fa : ¬ (("fate" : Str) = "at") := by decide +kernel
theorem w_ea : ¬ (("ended" : Str) = "at") := by decide +kernel
theorem wput_fate {p : PI} {z : Str} : putK (wpart p) (.inr "fate") (.str z) = wpart { p with outcome := z } := by
  simp [putK, wpart, w_of, w_af, w_tf, w_atf, w_ef, PI.to]
theorem wput_ended {p : PI} {n : Int} : putK (wpart p) (.inr "ended") (.int n) = wpart { p with ended := some n } := by
  simp [putK, wpart, w_oe, w_ae, w_te, w_ate, w_fe, PI.to, oI]
theorem wput_rel {p : PI} {n q : Int} (h : p.outer = some q) : putK (putK (wpart p) (.inr "to") (.int q)) (.inr "at") (.int n) = wpart { p with released := some n } := by
  simp [putK, wpart, w_ot, w_art, w_att, w_ft, w_et, w_oa, w_ara, w_ta, w_fa, w_ea, PI.to, oI, h]
theorem if_str {σ : L2.St} {n : Nat} {k : Bool} {a b : Str} {Q : VK} {H : Hp} (hv : σ[n]? = some (some (.bl k))) (h : Q (.str (if k = true then a else b)) H) : tIf (tB (tVar n)) (tC (.str a)) (tC (.str b)) σ H Q := by
  refine ⟨_, hv, k, rfl, ?_⟩
  cases k <;> exact h
theorem wpart_new {i : Int} {o : Option Int} : mergeK [] [((Sum.inr "of" : Key), V.int i), (.inr "around", oI o), (.inr "to", .non), (.inr "at", .non), (.inr "fate", .str "open"), (.inr "ended", .non)] = wpart ⟨i, o, none, none, "open"⟩ := by
  simp [mergeK, putK, wpart, PI.to, oI, w_of, w_af, w_tf, w_atf, w_oe, w_ae, w_te, w_ate, w_fe, w_ot, w_art, w_oa, w_ara, w_ta, show ¬ (("of" : Str) = "around") by decide +kernel]
theorem set_getD {α : Type} {l : List α} {i : Nat} {d : α} (h : i < l.length) : l.set i (l.getD i d) = l := by
  rw [List.getD_eq_getElem?_getD, List.getElem?_eq_getElem h]
  exact List.set_getElem_self h
end Rm

set_option maxRecDepth 100000
set_option maxHeartbeats 4000000
namespace K08
open PySem PySem.Spec L2 Rm
open PyProof.Rows hiding St
section
variable {P : Program} {w : World} {K : PySem.W.Frag} {mg : Str → Option Value} {base : Heap}
theorem sc__law_world : FnScope [] [] (defScope s__law_world) :=
  ⟨rfl, rfl, rfl, by decide +kernel, rfl, by decide +kernel, by decide +kernel⟩
def spWorld : Sp := fun vs H Q _ => vs = [] ∧ ∀ b H' G, WdA H' b FS.zero G → (∀ x, G x → H x = none) → Same H H' → Q (.ref b) H'
theorem ok_world {f : Addr} {fd : FuncData} (F0 : Fun K "_law_world" "_law_world" s__law_world f fd) :
    FnG P w K mg base CX0 1 f fd [] spWorld := by
  refine fn_q F0 sc__law_world (fun vs H Q E h => ?_) (fun cdv A outer s H vs Q E hr hG h => ?_)
  · obtain ⟨rfl, _⟩ := h
    rfl
  · obtain ⟨rfl, q⟩ := h
    refine ⟨_, (pss_one (ps_ret (pe_disp (pps_cons pe_str pe_dnewK (pps_cons pe_str pe_dnewK (pps_cons pe_str pe_int (pps_cons pe_str pe_int (pps_cons pe_str (pe_lst pa_nil) pps_nil))))) (by rfl) (by rfl) (fun z => by cases z) (by decide)))), ?_⟩
    intro p np
    intro p1 n1 p2 n2
    refine ⟨(show 0 ≤ sizeLine by decide), fun p3 n3 => ?_⟩
    have a1 := ne_new n1
    have a3 := ne_new (off_new n2)
    have a6 := ne_new (off_new (off_new n3))
    refine ⟨(upd_ne a6.symm).trans ((upd_ne a3.symm).trans ((upd_ne a1.symm).trans upd_same)), [(.inr "parts", .ref p1), (.inr "runs", .ref p2), (.inr "done", .int 0), (.inr "moment", .int 0), (.inr "entries", .ref p3)], rfl, (show 5 ≤ 15 by decide), ?_⟩
    rw [world_keys]
    obtain ⟨m1, m2, m3⟩ := world_made np n1 n2 n3
    exact q p _ _ m1 m2 m3
theorem sc__law_running : FnScope ["_law_world_here", "_law_one"] ["_law_world_here"] (defScope s__law_running) :=
  ⟨rfl, rfl, rfl, by decide +kernel, rfl, by decide +kernel, by decide +kernel⟩
def spRunW : Sp := fun vs H Q _ => ∃ b S G, vs = [.ref b] ∧ WdA H b S G ∧ S.Inv ∧ S.states.length < 64 ∧ ∀ y H', H y = none → H' y = some (.lst (S.work.map V.int)) → Same H H' → Q (.ref y) H'
theorem ok_runW {f : Addr} {fd : FuncData} (F0 : Fun K "_law_running" "_law_running" s__law_running f fd) (B : Bl mg) :
    FnG P w K mg base CX0 1 f fd ["_law_world_here"] spRunW := by
  refine fn_q F0 sc__law_running (fun vs H Q E h => ?_) (fun cdv A outer s H vs Q E hr hG h => ?_)
  · obtain ⟨b, S, G, rfl, _⟩ := h
    rfl
  · obtain ⟨b, S, G, rfl, ⟨ad, hw, hG'⟩, inv, h64, q⟩ := h
    have hu := hu_of hr
    refine ⟨_, (pss_one (ps_ret (pe_lc (own := [("_law_one", 1)]) (by rfl) sc__law_running.nd (pi_list (pe_callB (call_sortedDI rfl) (by rfl) B.n_sorted (by decide +kernel) (pa_cons (pe_dget hu (pv 0) pe_str (fun _ _ => rfl)) pa_nil))) (blkOk_by (own := [("_law_one", 1)]) (N := ["_law_world_here", "_law_one"]) (sc := defScope s__law_running) (by decide +kernel))
        (fun _ _ _ _ _ => (pg_name (i := 1) sc__law_running.nd rfl (Or.inl rfl))) (fun _ _ _ _ _ => (pts_one (pt_cmpR (show OpR _ _ (rIn K false) from op_in_seq) (pe_ix (show IxR _ (rIxL K) from ix_list) (pe_dget hu (pe_dget hu (pv 0) pe_str (fun _ _ => rfl)) (pv 1) (fun _ _ => rfl)) pe_int (fun _ _ => rfl)) (pe_tup (pa_cons pe_str (pa_cons pe_str pa_nil))) (by rfl)))) (fun _ _ _ _ _ => (pv 1))))), ?_⟩
    have hks : (kr (fun i => ad (.run i)) S.states.length).map (·.1) = (oneTo S.states.length).map Sum.inl := kr_keys
    refine ⟨_, rfl, _, _, rfl, hw.gr, _, _, oneTo S.states.length, rfl, .inl (hw.ex .runs trivial), hks, by rw [oneTo_len]; exact h64, fun ys p pm pw np => ?_⟩
    obtain rfl := sorted_eq pm pw oneTo_lt
    have hp : upd H p (.lst ((oneTo S.states.length).map V.int)) p = some (.lst ((oneTo S.states.length).map V.int)) := upd_same
    have s1 : Same H (upd H p (.lst ((oneTo S.states.length).map V.int))) := same_new np
    generalize upd H p (.lst ((oneTo S.states.length).map V.int)) = H1 at hp s1 ⊢
    refine ⟨p, rfl, ⟨_, .inl (.inl hp)⟩, fun D nD => lc_list (xs := (oneTo S.states.length).map V.int) (fun n H' => Same H1 H' ∧ H' D = some (.lst ((fltL (fun i => aliveZ (S.states.getD i "")) n).map V.int))) ⟨same_new nD, upd_same⟩ (fun n H' _ e => .inl (.inl (e.1 _ _ hp))) ?_ ?_⟩
    · rintro n x H2 hx ⟨s2, hD⟩
      obtain ⟨hn, rfl⟩ := oneTo_at hx
      have hw2 := (hw.same s1).same s2
      refine ⟨rfl, ?_⟩
      have nl : ((fltL (fun i => aliveZ (S.states.getD i "")) n).map V.int).length < sizeLine := by
        rw [List.length_map]
        exact sz1000 (Nat.le_trans fltL_len (by omega))
      refine ⟨_, rfl, _, _, rfl, hw2.gr, _, rfl, _, _, rfl, hw2.grun hn, _, _, _, _, rfl, rfl, .inl (.inl (hw2.run hn)), rfl, (show 2 ≤ sizeLine by decide), fun T nT => ?_⟩
      have z := s2.trans (same_new (o := .tup [V.str "running", .str "prepared"]) nT)
      have hDT : upd H2 T (.tup [V.str "running", .str "prepared"]) D = some (.lst ((fltL (fun i => aliveZ (S.states.getD i "")) n).map V.int)) := (same_new nT) _ _ hD
      have est : S.st (.int ((n : Int) + 1)) = S.states.getD n "" := by
        unfold FS.st
        simp only [Int.add_sub_cancel, Int.toNat_natCast]
      refine ⟨T, _, rfl, .inr (.inl (.inl upd_same)), rfl, rfl, _, rfl, ite2 (fun c => ?_) fun c => ?_⟩
      · have c' : aliveZ (S.states.getD n "") = true := by
          rw [← est]
          unfold aliveZ
          rcases in_two c with e | e
          · simp [e]
          · simp [e]
        refine ⟨_, rfl, _, hDT, nl, same_tape nD z, ?_⟩
        rw [upd_same, fltL_succ, if_pos c', List.map_append]
        rfl
      · have c' : ¬ aliveZ (S.states.getD n "") = true := fun y => c (two_in (by
          rw [← est] at y
          unfold aliveZ at y
          simpa using y))
        refine ⟨z, ?_⟩
        rw [hDT, fltL_succ, if_neg c', List.append_nil]
    · rintro H2 ⟨s2, hD⟩
      rw [List.length_map, oneTo_len] at hD
      refine q D H2 (none_of s1 nD) ?_ (s1.trans s2)
      rw [inv.ws]
      exact hD
end
end K08

set_option maxRecDepth 100000
set_option maxHeartbeats 4000000
namespace K08
open PySem PySem.Spec L2 Rm
open PyProof.Rows hiding St
section
variable {P : Program} {w : World} {K : PySem.W.Frag} {mg : Str → Option Value} {base : Heap}
theorem sc__law_over : FnScope ["_law_world_here", "_law_number", "_law_is_kept", "_law_part"] ["_law_world_here", "_law_number", "_law_is_kept"] (defScope s__law_over) :=
  ⟨rfl, rfl, rfl, by decide +kernel, rfl, by decide +kernel, by decide +kernel⟩
def spOver : Sp := fun vs H Q _ => ∃ b i k S G, vs = [.ref b, .int ((i : Nat) + 1), .bl k] ∧ WdA H b S G ∧ S.Inv ∧ i < S.states.length ∧ S.Few 900 ∧
  ∀ H' G', WdA H' b { S.endT i (if k then "committed" else "aborted") (if k then "committed" else "rolled back") with moment := S.moment + if k then 1 else 0 } G' → Fr G H H' → Grow G G' H → Q .non H'
theorem ok_over {f : Addr} {fd : FuncData} (F0 : Fun K "_law_over" "_law_over" s__law_over f fd) (B : Bl mg) :
    FnG P w K mg base CX0 1 f fd ["_law_world_here", "_law_number", "_law_is_kept"] spOver := by
  refine fn_q F0 sc__law_over (fun vs H Q E h => ?_) (fun cdv A outer s H vs Q E hr hG h => ?_)
  · obtain ⟨b, i, k, S, G, rfl, _⟩ := h
    rfl
  · obtain ⟨b, i, k, S, G, rfl, ⟨ad, hw, hG'⟩, inv, hi, few, q⟩ := h
    have hu := hu_of hr
    refine ⟨_, (pss_cons (ps_for PassesOwn.never rfl (pi_list (pe_ix ix_list (pe_dget hu (pe_dget hu (pv 0) pe_str (fun _ _ => rfl)) (pv 1) (fun _ _ => rfl)) pe_int (fun _ _ => rfl))) (pg_name (i := 3) sc__law_over.nd rfl (Or.inl rfl)) (pss_cons (ps_dput hu (pe_dget hu (pe_dget hu (pv 0) pe_str (fun _ _ => rfl)) (pv 3) (fun _ _ => rfl)) pe_str (pe_ifExp (pt_val (pv 2)) pe_str pe_str) rfl)
      (pss_one (ps_dput hu (pe_dget hu (pe_dget hu (pv 0) pe_str (fun _ _ => rfl)) (pv 3) (fun _ _ => rfl)) pe_str (pe_dget hu (pv 0) pe_str (fun _ _ => rfl)) rfl))))
      (pss_cons (ps_dput hu (pe_dget hu (pv 0) pe_str (fun _ _ => rfl)) (pv 1) (pe_lst (pa_cons (pe_ifExp (pt_val (pv 2)) pe_str pe_str) (pa_cons (pe_lst pa_nil) pa_nil))) rfl)
      (pss_one (ps_dput hu (pv 0) pe_str (pe_op op_add (pe_dget hu (pv 0) pe_str (fun _ _ => rfl)) (pe_callTy call_int1 (by rfl) B.n_int (by decide +kernel) (pa_cons (pv 2) pa_nil))) rfl)))), ?_⟩
    have hst : S.stacks[i]? = some (S.stacks.getD i []) := by
      rw [List.getD_eq_getElem?_getD, List.getElem?_eq_getElem (by rw [inv.ls]; exact hi)]
      rfl
    have hmem : S.stacks.getD i [] ∈ S.stacks := List.mem_of_getElem? hst
    refine ⟨_, rfl, _, _, rfl, hw.gr, _, rfl, _, _, rfl, hw.grun hi, _, _, _, _, rfl, rfl, .inl (.inl (hw.run hi)), rfl, ad (.opn i), rfl, ⟨_, .inl (.inl (hw.opn hi))⟩,
      for_list (xs := (S.stacks.getD i []).map V.int) (fun n σ H' => (∃ c, σ = [some (.ref b), some (.int ((i : Int) + 1)), some (.bl k), c]) ∧ WdAt H' b (S.endAll (if k then "committed" else "rolled back") ((S.stacks.getD i []).take n)) ad ∧ Fr G H H')
        ⟨⟨_, rfl⟩, hw, .refl⟩ (fun n σ H' _ e => ?_) ?_ ?_⟩
    · obtain ⟨k1, k2, _⟩ := endAll_keeps (if k then "committed" else "rolled back") ((S.stacks.getD i []).take n) S
      have e2 := e.2.1.opn (i := i) (by rw [k2]; exact hi)
      rw [k1] at e2
      exact .inl (.inl e2)
    · rintro n x σ H2 hx ⟨⟨c, rfl⟩, hw2, fr2⟩
      obtain ⟨q1, hq, rfl⟩ : ∃ q1, (S.stacks.getD i [])[n]? = some q1 ∧ x = .int q1 := by
        rw [List.getElem?_map] at hx
        cases y : (S.stacks.getD i [])[n]? with
        | none => rw [y] at hx; cases hx
        | some k => rw [y] at hx; cases hx; exact ⟨k, rfl, rfl⟩
      obtain ⟨w1, w2⟩ := inv.kp _ hmem q1 (List.mem_of_getElem? hq)
      obtain ⟨j, rfl⟩ : ∃ j : Nat, q1 = (j : Int) + 1 := ⟨(q1 - 1).toNat, by omega⟩
      obtain ⟨k1, k2, k3, k4, k5, k6⟩ := endAll_keeps (if k then "committed" else "rolled back") ((S.stacks.getD i []).take n) S
      rw [endAll_next hq]
      generalize S.endAll (if k then "committed" else "rolled back") ((S.stacks.getD i []).take n) = S2 at *
      have hj : j < S2.parts.length := by omega
      obtain ⟨p, hp⟩ : ∃ p, S2.parts[j]? = some p := ⟨_, List.getElem?_eq_getElem hj⟩
      refine if_str (k := k) rfl ?_
      have hd1 : DPut H2 (ad (.part j)) (.str "fate") (.str (if k = true then "committed" else "rolled back")) (upd H2 (ad (.part j)) (.dK (wpart { p with outcome := if k = true then "committed" else "rolled back" }))) := by
        rw [← wput_fate]
        exact DPut.k (k := Sum.inr ("fate" : Str)) (hw2.prt hp) (sz1000 (show 6 ≤ 1000 by decide))
      refine ⟨_, rfl, _, _, rfl, hw2.gp, _, rfl, _, _, rfl, hw2.gpart hj, _, _, rfl, hd1, ?_⟩
      have hw3 := hw2.setPart (p := { p with outcome := if k = true then "committed" else "rolled back" }) hj
      have hp3 : ({ S2 with parts := S2.parts.set j { p with outcome := if k = true then "committed" else "rolled back" } } : FS).parts[j]? = some { p with outcome := if k = true then "committed" else "rolled back" } := List.getElem?_set_self hj
      have fr3 : Fr G H2 (upd H2 (ad (.part j)) (.dK (wpart { p with outcome := if k = true then "committed" else "rolled back" }))) := Fr.put ((hG' _).mpr ⟨.part j, by show j < S.parts.length; omega, rfl⟩)
      have ej : j < ({ S2 with parts := S2.parts.set j { p with outcome := if k = true then "committed" else "rolled back" } } : FS).parts.length := by
        show j < (S2.parts.set j _).length
        rw [List.length_set]
        exact hj
      generalize upd H2 (ad (.part j)) (.dK (wpart { p with outcome := if k = true then "committed" else "rolled back" })) = H3 at hw3 fr3 hd1 ⊢
      have hd2 : DPut H3 (ad (.part j)) (.str "ended") (.int S2.done) (upd H3 (ad (.part j)) (.dK (wpart { p with outcome := if k = true then "committed" else "rolled back", ended := some S2.done }))) := by
        have := DPut.k (k := Sum.inr ("ended" : Str)) (v := .int S2.done) (hw3.prt hp3) (sz1000 (show 6 ≤ 1000 by decide))
        rw [wput_ended] at this
        exact this
      refine ⟨_, rfl, _, _, rfl, hw3.gd, _, rfl, _, _, rfl, hw3.gp, _, rfl, _, _, rfl, hw3.gpart ej, _, _, rfl, hd2, ⟨_, rfl⟩, ?_, ?_⟩
      · have hw4 := hw3.setPart (p := { p with outcome := if k = true then "committed" else "rolled back", ended := some S2.done }) ej
        unfold FS.endP FS.mdP
        rw [Int.add_sub_cancel, Int.toNat_natCast, ← modify_set hp]
        have e : (S2.parts.set j { p with outcome := if k = true then "committed" else "rolled back" }).set j { p with outcome := if k = true then "committed" else "rolled back", ended := some S2.done } = S2.parts.set j { p with outcome := if k = true then "committed" else "rolled back", ended := some S2.done } := List.set_set ..
        rw [← e]
        exact hw4
      · have fr4 : Fr G H3 (upd H3 (ad (.part j)) (.dK (wpart { p with outcome := if k = true then "committed" else "rolled back", ended := some S2.done }))) := Fr.put ((hG' _).mpr ⟨.part j, by show j < S.parts.length; omega, rfl⟩)
        exact (fr2.trans .refl fr3).trans .refl fr4
    · rintro σ H2 ⟨⟨c, rfl⟩, hw2, fr2⟩
      rw [List.length_map, List.take_length] at hw2
      obtain ⟨k1, k2, k3, k4, k5, k6⟩ := endAll_keeps (if k then "committed" else "rolled back") (S.stacks.getD i []) S
      unfold FS.endT at q
      generalize S.endAll (if k then "committed" else "rolled back") (S.stacks.getD i []) = S2 at *
      have hi2 : i < S2.states.length := by rw [k2]; exact hi
      have hG2 : ∀ x, G x ↔ WFoot S2 ad x := fun x => (hG' x).trans (by
        have hok : ∀ r : Wo, r.ok S ↔ r.ok S2 := fun r => by cases r <;> simp [Wo.ok, k2, k6]
        exact ⟨fun ⟨r, h, e⟩ => ⟨r, (hok r).mp h, e⟩, fun ⟨r, h, e⟩ => ⟨r, (hok r).mpr h, e⟩⟩)
      refine if_str (k := k) rfl ⟨(show 0 ≤ sizeLine by decide), fun l nl => ⟨(show 2 ≤ sizeLine by decide), fun y ny => ?_⟩⟩
      have s3 : Same H2 (upd (upd H2 l (.lst [])) y (.lst [.str (if k = true then "committed" else "aborted"), .ref l])) := (same_new nl).trans (same_new ny)
      have ly : l ≠ y := (ne_new ny).symm
      obtain ⟨G1, hw3, fr3, gr3⟩ := WdA.setRun (st := if k = true then "committed" else "aborted") (stk := []) hw2 hG2 (by rw [k1, k2]; exact inv.ls) hi2 s3 (off_new ny) upd_same (.inl ⟨nl, ly⟩) ((upd_ne ly).trans upd_same)
      have hd3 : DPut (upd (upd H2 l (.lst [])) y (.lst [.str (if k = true then "committed" else "aborted"), .ref l])) (ad .runs) (.int ((i : Int) + 1)) (.ref y) (upd (upd (upd H2 l (.lst [])) y (.lst [.str (if k = true then "committed" else "aborted"), .ref l])) (ad .runs) (.dK (putK (kr (fun i => ad (.run i)) S2.states.length) (.inl ((i : Int) + 1)) (.ref y)))) :=
        DPut.k (k := Sum.inl ((i : Int) + 1)) (s3 _ _ (hw2.ex .runs trivial)) (by rw [kr_len, k2]; exact sz1000 (Nat.le_trans few.n (by decide)))
      refine ⟨_, rfl, _, _, rfl, (hw2.same s3).gr, _, rfl, _, _, rfl, hd3, ?_⟩
      generalize upd (upd (upd H2 l (.lst [])) y (.lst [.str (if k = true then "committed" else "aborted"), .ref l])) (ad .runs) (.dK (putK (kr (fun i => ad (.run i)) S2.states.length) (.inl ((i : Int) + 1)) (.ref y))) = H3 at hw3 fr3 gr3 ⊢
      obtain ⟨ad3, hw3, hG3⟩ := hw3
      have hd4 := DPut.k (k := Sum.inr ("moment" : Str)) (v := .int (S2.moment + if k = true then 1 else 0)) hw3.ob (sz1000 (show 5 ≤ 1000 by decide))
      rw [wput_moment] at hd4
      refine ⟨_, rfl, _, _, rfl, hw3.gm, _, rfl, .inr ⟨k, rfl, _, _, rfl, rfl, _, rfl, _, _, rfl, hd4, ?_⟩⟩
      obtain ⟨hw5, fr5⟩ := WdA.setO (S' := { S2 with states := S2.states.set i (if k = true then "committed" else "aborted"), stacks := S2.stacks.set i [], moment := S2.moment + if k = true then 1 else 0 }) hw3 hG3 rfl rfl rfl
      refine q _ _ (hw5.congr rfl (by show S.moment + _ = S2.moment + _; rw [k5]) ?_ ?_ rfl) ((fr2.trans .refl fr3).trans (Grow.refl.trans fr2 gr3) fr5) (Grow.refl.trans fr2 gr3)
      · show S.states.set i _ = S2.states.set i _
        rw [k2]
      · show S.stacks.set i _ = S2.stacks.set i _
        rw [k1]
end
end K08

set_option maxRecDepth 100000
set_option maxHeartbeats 4000000
namespace K08
open PySem PySem.Spec L2 Rm
open PyProof.Rows hiding St
section
variable {P : Program} {w : World} {K : PySem.W.Frag} {mg : Str → Option Value} {base : Heap}
theorem sc__law_opened : FnScope ["_law_world_here", "_law_number", "_law_around", "_law_part", "_law_before"] ["_law_world_here", "_law_number", "_law_around"] (defScope s__law_opened) :=
  ⟨rfl, rfl, rfl, by decide +kernel, rfl, by decide +kernel, by decide +kernel⟩
def spOpened : Sp := fun vs H Q _ => ∃ b i o S G, vs = [.ref b, .int ((i : Nat) + 1), oI o] ∧ WdA H b S G ∧ S.Inv ∧ i ≤ S.states.length ∧ S.Few 900 ∧
  (i < S.states.length → ∀ H' G', WdA H' b (S.opn i o) G' → Fr G H H' → Grow G G' H → Q (.int ((S.parts.length : Int) + 1)) H') ∧
  (i = S.states.length → ∀ H' G', WdA H' b (({ S with states := S.states ++ [("running" : Str)], stacks := S.stacks ++ [[]] } : FS).opn i o) G' → Fr G H H' → Grow G G' H → Q (.int ((S.parts.length : Int) + 1)) H')
theorem ok_opened {f : Addr} {fd : FuncData} (F0 : Fun K "_law_opened" "_law_opened" s__law_opened f fd) (B : Bl mg) :
    FnG P w K mg base CX0 1 f fd ["_law_world_here", "_law_number", "_law_around"] spOpened := by
  refine fn_q F0 sc__law_opened (fun vs H Q E h => ?_) (fun cdv A outer s H vs Q E hr hG h => ?_)
  · obtain ⟨b, i, o, S, G, rfl, _⟩ := h
    rfl
  · obtain ⟨b, i, o, S, G, rfl, ⟨ad, hw, hG'⟩, inv, hi, few, q, q2⟩ := h
    have hu := hu_of hr
    refine ⟨_, (pss_cons (ps_set (i := 3) sc__law_opened.nd rfl (Or.inl rfl) (pe_op op_add (pe_callB call_lenD (by rfl) B.n_len (by decide +kernel) (pa_cons (pe_dget hu (pv 0) pe_str (fun _ _ => rfl)) pa_nil)) pe_int))
      (pss_cons (ps_dput hu (pe_dget hu (pv 0) pe_str (fun _ _ => rfl)) (pv 3) (pe_disp (pps_cons pe_str (pv 1) (pps_cons pe_str (pv 2) (pps_cons pe_str pe_non (pps_cons pe_str pe_non (pps_cons pe_str pe_str (pps_cons pe_str pe_non pps_nil)))))) (by rfl) (by rfl) (fun z => by cases z) (by decide)) rfl)
      (pss_cons (ps_set (i := 4) sc__law_opened.nd rfl (Or.inl rfl) (pe_dget2 hu (pe_dget hu (pv 0) pe_str (fun _ _ => rfl)) (pv 1) (pe_lst (pa_cons pe_str (pa_cons (pe_lst pa_nil) pa_nil))) ⟨rfl, rfl, rfl, rfl⟩))
      (pss_cons (ps_dput hu (pe_dget hu (pv 0) pe_str (fun _ _ => rfl)) (pv 1) (pe_lst (pa_cons (pe_ix ix_list (pv 4) pe_int (fun _ _ => rfl)) (pa_cons (pe_op op_cat (pe_ix ix_list (pv 4) pe_int (fun _ _ => rfl)) (pe_lst (pa_cons (pv 3) pa_nil))) pa_nil))) rfl)
      (pss_one (ps_ret (pv 3))))))), ?_⟩
    have hlen := kr_len (f := fun i => ad (.part i)) (n := S.parts.length)
    have nst := few.n
    have nps := few.p
    have nls := inv.ls
    refine ⟨_, rfl, _, _, rfl, hw.gp, _, _, rfl, hw.ex .parts trivial, _, _, rfl, rfl, ?_⟩
    rw [hlen]
    intro y ny
    refine ⟨_, rfl, _, rfl, upd_same, [(.inr "of", .int ((i : Int) + 1)), (.inr "around", oI o), (.inr "to", .non), (.inr "at", .non), (.inr "fate", .str "open"), (.inr "ended", .non)], rfl, (show 6 ≤ 15 by decide), ?_⟩
    rw [wpart_new, upd_upd]
    have s1 : Same H (upd H y (.dK (wpart ⟨(i : Int) + 1, o, none, none, "open"⟩))) := same_new ny
    have hy1 : upd H y (.dK (wpart ⟨(i : Int) + 1, o, none, none, "open"⟩)) y = some (.dK (wpart ⟨(i : Int) + 1, o, none, none, "open"⟩)) := upd_same
    generalize upd H y (.dK (wpart ⟨(i : Int) + 1, o, none, none, "open"⟩)) = H1 at s1 hy1 ⊢
    obtain ⟨hwA, fr1, _⟩ := WdA.addPart hw hG' s1 ny hy1
    have hd1 : DPut H1 (ad .parts) (.int ((S.parts.length : Int) + 1)) (.ref y) (upd H1 (ad .parts) (.dK (putK (kr (fun i => ad (.part i)) S.parts.length) (.inl ((S.parts.length : Int) + 1)) (.ref y)))) :=
      DPut.k (k := Sum.inl ((S.parts.length : Int) + 1)) (s1 _ _ (hw.ex .parts trivial)) (by rw [hlen]; exact sz1000 (by omega))
    refine ⟨_, rfl, _, _, rfl, (hw.same s1).gp, _, rfl, _, _, rfl, hd1, ?_⟩
    generalize upd H1 (ad .parts) (.dK (putK (kr (fun i => ad (.part i)) S.parts.length) (.inl ((S.parts.length : Int) + 1)) (.ref y))) = H2 at hwA fr1 ⊢
    have gr1 : Grow G (With G y) H := Grow.add ny
    obtain ⟨ad1, hw1, hG1⟩ := hwA
    dsimp only
    refine Rm.seq_mid (fun σ H' => Same H2 H' ∧ ∃ y' l' st, σ = [some (.ref b), some (.int ((i : Int) + 1)), some (oI o), some (.int ((S.parts.length : Int) + 1)), some (.ref y')] ∧ H' y' = some (.lst [.str st, .ref l']) ∧
      H' l' = some (.lst ((S.stacks.getD i []).map V.int)) ∧ (i < S.states.length → st = S.states.getD i "") ∧ (i = S.states.length → st = "running")) ?_ ?_
    rotate_left
    · intro N hN
      refine ⟨_, rfl, _, _, rfl, hw1.gr, _, rfl, .inl ⟨_, .inl (hw1.ex .runs trivial)⟩, _, rfl, (show 0 ≤ sizeLine by decide), fun l0 n0 => ⟨(show 2 ≤ sizeLine by decide), fun y0 n1 => ?_⟩⟩
      have s2 : Same H2 (upd (upd H2 l0 (.lst [])) y0 (.lst [.str "running", .ref l0])) := (same_new n0).trans (same_new n1)
      have hw2 := hw1.same s2
      by_cases c : i < S.states.length
      · have e1 := hw2.run (i := i) c
        have e2 := hw2.opn (i := i) c
        have est : ({ S with parts := S.parts ++ [(⟨(i : Int) + 1, o, none, none, "open"⟩ : PI)] } : FS).st (.int ((i : Int) + 1)) = S.states.getD i "" := by
          unfold FS.st
          simp only [Int.add_sub_cancel, Int.toNat_natCast]
        rw [est] at e1
        exact ⟨_, hw2.grun (i := i) c, hN _ _ ⟨s2, _, _, _, rfl, e1, e2, fun _ => rfl, fun e => absurd e (Nat.ne_of_lt c)⟩⟩
      · have ei : i = S.states.length := by omega
        have gn : DGet (upd (upd H2 l0 (.lst [])) y0 (.lst [.str "running", .ref l0])) (ad1 .runs) (.int ((i : Int) + 1)) none := by
          have e := DGet.k (k := Sum.inl ((i : Int) + 1)) (hw2.ex .runs trivial)
          rw [kr_no (by show ¬ (1 ≤ _ ∧ _ ≤ (S.states.length : Int)); omega)] at e
          exact e
        have e0 : S.stacks.getD i [] = [] := by
          rw [List.getD_eq_getElem?_getD, List.getElem?_eq_none (by omega)]
          rfl
        refine ⟨_, gn, hN _ _ ⟨s2, y0, l0, "running", rfl, upd_same, ?_, fun e => absurd e c, fun _ => rfl⟩⟩
        rw [e0]
        exact (upd_ne (ne_new n1).symm).trans upd_same
    · rintro σ H3 ⟨s3, y', l', st, rfl, hy', hl', hs1, hs2⟩
      have hsl : (S.stacks.getD i []).length ≤ 900 := few_getD few
      refine ⟨_, rfl, _, _, _, _, rfl, rfl, .inl (.inl hy'), rfl, _, rfl, _, _, _, _, rfl, rfl, .inl (.inl hy'), rfl, _, rfl, (show 1 ≤ sizeLine by decide), fun m nm => ?_⟩
      have s4 := same_new (o := HO.lst [V.int ((S.parts.length : Int) + 1)]) nm
      refine ⟨l', m, _, _, rfl, rfl, s4 _ _ hl', upd_same, (by rw [List.length_map]; exact Nat.le_of_lt (sz1000 (show (S.stacks.getD i []).length + 1 ≤ 1000 by omega))), fun l2 nl2 => ⟨(show 2 ≤ sizeLine by decide), fun y2 ny2 => ?_⟩⟩
      have ecat : (S.stacks.getD i []).map V.int ++ [V.int ((S.parts.length : Int) + 1)] = (S.stacks.getD i [] ++ [(S.parts.length : Int) + 1]).map V.int := by simp
      rw [ecat] at ny2 ⊢
      generalize upd H3 m (.lst [V.int ((S.parts.length : Int) + 1)]) = H4 at s4 nl2 ny2 ⊢
      have s5 : Same H4 (upd (upd H4 l2 (.lst ((S.stacks.getD i [] ++ [(S.parts.length : Int) + 1]).map V.int))) y2 (.lst [.str st, .ref l2])) := (same_new nl2).trans (same_new ny2)
      have ly : l2 ≠ y2 := (ne_new ny2).symm
      have hy2 : upd (upd H4 l2 (.lst ((S.stacks.getD i [] ++ [(S.parts.length : Int) + 1]).map V.int))) y2 (.lst [.str st, .ref l2]) y2 = some (.lst [.str st, .ref l2]) := upd_same
      have hl2 : upd (upd H4 l2 (.lst ((S.stacks.getD i [] ++ [(S.parts.length : Int) + 1]).map V.int))) y2 (.lst [.str st, .ref l2]) l2 = some (.lst ((S.stacks.getD i [] ++ [(S.parts.length : Int) + 1]).map V.int)) := (upd_ne ly).trans upd_same
      have ny2' := off_new ny2
      generalize upd (upd H4 l2 (.lst ((S.stacks.getD i [] ++ [(S.parts.length : Int) + 1]).map V.int))) y2 (.lst [.str st, .ref l2]) = H5 at s5 hy2 hl2 ⊢
      have s34 : Same H2 H4 := s3.trans s4
      have s25 : Same H2 H5 := s34.trans s5
      have nl2' := none_of s34 nl2
      have ny2'' := none_of s34 ny2'
      have hw5 := hw1.same s25
      have hklen := kr_len (f := fun i => ad1 (.run i)) (n := S.states.length)
      have hd3 : DPut H5 (ad1 .runs) (.int ((i : Int) + 1)) (.ref y2) (upd H5 (ad1 .runs) (.dK (putK (kr (fun i => ad1 (.run i)) S.states.length) (.inl ((i : Int) + 1)) (.ref y2)))) :=
        DPut.k (k := Sum.inl ((i : Int) + 1)) (hw5.ex .runs trivial) (by show (kr _ S.states.length).length < _; rw [hklen]; exact sz1000 (by omega))
      refine ⟨_, rfl, _, _, rfl, hw5.gr, _, rfl, _, _, rfl, hd3, _, rfl, ?_⟩
      by_cases c : i < S.states.length
      · obtain ⟨G2, hw6, fr6, gr6⟩ := WdA.setRun (st := st) (stk := S.stacks.getD i [] ++ [(S.parts.length : Int) + 1]) hw1 hG1 inv.ls c s25 ny2'' hy2 (.inl ⟨nl2', ly⟩) hl2
        refine q c _ _ (hw6.congr rfl rfl ?_ rfl rfl) (fr1.trans gr1 fr6) (gr1.trans fr1 gr6)
        show S.states = S.states.set i st
        rw [hs1 c, set_getD c]
      · obtain rfl : i = S.states.length := by omega
        obtain ⟨G2, hw6, fr6, gr6⟩ := WdA.addRun (st := st) (stk := S.stacks.getD S.states.length [] ++ [(S.parts.length : Int) + 1]) hw1 hG1 inv.ls s25 ny2'' hy2 nl2' ly hl2
        refine q2 rfl _ _ (hw6.congr rfl rfl ?_ ?_ rfl) (fr1.trans gr1 fr6) (gr1.trans fr1 gr6)
        · show S.states ++ _ = S.states ++ [st]
          rw [hs2 rfl]
        · show S.beg.stacks = S.stacks ++ [S.stacks.getD S.states.length [] ++ [(S.parts.length : Int) + 1]]
          rw [beg_stacks inv.ls]
          have e0 : S.stacks.getD S.states.length [] = [] := by
            rw [List.getD_eq_getElem?_getD, List.getElem?_eq_none (by omega)]
            rfl
          rw [e0]
          rfl
end
end K08

set_option maxRecDepth 100000
set_option maxHeartbeats 4000000
namespace Rm
open PySem PySem.Spec L2
open PyProof.Rows hiding St

/-! ### the words -/
inductive Wd where
  | begin | crash | save | release | back | commit | abort | prepare
  deriving DecidableEq
def Wd.s : Wd → Str
  | .begin => "begin" | .crash => "crash" | .save => "save" | .release => "release" | .back => "back" | .commit => "commit" | .abort => "abort" | .prepare => "prepare"
theorem Wd.inj : ∀ {w w' : Wd}, w.s = w'.s → w = w' := by
  have h : ∀ w w' : Wd, w ≠ w' → w.s ≠ w'.s := by
    intro w w'
    cases w <;> cases w' <;> first | (intro h; exact absurd rfl h) | (intro _; decide +kernel)
  intro w w' e
  by_cases q : w = w'
  · exact q
  · exact absurd e (h w w' q)
theorem Wd.noClean : ∀ w : Wd, w.s ≠ "clean" := by
  intro w
  cases w <;> decide +kernel
def Wd.er : Wd → FS → PyData → Option Ek
  | .begin, S, _ => if 8 ≤ S.work.length then some .tm else none
  | .crash, _, _ => none
  | .save, S, d => S.savE d
  | .release, S, d => S.tkE d
  | .back, S, d => S.tkE d
  | .commit, S, d => S.ru d
  | .abort, S, d => S.ru d
  | .prepare, S, d => S.prE d
def Wd.op : Wd → FS → Nat → FS
  | .begin, S, _ => S.beg
  | .crash, S, _ => S.crs
  | .save, S, i => S.sav i
  | .release, S, i => S.rel i
  | .back, S, i => S.bak i
  | .commit, S, i => S.com i
  | .abort, S, i => S.abo i
  | .prepare, S, i => S.prep i
def Wd.res : Wd → FS → V
  | .begin, S => .int ((S.states.length : Int) + 1)
  | .save, S => .int ((S.parts.length : Int) + 1)
  | _, _ => .non
def Wd.kv : Wd → Ek → V → V
  | .begin, _, _ => .int 8
  | _, .tm, _ => .int 5
  | _, _, x => x
/-- what a word with a number needs to be about -/
def Wd.num : Wd → Bool
  | .begin => false | .crash => false | _ => true
theorem crF_inv : ∀ (l : List Int) {T : FS}, T.Inv → (∀ k ∈ l, 1 ≤ k ∧ k ≤ (T.states.length : Int)) → (crF T l).Inv
  | [], _, h, _ => h
  | k :: l, T, h, hk => by
    obtain ⟨h1, h2⟩ := hk k (.head _)
    have hi : (k - 1).toNat < T.states.length := by omega
    refine crF_inv l (T := T.endT (k - 1).toNat "aborted" "rolled back") (h.endT hi (.inr rfl)) fun k' hk' => ?_
    rw [(endT_keeps T (k - 1).toNat "aborted" "rolled back").1]
    exact hk k' (.tail _ hk')
theorem ru_alive {S : FS} (inv : S.Inv) {i : Nat} (hi : i < S.states.length) (h : S.ru (.int ((i : Int) + 1)) = none) : aliveZ (S.states.getD i "") = true := by
  have a := FS.ru_none h
  have e : S.st (.int ((i : Int) + 1)) = S.states.getD i "" := by
    unfold FS.st
    simp only [Int.add_sub_cancel, Int.toNat_natCast]
  rw [e] at a
  have m : S.states.getD i "" ∈ S.states := by
    rw [List.getD_eq_getElem?_getD, List.getElem?_eq_getElem hi]
    exact List.getElem_mem hi
  unfold aliveZ
  rcases inv.sw _ m with q | q | q | q
  · rw [q]; simp
  · rw [q]; simp
  · exact absurd (.inl q) a.2
  · exact absurd (.inr q) a.2
theorem cut_last {l : List Int} (h : l ≠ []) : cutV (l.map V.int) none (some (-1)) = l.dropLast.map V.int := by
  have hp : 0 < l.length := List.length_pos_iff.mpr h
  unfold cutV
  have e1 : HT.sIx (l.map V.int).length 0 none = 0 := rfl
  have e2 : HT.sIx (l.map V.int).length (l.map V.int).length (some (-1)) = l.length - 1 := by
    unfold HT.sIx
    rw [List.length_map]
    simp
    omega
  rw [e1, e2, List.drop_zero, Nat.sub_zero, List.dropLast_eq_take, List.map_take]
theorem last2_at {l : List Int} (h : 2 ≤ l.length) : ∃ q, l[l.length - 2]? = some q ∧ atI (l.map V.int) (-2) = some (.int q) := by
  refine ⟨l[l.length - 2], List.getElem?_eq_getElem (by omega), ?_⟩
  unfold atI ixN
  rw [if_neg (by decide), List.length_map, if_pos (by omega)]
  show (l.map V.int)[((-2 : Int) + l.length).toNat]? = _
  rw [List.getElem?_map, show ((-2 : Int) + l.length).toNat = l.length - 2 by omega, List.getElem?_eq_getElem (by omega)]
  rfl
theorem lastI_ix {l : List Int} (h : l ≠ []) : l[l.length - 1]? = some (lastI l) := by
  have hp : 0 < l.length := List.length_pos_iff.mpr h
  unfold lastI
  rw [List.getLast?_eq_getElem?, List.getElem?_eq_getElem (by omega)]
  rfl
theorem fr_of_sav {S : FS} {d : PyData} (h : S.savE d = none) : S.fr d = none := by
  cases e : S.fr d with
  | none => rfl
  | some k => rw [savE_fr e] at h; cases h
theorem fr_of_tk {S : FS} {d : PyData} (h : S.tkE d = none) : S.fr d = none := by
  cases e : S.fr d with
  | none => rfl
  | some k => rw [tkE_fr e] at h; cases h
theorem len_of_tk {S : FS} {d : PyData} (h : S.tkE d = none) : ¬ (S.sk d).length = 1 := fun c => by
  rw [tkE_some (fr_of_tk h) c] at h
  cases h
theorem fr_of_pr {S : FS} {d : PyData} (h : S.prE d = none) : S.fr d = none := by
  cases e : S.fr d with
  | none => rfl
  | some k => rw [prE_fr e] at h; cases h
theorem endAll_moment {z : Str} {m : Int} : ∀ (l : List Int) {S : FS}, ({ S with moment := m } : FS).endAll z l = { S.endAll z l with moment := m }
  | [], _ => rfl
  | q :: l, S => endAll_moment l (S := S.endP q z)
section
variable {H : Hp} {b p r e : Addr} {S : FS}
theorem od_of (h : H b = some (.dK (wobj p r e S))) : DGet H b (.str "done") (some (.int S.done)) := by
  have e := DGet.k (k := Sum.inr ("done" : Str)) h
  unfold wobj at e
  rw [valV_neg (kne w_pd), valV_neg (kne w_rd), valV_pos rfl] at e
  exact e
theorem op_of (h : H b = some (.dK (wobj p r e S))) : DGet H b (.str "parts") (some (.ref p)) := by
  have e := DGet.k (k := Sum.inr ("parts" : Str)) h
  unfold wobj at e
  rw [valV_pos rfl] at e
  exact e
theorem pa_of {f : Nat → Addr} {n i : Nat} (h : H p = some (.dK (kr f n))) (hi : i < n) : DGet H p (.int ((i : Int) + 1)) (some (.ref (f i))) := by
  have e := DGet.k (k := Sum.inl ((i : Int) + 1)) h
  rw [kr_at hi] at e
  exact e
end
theorem wput_to_len {p : PI} {v : V} : (putK (wpart p) (.inr "to") v).length = 6 := by
  simp [putK, wpart, w_ot, w_art, w_att, w_ft, w_et]
end Rm

set_option maxRecDepth 100000
set_option maxHeartbeats 4000000
namespace K08
open PySem PySem.Spec L2 Rm
open PyProof.Rows hiding St
section
variable {P : Program} {w : World} {K : PySem.W.Frag} {mg : Str → Option Value} {base : Heap}
theorem sc__law_done : FnScope ["_law_world_here", "_law_word", "_law_number", "_law_one", "_law_some", "_law_state", "_law_opened_here", "_law_part"] ["_law_world_here", "_law_word", "_law_number"] (defScope s__law_done) :=
  ⟨rfl, rfl, rfl, by decide +kernel, rfl, by decide +kernel, by decide +kernel⟩
def spDone : Sp := fun vs H Q _ => ∃ b wd x i S G, vs = [.ref b, .str (Wd.s wd), x] ∧ WdA H b S G ∧ S.Inv ∧ S.Few 800 ∧ S.states.length < 64 ∧ (wd.num = true → x = .int ((i : Nat) + 1) ∧ i < S.states.length ∧ wd.er S (.int ((i : Int) + 1)) = none) ∧
  ∀ H' G', WdA H' b (wd.op S i) G' → Fr G H H' → Grow G G' H → Q (wd.res S) H'
theorem ok_done {f : Addr} {fd : FuncData} (F0 : Fun K "_law_done" "_law_done" s__law_done f fd) (B : Bl mg)
    (D__law_opened : Ce P w K mg base CX0 1 "_law_opened" ["_law_world_here", "_law_number", "_law_around"] spOpened)
    (D__law_over : Ce P w K mg base CX0 1 "_law_over" ["_law_world_here", "_law_number", "_law_is_kept"] spOver) :
    FnG P w K mg base CX0 2 f fd ["_law_world_here", "_law_word", "_law_number"] spDone := by
  refine fn_q F0 sc__law_done (fun vs H Q E h => ?_) (fun cdv A outer s H vs Q E hr hG h => ?_)
  · obtain ⟨b, wd, x, i, S, G, rfl, _⟩ := h
    rfl
  · obtain ⟨b, wd, x, i, S, G, rfl, ⟨ad, hw, hG'⟩, inv, few, h64, hnum, q⟩ := h
    have hu := hu_of hr
    refine ⟨_, (pss_cons (ps_dput hu (pv 0) pe_str (pe_op op_add (pe_dget hu (pv 0) pe_str (fun _ _ => rfl)) pe_int) rfl)
      (pss_cons (ps_if (pt_cmpR op_eq (pv 1) pe_str (nomark _)) (pss_cons (ps_set (i := 2) sc__law_done.nd rfl (Or.inl rfl) (pe_op op_add (pe_callB call_lenD (by rfl) B.n_len (by decide +kernel) (pa_cons (pe_dget hu (pv 0) pe_str (fun _ _ => rfl)) pa_nil)) pe_int))
      (pss_cons (ps_expr (pe_ce D__law_opened (hr.mono (by decide)) hG (pa_cons (pv 0) (pa_cons (pv 2) (pa_cons pe_non pa_nil))) pass0))
      (pss_one (ps_ret (pv 2))))) pss_nil)
      (pss_cons (ps_if (pt_cmpR op_in_seq (pv 1) (pe_tup (pa_cons pe_str (pa_cons pe_str pa_nil))) (by rfl)) (pss_cons (ps_setLc (i := 4) (own := [("_law_one", 3)]) (g := gName 3) rfl sc__law_done.nd rfl rfl (sw_true rfl rfl rfl (by decide +kernel)) (pi_list (pe_callB (call_sortedDI rfl) (by rfl) B.n_sorted (by decide +kernel) (pa_cons (pe_dget hu (pv 0) pe_str (fun _ _ => rfl)) pa_nil))) (blkOk_by (own := [("_law_one", 3)]) (N := ["_law_world_here", "_law_word", "_law_number", "_law_one", "_law_some", "_law_state", "_law_opened_here", "_law_part"]) (sc := defScope s__law_done) (by decide +kernel))
        (fun _ _ _ _ _ => pg_name (i := 3) sc__law_done.nd rfl (Or.inl rfl)) (fun _ _ _ _ _ => (pts_one (pt_cmpR op_eq (pe_ix (show IxR _ (rIxL K) from ix_list) (pe_dget hu (pe_dget hu (pv 0) pe_str (fun _ _ => rfl)) (pv 3) (fun _ _ => rfl)) pe_int (fun _ _ => rfl)) pe_str (nomark _)))) (fun _ _ _ _ _ => (pv 3)))
      (pss_cons (ps_for PassesOwn.never rfl (pi_list (pe_ifExp (pt_cmpR op_eq (pv 1) pe_str (nomark _)) (pv 4) (pe_lst pa_nil))) (pg_name (i := 3) sc__law_done.nd rfl (Or.inl rfl)) (pss_one (ps_expr (pe_ce D__law_over (hr.mono (by decide)) hG (pa_cons (pv 0) (pa_cons (pv 3) (pa_cons pe_bl pa_nil))) pass0))))
      (pss_one (ps_ret pe_non)))) pss_nil)
      (pss_cons (ps_asg (pe_dget hu (pe_dget hu (pv 0) pe_str (fun _ _ => rfl)) (pv 2) (fun _ _ => rfl)) (pg_lst rfl (pgs_cons (pg_name (i := 5) sc__law_done.nd rfl (Or.inl rfl)) (pgs_cons (pg_name (i := 6) sc__law_done.nd rfl (Or.inl rfl)) pgs_nil)) rfl rfl))
      (pss_cons (ps_if (pt_cmpR op_eq (pv 1) pe_str (nomark _)) (pss_one (ps_ret (pe_ce D__law_opened (hr.mono (by decide)) hG (pa_cons (pv 0) (pa_cons (pv 2) (pa_cons (pe_ix ix_list (pv 6) (pe_un un_neg pe_int) (fun _ _ => rfl)) pa_nil))) pass0))) pss_nil)
      (pss_cons (ps_if (pt_cmpR op_in_seq (pv 1) (pe_tup (pa_cons pe_str (pa_cons pe_str pa_nil))) (by rfl)) (pss_one (ps_expr (pe_ce D__law_over (hr.mono (by decide)) hG (pa_cons (pv 0) (pa_cons (pv 2) (pa_cons (pe_cmpR op_eq (pv 1) pe_str (nomark _)) pa_nil))) pass0))) (pss_one (ps_if (pt_cmpR op_eq (pv 1) pe_str (nomark _)) (pss_one (ps_dput hu (pe_dget hu (pv 0) pe_str (fun _ _ => rfl)) (pv 2) (pe_lst (pa_cons pe_str (pa_cons (pv 6) pa_nil))) rfl)) (pss_cons (ps_set (i := 7) sc__law_done.nd rfl (Or.inl rfl) (pe_ix ix_list (pv 6) (pe_un un_neg pe_int) (fun _ _ => rfl)))
      (pss_cons (ps_dput hu (pe_dget hu (pv 0) pe_str (fun _ _ => rfl)) (pv 2) (pe_lst (pa_cons (pv 5) (pa_cons (pe_slice sl_list (pv 6) po_none (po_some (pe_un un_neg pe_int))) pa_nil))) rfl)
      (pss_one (ps_if (pt_cmpR op_eq (pv 1) pe_str (nomark _)) (pss_cons (ps_dput hu (pe_dget hu (pe_dget hu (pv 0) pe_str (fun _ _ => rfl)) (pv 7) (fun _ _ => rfl)) pe_str (pe_ix ix_list (pv 6) (pe_un un_neg pe_int) (fun _ _ => rfl)) rfl)
      (pss_one (ps_dput hu (pe_dget hu (pe_dget hu (pv 0) pe_str (fun _ _ => rfl)) (pv 7) (fun _ _ => rfl)) pe_str (pe_dget hu (pv 0) pe_str (fun _ _ => rfl)) rfl))) (pss_cons (ps_dput hu (pe_dget hu (pe_dget hu (pv 0) pe_str (fun _ _ => rfl)) (pv 7) (fun _ _ => rfl)) pe_str pe_str rfl)
      (pss_one (ps_dput hu (pe_dget hu (pe_dget hu (pv 0) pe_str (fun _ _ => rfl)) (pv 7) (fun _ _ => rfl)) pe_str (pe_dget hu (pv 0) pe_str (fun _ _ => rfl)) rfl))))))))))
      (pss_one (ps_ret pe_non)))))))), ?_⟩
    have hd0 := DPut.k (k := Sum.inr ("done" : Str)) (v := .int (S.done + 1)) hw.ob (sz1000 (show 5 ≤ 1000 by decide))
    rw [wput_done] at hd0
    refine ⟨_, rfl, _, _, rfl, hw.gd, _, _, rfl, rfl, _, rfl, _, _, rfl, hd0, ?_⟩
    obtain ⟨hA1, fr1⟩ := WdA.setO (S' := S.cnt) hw hG' rfl rfl rfl
    have hA1 : WdA (upd H b (.dK (wobj (ad .parts) (ad .runs) (ad .ents) { S with done := S.done + 1 }))) b S.cnt G := hA1
    have fr1 : Fr G H (upd H b (.dK (wobj (ad .parts) (ad .runs) (ad .ents) { S with done := S.done + 1 }))) := fr1
    generalize upd H b (.dK (wobj (ad .parts) (ad .runs) (ad .ents) { S with done := S.done + 1 })) = H1 at hA1 fr1 ⊢
    obtain ⟨ad1, hw1, hG1⟩ := id hA1
    have few1 : S.cnt.Few 900 := few.cnt.mono (by decide)
    have eall : ∀ {wd' : Wd}, decide (V.str wd.s = V.str wd'.s) = true → wd = wd' := fun c => Wd.inj (V.str.inj (of_decide_eq_true c))
    have enot : ∀ {wd' : Wd}, ¬ decide (V.str wd.s = V.str wd'.s) = true → wd ≠ wd' := fun c e => c (decide_eq_true (by rw [e]))
    refine ⟨_, rfl, rfl, _, rfl, ite2 (fun c => ?_) fun c => ?_⟩
    · obtain rfl := eall (wd' := .begin) c
      have hlen := kr_len (f := fun i => ad1 (.run i)) (n := S.cnt.states.length)
      refine ⟨_, rfl, _, _, rfl, hw1.gr, _, _, rfl, hw1.ex .runs trivial, _, _, rfl, rfl, ?_⟩
      rw [hlen]
      refine ⟨_, rfl, _, rfl, b, S.states.length, none, S.cnt, G, rfl, hA1, inv.cnt, Nat.le_refl _, few1, fun h => absurd h (Nat.lt_irrefl _), fun _ H2 G2 hA2 fr2 gr2 => ?_⟩
      exact ⟨_, rfl, q _ _ (hA2.congr rfl rfl rfl rfl rfl) (fr1.trans .refl fr2) (Grow.refl.trans fr1 gr2)⟩
    · have c1 := enot (wd' := .begin) c
      refine ⟨_, rfl, (show 2 ≤ sizeLine by decide), fun T nT => ?_⟩
      have s1 := same_new (o := .tup [V.str "crash", .str "clean"]) nT
      refine ⟨T, _, rfl, .inr (.inl (.inl upd_same)), rfl, rfl, _, rfl, ite2 (fun c => ?_) fun c => ?_⟩
      · have c' := (in_two c).resolve_right wd.noClean
        obtain rfl := Wd.inj (w' := .crash) c'
        have hw2 := hw1.same s1
        have hA2 := hA1.same s1
        generalize upd H1 T (.tup [V.str "crash", .str "clean"]) = H2 at s1 hw2 hA2 ⊢
        have hks : (kr (fun i => ad1 (.run i)) S.cnt.states.length).map (·.1) = (oneTo S.states.length).map Sum.inl := kr_keys
        refine ⟨_, rfl, _, _, rfl, hw2.gr, _, _, oneTo S.states.length, rfl, .inl (hw2.ex .runs trivial), hks, by rw [oneTo_len]; exact h64, fun ys p pm pw np => ?_⟩
        obtain rfl := sorted_eq pm pw oneTo_lt
        have hp : upd H2 p (.lst ((oneTo S.states.length).map V.int)) p = some (.lst ((oneTo S.states.length).map V.int)) := upd_same
        have s2 : Same H2 (upd H2 p (.lst ((oneTo S.states.length).map V.int))) := same_new np
        have hw3 := hw2.same s2
        have hA3 := hA2.same s2
        generalize upd H2 p (.lst ((oneTo S.states.length).map V.int)) = H3 at hp s2 hw3 hA3 ⊢
        refine ⟨p, rfl, ⟨_, .inl (.inl hp)⟩, fun D nD => lc_list (xs := (oneTo S.states.length).map V.int) (fun n H' => Same H3 H' ∧ H' D = some (.lst ((fltL (fun i => decide (S.states.getD i "" = "running")) n).map V.int))) ⟨same_new nD, upd_same⟩ (fun n H' _ e => .inl (.inl (e.1 _ _ hp))) ?_ ?_⟩
        · rintro n x H4 hx ⟨s3, hD⟩
          obtain ⟨hn, rfl⟩ := oneTo_at hx
          have hw4 := hw3.same s3
          have est : S.cnt.st (.int ((n : Int) + 1)) = S.states.getD n "" := by
            unfold FS.st
            simp only [Int.add_sub_cancel, Int.toNat_natCast]
            rfl
          have hrun := hw4.run (i := n) hn
          rw [est] at hrun
          have nl : ((fltL (fun i => decide (S.states.getD i "" = "running")) n).map V.int).length < sizeLine := by
            rw [List.length_map]
            exact sz1000 (Nat.le_trans fltL_len (by omega))
          refine ⟨rfl, _, rfl, _, _, rfl, hw4.gr, _, rfl, _, _, rfl, hw4.grun (i := n) hn, _, _, _, _, rfl, rfl, .inl (.inl hrun), rfl, rfl, _, rfl, ite2 (fun c => ?_) fun c => ?_⟩
          · have c' : decide (S.states.getD n "" = "running") = true := decide_eq_true (V.str.inj (of_decide_eq_true c))
            refine ⟨_, rfl, _, hD, nl, same_tape nD s3, ?_⟩
            rw [upd_same, fltL_succ, if_pos c', List.map_append]
            rfl
          · have c' : ¬ decide (S.states.getD n "" = "running") = true := fun y => c (decide_eq_true (by rw [of_decide_eq_true y]))
            refine ⟨s3, ?_⟩
            rw [hD, fltL_succ, if_neg c', List.append_nil]
        · rintro H4 ⟨s3, hD⟩
          rw [List.length_map, oneTo_len, ← work_run inv] at hD
          have hnd : (S.work.filter S.isRun).Nodup := by
            rw [inv.ws]
            exact aliveL_nodup.filter _
          have hrng : ∀ k ∈ S.work.filter S.isRun, 1 ≤ k ∧ k ≤ (S.states.length : Int) := fun k hk => by
            have hw := (List.mem_filter.mp hk).1
            rw [inv.ws, aliveL_mem] at hw
            obtain ⟨i, rfl, hi, _⟩ := hw
            omega
          have hA4 := hA3.same s3
          have nDG : ¬ G D := fun h => by
            obtain ⟨u, hu'⟩ := hA3.on D h
            rw [nD] at hu'
            cases hu'
          have fr4 : Fr G H H4 := fr1.trans .refl (.same ((s1.trans s2).trans s3))
          refine ⟨_, rfl, rfl, _, rfl, ite2 (fun _ => ?_) fun c => absurd (decide_eq_true rfl) c⟩
          refine ⟨_, rfl, D, rfl, ⟨_, .inl (.inl hD)⟩, for_list (xs := (S.work.filter S.isRun).map V.int) (fun n σ H' => (∃ c, σ = [some (.ref b), some (.str Wd.crash.s), some x, c, some (.ref D), none, none, none]) ∧ H' D = some (.lst ((S.work.filter S.isRun).map V.int)) ∧
            ∃ G', ¬ G' D ∧ WdA H' b (crF S.cnt ((S.work.filter S.isRun).take n)) G' ∧ Fr G H H' ∧ Grow G G' H) ⟨⟨_, rfl⟩, hD, G, nDG, hA4, fr4, .refl⟩ (fun n σ H' _ e => .inl (.inl e.2.1)) ?_ ?_⟩
          · rintro n x σ H5 hx ⟨⟨c, rfl⟩, hD5, G', nG, hA5, fr5, gr5⟩
            obtain ⟨k, hk, rfl⟩ : ∃ k, (S.work.filter S.isRun)[n]? = some k ∧ x = .int k := by
              rw [List.getElem?_map] at hx
              cases y : (S.work.filter S.isRun)[n]? with
              | none => rw [y] at hx; cases hx
              | some k => rw [y] at hx; cases hx; exact ⟨k, rfl, rfl⟩
            obtain ⟨w1, w2⟩ := hrng k (List.mem_of_getElem? hk)
            obtain ⟨j, rfl⟩ : ∃ j : Nat, k = (j : Int) + 1 := ⟨(k - 1).toNat, by omega⟩
            obtain ⟨k1, k2, k3, k4, k5⟩ := crF_keeps ((S.work.filter S.isRun).take n) S.cnt fun k hk => (hrng k (List.mem_of_mem_take hk)).1
            have hj : j < (crF S.cnt ((S.work.filter S.isRun).take n)).states.length := by
              rw [k1]
              show j < S.states.length
              omega
            refine ⟨_, rfl, _, rfl, b, j, false, _, G', rfl, hA5, crF_inv _ inv.cnt fun k hk => hrng k (List.mem_of_mem_take hk), hj, FS.Few.crF _ few1, fun H6 G6 hA6 fr6 gr6 => ?_⟩
            refine ⟨⟨_, rfl⟩, fr6 _ _ hD5 nG, G6, fun h => ?_, ?_, fr5.trans gr5 fr6, gr5.trans fr5 gr6⟩
            · rcases gr6 D h with h | h
              · exact nG h
              · rw [hD5] at h; cases h
            · rw [crF_next hk, Int.add_sub_cancel, Int.toNat_natCast]
              refine hA6.congr rfl ?_ rfl rfl rfl
              show (FS.endAll _ _ _).moment = _ + 0
              rw [Int.add_zero]
              exact (endAll_keeps _ _ _).2.2.2.2.1
          · rintro σ H5 ⟨⟨c, rfl⟩, hD5, G', nG, hA5, fr5, gr5⟩
            rw [List.length_map, List.take_length] at hA5
            exact q _ G' hA5 fr5 gr5
      · have c2 : wd ≠ .crash := fun e => c (two_in (.inl (by rw [e]; rfl)))
        obtain ⟨rfl, hi, her⟩ := hnum (by cases wd <;> first | rfl | exact absurd rfl c1 | exact absurd rfl c2)
        have hw2 := hw1.same s1
        generalize upd H1 T (.tup [V.str "crash", .str "clean"]) = H2 at s1 hw2 ⊢
        refine ⟨_, rfl, _, _, rfl, hw2.gr, _, rfl, _, _, rfl, hw2.grun (i := i) hi, _, _, rfl, .inl (.inl (hw2.run (i := i) hi)), rfl, _, _, rfl, _, _, rfl, rfl, ?_⟩
        have hA2 := hA1.same s1
        have fr2 : Fr G H H2 := fr1.trans .refl (.same s1)
        have wf := inv.wf few (by decide)
        have est : S.cnt.st (.int ((i : Int) + 1)) = S.states.getD i "" := by
          unfold FS.st
          simp only [Int.add_sub_cancel, Int.toNat_natCast]
          rfl
        rw [est]
        have opn2 := hw2.opn (i := i) hi
        have mem := wf.mem hi
        refine ⟨_, rfl, rfl, _, rfl, ite2 (fun c => ?_) fun c => ?_⟩
        · obtain rfl := eall (wd' := .save) c
          have her : S.savE (.int ((i : Int) + 1)) = none := her
          have nel := wf.nel hi (FS.fr_none (fr_of_sav her)).1
          exact ⟨_, rfl, _, rfl, _, rfl, _, rfl, _, _, _, _, rfl, rfl, .inl (.inl opn2), lastI_at nel, b, i, some (lastI (S.stacks.getD i [])), S.cnt, G, rfl, hA2, inv.cnt, Nat.le_of_lt hi, few1,
            fun _ H3 G3 hA3 fr3 gr3 => q _ _ hA3 (fr2.trans .refl fr3) (Grow.refl.trans fr2 gr3), fun e => absurd hi (by rw [e]; exact Nat.lt_irrefl _)⟩
        · have c3 := enot (wd' := .save) c
          refine ⟨_, rfl, (show 2 ≤ sizeLine by decide), fun T2 nT2 => ?_⟩
          have s2 := same_new (o := .tup [V.str "commit", .str "abort"]) nT2
          refine ⟨T2, _, rfl, .inr (.inl (.inl upd_same)), rfl, rfl, _, rfl, ite2 (fun c => ?_) fun c => ?_⟩
          · have hA3 := hA2.same s2
            have fr3 : Fr G H _ := fr2.trans .refl (.same s2)
            refine ⟨_, rfl, _, rfl, _, rfl, rfl, b, i, _, S.cnt, G, rfl, hA3, inv.cnt, hi, few1, fun H4 G4 hA4 fr4 gr4 => ?_⟩
            have fr5 := fr3.trans .refl fr4
            have gr5 : Grow G G4 H := Grow.refl.trans fr3 gr4
            rcases in_two c with c' | c'
            · obtain rfl := Wd.inj (w' := .commit) c'
              have e : decide (V.str (Wd.s .commit) = V.str "commit") = true := decide_eq_true rfl
              rw [e] at hA4
              refine q _ _ (hA4.congr ?_ ?_ ?_ ?_ ?_) fr5 gr5
              · show (FS.endAll ({ S.cnt with moment := _ } : FS) _ _).done = (FS.endAll _ _ _).done
                rw [endAll_moment]
                rfl
              · show (FS.endAll ({ S.cnt with moment := _ } : FS) _ _).moment = _
                rw [endAll_moment]
                rfl
              · rfl
              · rfl
              · show (FS.endAll ({ S.cnt with moment := _ } : FS) _ _).parts = (FS.endAll _ _ _).parts
                rw [endAll_moment]
                rfl
            · obtain rfl := Wd.inj (w' := .abort) c'
              have e : decide (V.str (Wd.s .abort) = V.str "commit") = false := decide_eq_false (fun e => absurd (Wd.inj (w := .abort) (w' := .commit) (V.str.inj e)) (by decide))
              rw [e] at hA4
              refine q _ _ (hA4.congr rfl ?_ rfl rfl rfl) fr5 gr5
              show (FS.endAll _ _ _).moment = _ + 0
              rw [Int.add_zero]
              exact (endAll_keeps _ _ _).2.2.2.2.1
          · have c4 : wd ≠ .commit := fun e => c (two_in (.inl (by rw [e]; rfl)))
            have c5 : wd ≠ .abort := fun e => c (two_in (.inr (by rw [e]; rfl)))
            have hw3 := hw2.same s2
            have fr3 : Fr G H _ := fr2.trans .refl (.same s2)
            generalize upd H2 T2 (.tup [V.str "commit", .str "abort"]) = H3 at s2 hw3 fr3 ⊢
            have opn3 := hw3.opn (i := i) hi
            have hklen := kr_len (f := fun i => ad1 (.run i)) (n := S.cnt.states.length)
            have hlt : (kr (fun i => ad1 (.run i)) S.cnt.states.length).length < sizeLine := by
              rw [hklen]
              exact sz1000 (Nat.le_trans (Nat.le_of_lt h64) (by decide))
            refine ⟨_, rfl, rfl, _, rfl, ite2 (fun c => ?_) fun c => ?_⟩
            · obtain rfl := eall (wd' := .prepare) c
              refine ⟨_, rfl, (show 2 ≤ sizeLine by decide), fun y ny => ?_⟩
              have s3 := same_new (o := .lst [V.str "prepared", .ref (ad1 (.opn i))]) ny
              have hd3 := DPut.k (k := Sum.inl ((i : Int) + 1)) (v := .ref y) (s3 _ _ (hw3.ex .runs trivial)) hlt
              obtain ⟨G4, hA4, fr4, gr4⟩ := WdA.setRun (i := i) (st := "prepared") (stk := S.stacks.getD i []) hw3 hG1 inv.ls hi s3 ny upd_same (.inr rfl) (s3 _ _ opn3)
              refine ⟨_, rfl, _, _, rfl, (hw3.same s3).gr, _, rfl, _, _, rfl, hd3, q _ _ (hA4.congr rfl rfl rfl ?_ rfl) (fr3.trans .refl fr4) (Grow.refl.trans fr3 gr4)⟩
              show S.stacks = S.stacks.set i (S.stacks.getD i [])
              rw [set_getD (by rw [inv.ls]; exact hi)]
            · have c6 := enot (wd' := .prepare) c
              have her : S.tkE (.int ((i : Int) + 1)) = none := by
                cases wd <;> first | exact her | exact absurd rfl c1 | exact absurd rfl c2 | exact absurd rfl c3 | exact absurd rfl c4 | exact absurd rfl c5 | exact absurd rfl c6
              have nel := wf.nel hi (FS.fr_none (fr_of_tk her)).1
              have len1 := len_of_tk her
              rw [sk_at] at len1
              have len2 : 2 ≤ (S.stacks.getD i []).length := by
                have := List.length_pos_iff.mpr nel
                omega
              obtain ⟨w1, w2⟩ := inv.kp _ mem _ (lastI_mem nel)
              refine ⟨_, rfl, _, rfl, _, _, _, _, rfl, rfl, .inl (.inl opn3), lastI_at nel, _, rfl, _, rfl, _, rfl, _, rfl, _, _, rfl, .inl (.inl opn3), fun l nl => ⟨(show 2 ≤ sizeLine by decide), fun y ny => ?_⟩⟩
              have ecut : cutV ((S.cnt.stacks.getD i []).map V.int) none (some (-1)) = (S.stacks.getD i []).dropLast.map V.int := cut_last nel
              rw [ecut] at ny ⊢
              have ly : l ≠ y := (ne_new ny).symm
              have s3 : Same H3 (upd (upd H3 l (.lst ((S.stacks.getD i []).dropLast.map V.int))) y (.lst [.str (S.states.getD i ""), .ref l])) := (same_new nl).trans (same_new ny)
              have hy4 : upd (upd H3 l (.lst ((S.stacks.getD i []).dropLast.map V.int))) y (.lst [.str (S.states.getD i ""), .ref l]) y = some (.lst [.str (S.states.getD i ""), .ref l]) := upd_same
              have hl4 : upd (upd H3 l (.lst ((S.stacks.getD i []).dropLast.map V.int))) y (.lst [.str (S.states.getD i ""), .ref l]) l = some (.lst ((S.stacks.getD i []).dropLast.map V.int)) := (upd_ne ly).trans upd_same
              have ny' := off_new ny
              generalize upd (upd H3 l (.lst ((S.stacks.getD i []).dropLast.map V.int))) y (.lst [.str (S.states.getD i ""), .ref l]) = H4 at s3 hy4 hl4 ⊢
              have hw4 := hw3.same s3
              have opn4 := hw4.opn (i := i) hi
              have hd4 := DPut.k (k := Sum.inl ((i : Int) + 1)) (v := .ref y) (hw4.ex .runs trivial) hlt
              have ne4 : ad1 (.opn i) ≠ ad1 .runs := fun e => by cases hw4.inj (.opn i) .runs hi trivial e
              obtain ⟨G5, hA5, fr5, gr5⟩ := WdA.setRun (i := i) (st := S.states.getD i "") (stk := (S.stacks.getD i []).dropLast) hw3 hG1 inv.ls hi s3 ny' hy4 (.inl ⟨nl, ly⟩) hl4
              refine ⟨_, rfl, _, _, rfl, hw4.gr, _, rfl, _, _, rfl, hd4, ?_⟩
              have opn5 : upd H4 (ad1 .runs) (.dK (putK (kr (fun i => ad1 (.run i)) S.cnt.states.length) (.inl ((i : Int) + 1)) (.ref y))) (ad1 (.opn i)) = some (.lst ((S.cnt.stacks.getD i []).map V.int)) := (upd_ne ne4).trans opn4
              generalize upd H4 (ad1 .runs) (.dK (putK (kr (fun i => ad1 (.run i)) S.cnt.states.length) (.inl ((i : Int) + 1)) (.ref y))) = H5 at hA5 fr5 opn5 ⊢
              have hA5 : WdA H5 b (S.tk i) G5 := hA5.congr rfl rfl (by show S.states = S.states.set i _; rw [set_getD hi]) rfl rfl
              have fr6 : Fr G H H5 := fr3.trans .refl fr5
              have gr6 : Grow G G5 H := Grow.refl.trans fr3 gr5
              obtain ⟨ad5, hw5, hG5⟩ := hA5
              obtain ⟨j, ej⟩ : ∃ j : Nat, lastI (S.stacks.getD i []) = (j : Int) + 1 := ⟨(lastI (S.stacks.getD i []) - 1).toNat, by omega⟩
              have hj : j < (S.tk i).parts.length := by
                show j < S.parts.length
                omega
              obtain ⟨p, hp⟩ : ∃ p, (S.tk i).parts[j]? = some p := ⟨_, List.getElem?_eq_getElem hj⟩
              have hjG : G5 (ad5 (.part j)) := (hG5 _).mpr ⟨.part j, hj, rfl⟩
              have gpj : DGet H5 (ad5 .parts) (.int (lastI (S.cnt.stacks.getD i []))) (some (.ref (ad5 (.part j)))) := by
                rw [show S.cnt.stacks.getD i [] = S.stacks.getD i [] from rfl, ej]
                exact hw5.gpart hj
              have hlast : S.cnt.stacks.getD i [] = S.stacks.getD i [] := rfl
              refine ⟨_, rfl, rfl, _, rfl, ite2 (fun c => ?_) fun c => ?_⟩
              · obtain rfl := eall (wd' := .release) c
                obtain ⟨q', hq', hat⟩ := last2_at len2
                refine ⟨_, rfl, _, rfl, _, _, _, _, rfl, rfl, .inl (.inl opn5), hat, ?_⟩
                have hpo : p.outer = some q' := by
                  refine inv.ch _ mem ((S.stacks.getD i []).length - 2) (lastI (S.stacks.getD i [])) q' hq' ?_ p ?_
                  · have := lastI_ix nel
                    rwa [show (S.stacks.getD i []).length - 2 + 1 = (S.stacks.getD i []).length - 1 by omega]
                  · have e : (lastI (S.stacks.getD i []) - 1).toNat = j := by omega
                    rw [e]
                    exact hp
                have hd6 : DPut H5 (ad5 (.part j)) (.str "to") (.int q') (upd H5 (ad5 (.part j)) (.dK (putK (wpart p) (.inr "to") (.int q')))) := DPut.k (k := Sum.inr ("to" : Str)) (hw5.prt hp) (sz1000 (show 6 ≤ 1000 by decide))
                refine ⟨_, rfl, _, _, rfl, hw5.gp, _, rfl, _, _, rfl, gpj, _, _, rfl, hd6, ?_⟩
                have ob7 : upd H5 (ad5 (.part j)) (.dK (putK (wpart p) (.inr "to") (.int q'))) b = some (.dK (wobj (ad5 .parts) (ad5 .runs) (ad5 .ents) (S.tk i))) := (upd_ne (hw5.obne (r := .part j) hj (by simp)).symm).trans hw5.ob
                have pa7 : upd H5 (ad5 (.part j)) (.dK (putK (wpart p) (.inr "to") (.int q'))) (ad5 .parts) = some (.dK (kr (fun i => ad5 (.part i)) (S.tk i).parts.length)) := (hw5.off (r := .part j) (r' := .parts) hj trivial (by simp)).trans (hw5.ex .parts trivial)
                have gpj7 := pa_of pa7 hj
                rw [← ej] at gpj7
                have hd7 := DPut.k (k := Sum.inr ("at" : Str)) (v := .int (S.tk i).done) (upd_same (H := H5) (a := ad5 (.part j)) (o := .dK (putK (wpart p) (.inr "to") (.int q')))) (by rw [wput_to_len]; exact sz1000 (show 6 ≤ 1000 by decide))
                rw [upd_upd, wput_rel hpo] at hd7
                refine ⟨_, rfl, _, _, rfl, od_of ob7, _, rfl, _, _, rfl, op_of ob7, _, rfl, _, _, rfl, gpj7, _, _, rfl, hd7, ?_⟩
                obtain ⟨hA8, fr8⟩ := WdA.setPart (p := { p with released := some (S.tk i).done }) hw5 hG5 hj
                refine q _ G5 ?_ (fr6.trans gr6 fr8) gr6
                show WdA _ b (S.rel i) G5
                unfold FS.rel FS.mdP
                rw [ej, Int.add_sub_cancel, Int.toNat_natCast]
                have em := modify_set (f := fun p => { p with released := some (S.done + 1) }) hp
                rw [← em]
                exact hA8
              · have c7 := enot (wd' := .release) c
                obtain rfl : wd = .back := by
                  cases wd <;> first | rfl | exact absurd rfl c1 | exact absurd rfl c2 | exact absurd rfl c3 | exact absurd rfl c4 | exact absurd rfl c5 | exact absurd rfl c6 | exact absurd rfl c7
                have hd6 : DPut H5 (ad5 (.part j)) (.str "fate") (.str "rolled back") (upd H5 (ad5 (.part j)) (.dK (wpart { p with outcome := "rolled back" }))) := by
                  rw [← wput_fate]
                  exact DPut.k (k := Sum.inr ("fate" : Str)) (hw5.prt hp) (sz1000 (show 6 ≤ 1000 by decide))
                refine ⟨_, rfl, _, _, rfl, hw5.gp, _, rfl, _, _, rfl, gpj, _, _, rfl, hd6, ?_⟩
                have ob7 : upd H5 (ad5 (.part j)) (.dK (wpart { p with outcome := "rolled back" })) b = some (.dK (wobj (ad5 .parts) (ad5 .runs) (ad5 .ents) (S.tk i))) := (upd_ne (hw5.obne (r := .part j) hj (by simp)).symm).trans hw5.ob
                have pa7 : upd H5 (ad5 (.part j)) (.dK (wpart { p with outcome := "rolled back" })) (ad5 .parts) = some (.dK (kr (fun i => ad5 (.part i)) (S.tk i).parts.length)) := (hw5.off (r := .part j) (r' := .parts) hj trivial (by simp)).trans (hw5.ex .parts trivial)
                have gpj7 := pa_of pa7 hj
                rw [← ej] at gpj7
                have hd7 := DPut.k (k := Sum.inr ("ended" : Str)) (v := .int (S.tk i).done) (upd_same (H := H5) (a := ad5 (.part j)) (o := .dK (wpart { p with outcome := "rolled back" }))) (sz1000 (show 6 ≤ 1000 by decide))
                rw [upd_upd, wput_ended] at hd7
                refine ⟨_, rfl, _, _, rfl, od_of ob7, _, rfl, _, _, rfl, op_of ob7, _, rfl, _, _, rfl, gpj7, _, _, rfl, hd7, ?_⟩
                obtain ⟨hA8, fr8⟩ := WdA.setPart (p := { p with outcome := "rolled back", ended := some (S.tk i).done }) hw5 hG5 hj
                refine q _ G5 ?_ (fr6.trans gr6 fr8) gr6
                show WdA _ b (S.bak i) G5
                unfold FS.bak FS.endP FS.mdP
                rw [ej, Int.add_sub_cancel, Int.toNat_natCast]
                have em := modify_set (f := fun p => { p with ended := some (S.tk i).done, outcome := "rolled back" }) hp
                rw [← em]
                exact hA8
end
end K08

set_option maxRecDepth 100000
set_option maxHeartbeats 4000000
namespace Rm
open PySem PySem.Spec L2
open PyProof.Rows hiding St

structure FS.Cap (S : FS) : Prop where
  w : S.work.length ≤ 8
  k : ∀ l ∈ S.stacks, l.length ≤ 5
def Ek.nm : Ek → Str
  | .ut => "unknown" | .en => "ended" | .pr => "prepared" | .fp => "first" | .so => "still" | .tm => "many" | .up => "part"
def Wd.due (w : Wd) (S : FS) (d : PyData) (x : V) : List V := match w.er S d with
  | none => []
  | some k => [.str k.nm, w.kv k x]
theorem due_of {wd : Wd} {S : FS} {d : PyData} {x v : V} {k : Ek} (h : wd.er S d = some k) (hv : wd.kv k x = v) : wd.due S d x = [.str k.nm, v] := by
  unfold Wd.due
  rw [h, ← hv]
theorem due_none {wd : Wd} {S : FS} {d : PyData} {x : V} (h : wd.er S d = none) : wd.due S d x = [] := by
  unfold Wd.due
  rw [h]
theorem er_ru {wd : Wd} {S : FS} {d : PyData} {k : Ek} (c1 : wd ≠ .begin) (c2 : wd ≠ .crash) (h : S.ru d = some k) : wd.er S d = some k := by
  cases wd <;> first | exact absurd rfl c1 | exact absurd rfl c2 | simp [Wd.er, FS.savE, FS.tkE, FS.prE, FS.fr, h]
theorem er_kn {wd : Wd} {S : FS} {d : PyData} {k : Ek} (c1 : wd ≠ .begin) (c2 : wd ≠ .crash) (h : S.kn d = some k) : wd.er S d = some k := er_ru c1 c2 (by simp [FS.ru, h])
theorem er_fr {wd : Wd} {S : FS} {d : PyData} {k : Ek} (c1 : wd ≠ .begin) (c2 : wd ≠ .crash) (c3 : wd ≠ .commit) (c4 : wd ≠ .abort) (h : S.fr d = some k) : wd.er S d = some k := by
  cases wd <;> first | exact absurd rfl c1 | exact absurd rfl c2 | exact absurd rfl c3 | exact absurd rfl c4 | simp [Wd.er, FS.savE, FS.tkE, FS.prE, h]
theorem kv_x {wd : Wd} {k : Ek} {x : V} (c1 : wd ≠ .begin) (hk : k ≠ .tm) : wd.kv k x = x := by
  cases wd <;> first | exact absurd rfl c1 | (cases k <;> first | rfl | exact absurd rfl hk)
end Rm

set_option maxRecDepth 100000
set_option maxHeartbeats 4000000
namespace K08
open PySem PySem.Spec L2 Rm
open PyProof.Rows hiding St
section
variable {P : Program} {w : World} {K : PySem.W.Frag} {mg : Str → Option Value} {base : Heap}
theorem sc__law_refusal : FnScope ["_law_world_here", "_law_word", "_law_number", "_law_state", "_law_opened_here"] ["_law_world_here", "_law_word", "_law_number"] (defScope s__law_refusal) :=
  ⟨rfl, rfl, rfl, by decide +kernel, rfl, by decide +kernel, by decide +kernel⟩
def spRefu (K : PySem.W.Frag) : Sp := fun vs H Q _ => ∃ b wd x d S G, vs = [.ref b, .str (Wd.s wd), x] ∧ WdA H b S G ∧ Dx K H x d ∧ S.Inv ∧ S.Cap ∧ S.states.length < 64 ∧
  ∀ y H', H y = none → H' y = some (.lst (wd.due S d x)) → Same H H' → Q (.ref y) H'
theorem ok_refu {f : Addr} {fd : FuncData} (F0 : Fun K "_law_refusal" "_law_refusal" s__law_refusal f fd) (B : Bl mg)
    (D__law_running : Ce P w K mg base CX0 1 "_law_running" ["_law_world_here"] spRunW) :
    FnG P w K mg base CX0 2 f fd ["_law_world_here", "_law_word", "_law_number"] (spRefu K) := by
  refine fn_q F0 sc__law_refusal (fun vs H Q E h => ?_) (fun cdv A outer s H vs Q E hr hG h => ?_)
  · obtain ⟨b, wd, x, d, S, G, rfl, _⟩ := h
    rfl
  · obtain ⟨b, wd, x, d, S, G, rfl, hA, hx, inv, cap, h64, q⟩ := h
    have hu := hu_of hr
    refine ⟨_, (pss_cons (ps_if (pt_cmpR op_eq (pv 1) pe_str (nomark _)) (pss_one (ps_ret (pe_ifExp (pt_cmpR op_eq (pe_callB call_len_seq (by rfl) B.n_len (by decide +kernel) (pa_cons (pe_ce D__law_running (hr.mono (by decide)) hG (pa_cons (pv 0) pa_nil) pass0) pa_nil)) pe_int (nomark _)) (pe_lst (pa_cons pe_str (pa_cons pe_int pa_nil))) (pe_lst pa_nil)))) pss_nil)
      (pss_cons (ps_if (pt_cmpR op_in_seq (pv 1) (pe_tup (pa_cons pe_str (pa_cons pe_str pa_nil))) (by rfl)) (pss_one (ps_ret (pe_lst pa_nil))) pss_nil)
      (pss_cons (ps_if (PW.pt (pw_or (pt_val (pe_callB call_isi (by rfl) B.n_isinstance (by decide +kernel) (pa_cons (pv 2) (pa_cons (pe_bltn (v := .ty "bool") (u := .type "bool") (by rfl) B.n_bool (by decide +kernel) rfl) pa_nil)))) (pw_or (pt_not (pt_val (pe_callB call_isi (by rfl) B.n_isinstance (by decide +kernel) (pa_cons (pv 2) (pa_cons (pe_bltn (v := .ty "int") (u := .type "int") (by rfl) B.n_int (by decide +kernel) rfl) pa_nil))))) (pw_or1 (pt_cmp (pc_dnotin hu (pv 2) (pe_dget hu (pv 0) pe_str (fun _ _ => rfl)))))))) (pss_one (ps_ret (pe_lst (pa_cons pe_str (pa_cons (pv 2) pa_nil))))) pss_nil)
      (pss_cons (ps_asg (pe_dget hu (pe_dget hu (pv 0) pe_str (fun _ _ => rfl)) (pv 2) (fun _ _ => rfl)) (pg_lst rfl (pgs_cons (pg_name (i := 3) sc__law_refusal.nd rfl (Or.inl rfl)) (pgs_cons (pg_name (i := 4) sc__law_refusal.nd rfl (Or.inl rfl)) pgs_nil)) rfl rfl))
      (pss_cons (ps_if (pt_cmpR op_in_seq (pv 3) (pe_tup (pa_cons pe_str (pa_cons pe_str pa_nil))) (by rfl)) (pss_one (ps_ret (pe_lst (pa_cons pe_str (pa_cons (pv 2) pa_nil))))) pss_nil)
      (pss_cons (ps_if (PW.pt (pw_and (pt_cmpR op_eq (pv 3) pe_str (nomark _)) (pw_and1 (pt_cmpR op_notIn_seq (pv 1) (pe_tup (pa_cons pe_str (pa_cons pe_str pa_nil))) (by rfl))))) (pss_one (ps_ret (pe_lst (pa_cons pe_str (pa_cons (pv 2) pa_nil))))) pss_nil)
      (pss_cons (ps_if (PW.pt (pw_and (pt_cmpR op_eq (pv 1) pe_str (nomark _)) (pw_and1 (pt_cmpR op_eq (pe_callB call_len_seq (by rfl) B.n_len (by decide +kernel) (pa_cons (pv 4) pa_nil)) pe_int (nomark _))))) (pss_one (ps_ret (pe_lst (pa_cons pe_str (pa_cons pe_int pa_nil))))) pss_nil)
      (pss_cons (ps_if (PW.pt (pw_and (pt_cmpR op_in_seq (pv 1) (pe_tup (pa_cons pe_str (pa_cons pe_str pa_nil))) (by rfl)) (pw_and1 (pt_cmpR op_eq (pe_callB call_len_seq (by rfl) B.n_len (by decide +kernel) (pa_cons (pv 4) pa_nil)) pe_int (nomark _))))) (pss_one (ps_ret (pe_lst (pa_cons pe_str (pa_cons (pv 2) pa_nil))))) pss_nil)
      (pss_one (ps_ret (pe_ifExp (PW.pt (pw_and (pt_cmpR op_eq (pv 1) pe_str (nomark _)) (pw_and1 (pt_cmpR op_gt (pe_callB call_len_seq (by rfl) B.n_len (by decide +kernel) (pa_cons (pv 4) pa_nil)) pe_int (nomark _))))) (pe_lst (pa_cons pe_str (pa_cons (pv 2) pa_nil))) (pe_lst pa_nil)))))))))))), ?_⟩
    obtain ⟨ad, hw, hG'⟩ := id hA
    have eall : ∀ {wd' : Wd}, decide (V.str wd.s = V.str wd'.s) = true → wd = wd' := fun c => Wd.inj (V.str.inj (of_decide_eq_true c))
    have enot : ∀ {wd' : Wd}, ¬ decide (V.str wd.s = V.str wd'.s) = true → wd ≠ wd' := fun c e => c (decide_eq_true (by rw [e]))
    refine ⟨_, rfl, rfl, _, rfl, ite2 (fun c => ?_) fun c => ?_⟩
    · obtain rfl := eall (wd' := .begin) c
      refine ⟨_, rfl, b, S, G, rfl, hA, inv, h64, fun y H1 ny hy s1 => ?_⟩
      refine ⟨_, _, rfl, .inl (.inl (.inl hy)), rfl, _, rfl, ite2 (fun c => ?_) fun c => ?_⟩
      · have c' : 8 ≤ S.work.length := by
          have := V.int.inj (of_decide_eq_true c)
          rw [List.length_map] at this
          omega
        refine ⟨(show 2 ≤ sizeLine by decide), fun z nz => q z _ (none_of s1 nz) ?_ (s1.trans (same_new nz))⟩
        rw [upd_same, due_of (k := .tm) (v := .int 8) (by simp [Wd.er, c']) rfl]
        rfl
      · have c' : ¬ 8 ≤ S.work.length := fun h => c (decide_eq_true (by rw [List.length_map, show S.work.length = 8 from Nat.le_antisymm cap.w h]; rfl))
        refine ⟨(show 0 ≤ sizeLine by decide), fun z nz => q z _ (none_of s1 nz) ?_ (s1.trans (same_new nz))⟩
        rw [upd_same, due_none (by simp [Wd.er, c'])]
    · have c1 := enot (wd' := .begin) c
      refine ⟨_, rfl, (show 2 ≤ sizeLine by decide), fun T nT => ?_⟩
      have s1 := same_new (o := .tup [V.str "crash", .str "clean"]) nT
      refine ⟨T, _, rfl, .inr (.inl (.inl upd_same)), rfl, rfl, _, rfl, ite2 (fun c => ?_) fun c => ?_⟩
      · have c' := (in_two c).resolve_right wd.noClean
        obtain rfl := Wd.inj (w' := .crash) c'
        exact ⟨(show 0 ≤ sizeLine by decide), fun y ny => q y _ (none_of s1 ny) upd_same (s1.trans (same_new ny))⟩
      · have c2 : wd ≠ .crash := fun e => c (two_in (.inl (by rw [e]; rfl)))
        have hw2 := hw.same s1
        have hx2 := hx.up s1
        generalize upd H T (.tup [V.str "crash", .str "clean"]) = H2 at s1 hw2 hx2 ⊢
        have unk : S.kn d = some .ut → ∀ y H', H2 y = none → H' = upd H2 y (.lst [.str "unknown", x]) → Q (.ref y) H' := fun hk y H' ny e => by
          subst e
          refine q y _ (none_of s1 ny) ?_ (s1.trans (same_new ny))
          rw [upd_same, due_of (er_kn c1 c2 hk) (kv_x c1 (by simp))]
          rfl
        refine ⟨_, rfl, x, .ty "bool", _, _, _, rfl, .ty _, hx2.tyx, kit_kd (T := "bool") (by simp) d, ?_⟩
        cases d with
        | bool k =>
          refine ⟨true, rfl, ?_⟩
          refine ⟨_, rfl, (show 2 ≤ sizeLine by decide), fun y ny => ?_⟩
          exact unk rfl y _ ny rfl
        | int z =>
          refine ⟨false, rfl, ?_⟩
          refine ⟨_, rfl, x, .ty "int", _, _, _, rfl, .ty _, hx2.tyx, kit_kd (T := "int") (by simp) _, true, rfl, ?_⟩
          cases hx2
          by_cases hz : 1 ≤ z ∧ z ≤ (S.states.length : Int)
          · obtain ⟨i, rfl⟩ : ∃ i : Nat, z = (i : Int) + 1 := ⟨(z - 1).toNat, by omega⟩
            have hi : i < S.states.length := by omega
            refine ⟨_, rfl, _, rfl, _, _, rfl, hw2.gr, _, _, rfl, hw2.grun hi, _, rfl, ?_⟩
            refine ⟨_, rfl, _, _, rfl, hw2.gr, _, rfl, _, _, rfl, hw2.grun hi, _, _, rfl, .inl (.inl (hw2.run hi)), rfl, _, _, rfl, _, _, rfl, rfl, ?_⟩
            have kn : S.kn (.int ((i : Int) + 1)) = none := by
              unfold FS.kn isW
              rw [if_pos (by show (decide (1 ≤ (i : Int) + 1) && decide ((i : Int) + 1 ≤ (S.states.length : Int))) = true; rw [decide_eq_true hz.1, decide_eq_true hz.2]; rfl)]
            have opn2 := hw2.opn hi
            have hmem : S.stacks.getD i [] ∈ S.stacks := by
              have hl : i < S.stacks.length := by rw [inv.ls]; exact hi
              rw [List.getD_eq_getElem?_getD, List.getElem?_eq_getElem hl]
              exact List.getElem_mem hl
            have hk5 := cap.k _ hmem
            refine ⟨_, rfl, (show 2 ≤ sizeLine by decide), fun T1 nT1 => ?_⟩
            have s2 := s1.trans (same_new (o := .tup [V.str "committed", .str "aborted"]) nT1)
            have opn3 := (same_new (o := .tup [V.str "committed", .str "aborted"]) nT1) _ _ opn2
            refine ⟨T1, _, rfl, .inr (.inl (.inl upd_same)), rfl, rfl, _, rfl, ite2 (fun c => ?_) fun c => ?_⟩
            · have hru : S.ru (.int ((i : Int) + 1)) = some .en := by simp [FS.ru, kn, in_two c]
              refine ⟨_, rfl, (show 2 ≤ sizeLine by decide), fun y ny => q y _ (none_of s2 ny) ?_ (s2.trans (same_new ny))⟩
              rw [upd_same, due_of (er_ru c1 c2 hru) (kv_x c1 (by simp))]
              rfl
            · have hru : S.ru (.int ((i : Int) + 1)) = none := by simp [FS.ru, kn, show ¬ (S.st (.int ((i : Int) + 1)) = "committed" ∨ S.st (.int ((i : Int) + 1)) = "aborted") from fun y => c (two_in y)]
              generalize upd H2 T1 (.tup [V.str "committed", .str "aborted"]) = H3 at s2 opn3 ⊢
              have hsk : S.sk (.int ((i : Int) + 1)) = S.stacks.getD i [] := sk_at
              have rt2 : ∀ (k : Ek) (v : V), wd.er S (.int ((i : Int) + 1)) = some k → wd.kv k (.int ((i : Int) + 1)) = v → ∀ H4 y, Same H H4 → H4 y = none → Q (.ref y) (upd H4 y (.lst [.str k.nm, v])) := fun k v hk hv H4 y s ny =>
                q y _ (none_of s ny) (by rw [upd_same, due_of hk hv]) (s.trans (same_new ny))
              unfold tNext
              dsimp only
              refine Rm.seq_mid (fun σ H' => σ = [some (.ref b), some (.str wd.s), some (.int ((i : Int) + 1)), some (.str (S.st (.int ((i : Int) + 1)))), some (.ref (ad (.opn i)))] ∧ Same H H' ∧ H' (ad (.opn i)) = some (.lst ((S.stacks.getD i []).map V.int)) ∧
                (S.fr (.int ((i : Int) + 1)) = none ∨ wd = .commit ∨ wd = .abort)) ?_ ?_
              rotate_left
              · intro N hN
                refine ⟨_, rfl, rfl, _, rfl, ite2 (fun c => ?_) fun c => ?_⟩
                · have cp : S.st (.int ((i : Int) + 1)) = "prepared" := V.str.inj (of_decide_eq_true c)
                  have hfr : S.fr (.int ((i : Int) + 1)) = some .pr := by simp [FS.fr, hru, cp]
                  refine ⟨_, rfl, (show 2 ≤ sizeLine by decide), fun T2 nT2 => ?_⟩
                  have s3 := s2.trans (same_new (o := .tup [V.str "commit", .str "abort"]) nT2)
                  have opn4 := (same_new (o := .tup [V.str "commit", .str "abort"]) nT2) _ _ opn3
                  refine ⟨T2, _, rfl, .inr (.inl (.inl upd_same)), rfl, rfl, _, rfl, ite2 (fun c => ?_) fun c => ?_⟩
                  · have c3 : wd ≠ .commit := fun e => by
                      have z : inV (V.str wd.s) [V.str "commit", V.str "abort"] = true := two_in (.inl (by rw [e]; rfl))
                      simp [z] at c
                    have c4 : wd ≠ .abort := fun e => by
                      have z : inV (V.str wd.s) [V.str "commit", V.str "abort"] = true := two_in (.inr (by rw [e]; rfl))
                      simp [z] at c
                    exact ⟨_, rfl, (show 2 ≤ sizeLine by decide), fun y ny => rt2 .pr _ (er_fr c1 c2 c3 c4 hfr) (kv_x c1 (by simp)) _ y s3 ny⟩
                  · refine hN _ _ ⟨rfl, s3, opn4, .inr ?_⟩
                    have z : inV (V.str wd.s) [V.str "commit", V.str "abort"] = true := by simpa using c
                    exact (in_two z).imp (fun e => Wd.inj (w' := .commit) e) fun e => Wd.inj (w' := .abort) e
                · have cp : ¬ S.st (.int ((i : Int) + 1)) = "prepared" := fun e => c (decide_eq_true (by rw [e]))
                  exact hN _ _ ⟨rfl, s2, opn3, .inl (by simp [FS.fr, hru, cp])⟩
              · rintro _ H4 ⟨rfl, s4, opn4, hfr⟩
                have ln : (((S.stacks.getD i []).map V.int).length : Int) = ((S.stacks.getD i []).length : Int) := by rw [List.length_map]
                refine Rm.seq_mid (fun σ H' => σ = [some (.ref b), some (.str wd.s), some (.int ((i : Int) + 1)), some (.str (S.st (.int ((i : Int) + 1)))), some (.ref (ad (.opn i)))] ∧ Same H H' ∧ H' (ad (.opn i)) = some (.lst ((S.stacks.getD i []).map V.int)) ∧
                  ¬ (wd = .save ∧ 5 ≤ (S.stacks.getD i []).length)) ?_ ?_
                rotate_left
                · intro N hN
                  refine ⟨_, rfl, rfl, _, rfl, ite2 (fun c => ?_) fun c => ?_⟩
                  · obtain rfl := eall (wd' := .save) c
                    refine ⟨_, rfl, _, _, rfl, .inl (.inl (.inl opn4)), rfl, _, rfl, ite2 (fun c => ?_) fun c => ?_⟩
                    · have l5 : 5 ≤ (S.stacks.getD i []).length := by
                        have := V.int.inj (of_decide_eq_true c)
                        rw [List.length_map] at this
                        omega
                      have hf : S.fr (.int ((i : Int) + 1)) = none := hfr.resolve_right (by simp)
                      exact ⟨(show 2 ≤ sizeLine by decide), fun y ny => rt2 .tm _ (savE_some hf (by rw [hsk]; exact l5)) rfl _ y s4 ny⟩
                    · refine hN _ _ ⟨rfl, s4, opn4, fun h => c (decide_eq_true ?_)⟩
                      rw [List.length_map, show (S.stacks.getD i []).length = 5 from Nat.le_antisymm hk5 h.2]
                      rfl
                  · have cs := enot (wd' := .save) c
                    exact hN _ _ ⟨rfl, s4, opn4, fun h => cs h.1⟩
                · rintro _ H5 ⟨rfl, s5, opn5, hsv⟩
                  refine Rm.seq_mid (fun σ H' => σ = [some (.ref b), some (.str wd.s), some (.int ((i : Int) + 1)), some (.str (S.st (.int ((i : Int) + 1)))), some (.ref (ad (.opn i)))] ∧ Same H H' ∧ H' (ad (.opn i)) = some (.lst ((S.stacks.getD i []).map V.int)) ∧
                    ¬ ((wd = .release ∨ wd = .back) ∧ (S.stacks.getD i []).length = 1)) ?_ ?_
                  rotate_left
                  · intro N hN
                    refine ⟨_, rfl, (show 2 ≤ sizeLine by decide), fun T2 nT2 => ?_⟩
                    have s6 := s5.trans (same_new (o := .tup [V.str "release", .str "back"]) nT2)
                    have opn6 := (same_new (o := .tup [V.str "release", .str "back"]) nT2) _ _ opn5
                    refine ⟨T2, _, rfl, .inr (.inl (.inl upd_same)), rfl, rfl, _, rfl, ite2 (fun c => ?_) fun c => ?_⟩
                    · have crb : wd = .release ∨ wd = .back := (in_two c).imp (fun e => Wd.inj (w' := .release) e) fun e => Wd.inj (w' := .back) e
                      refine ⟨_, rfl, _, _, rfl, .inl (.inl (.inl opn6)), rfl, _, rfl, ite2 (fun c => ?_) fun c => ?_⟩
                      · have l1 : (S.stacks.getD i []).length = 1 := by
                          have := V.int.inj (of_decide_eq_true c)
                          rw [List.length_map] at this
                          omega
                        have hf : S.fr (.int ((i : Int) + 1)) = none := hfr.resolve_right (by rcases crb with e | e <;> simp [e])
                        have htk : S.tkE (.int ((i : Int) + 1)) = some .fp := tkE_some hf (by rw [hsk]; exact l1)
                        exact ⟨_, rfl, (show 2 ≤ sizeLine by decide), fun y ny => rt2 .fp _ (by rcases crb with e | e <;> (rw [e]; exact htk)) (kv_x c1 (by simp)) _ y s6 ny⟩
                      · refine hN _ _ ⟨rfl, s6, opn6, fun h => c (decide_eq_true ?_)⟩
                        rw [List.length_map, h.2]
                        rfl
                    · exact hN _ _ ⟨rfl, s6, opn6, fun h => c (two_in (by rcases h.1 with e | e <;> simp [e, Wd.s]))⟩
                  · rintro _ H6 ⟨rfl, s6, opn6, hrb⟩
                    have fin : ∀ (h : ¬ (wd = .prepare ∧ 1 < (S.stacks.getD i []).length)), wd.er S (.int ((i : Int) + 1)) = none := fun h => by
                      cases wd with
                      | begin => exact absurd rfl c1
                      | crash => rfl
                      | commit => exact hru
                      | abort => exact hru
                      | save => exact savE_none (hfr.resolve_right (by simp)) (by rw [hsk]; exact fun z => hsv ⟨rfl, z⟩)
                      | release => exact tkE_none (hfr.resolve_right (by simp)) (by rw [hsk]; exact fun z => hrb ⟨.inl rfl, z⟩)
                      | back => exact tkE_none (hfr.resolve_right (by simp)) (by rw [hsk]; exact fun z => hrb ⟨.inr rfl, z⟩)
                      | prepare => exact prE_none (hfr.resolve_right (by simp)) (by rw [hsk]; exact fun z => h ⟨rfl, z⟩)
                    have nil : wd.er S (.int ((i : Int) + 1)) = none → ∀ y, H6 y = none → Q (.ref y) (upd H6 y (.lst [])) := fun h y ny => q y _ (none_of s6 ny) (by rw [upd_same, due_none h]) (s6.trans (same_new ny))
                    refine ⟨_, rfl, rfl, _, rfl, ite2 (fun c => ?_) fun c => ?_⟩
                    · obtain rfl := eall (wd' := .prepare) c
                      refine ⟨_, rfl, _, _, rfl, .inl (.inl (.inl opn6)), _, _, rfl, rfl, _, rfl, ite2 (fun c => ?_) fun c => ?_⟩
                      · have l1 : 1 < (S.stacks.getD i []).length := by
                          have := of_decide_eq_true c
                          rw [List.length_map] at this
                          omega
                        exact ⟨_, rfl, (show 2 ≤ sizeLine by decide), fun y ny => rt2 .so _ (prE_some (hfr.resolve_right (by simp)) (by rw [hsk]; exact l1)) rfl _ y s6 ny⟩
                      · exact ⟨(show 0 ≤ sizeLine by decide), fun y ny => nil (fin fun h => c (decide_eq_true (by rw [List.length_map]; omega))) y ny⟩
                    · have cp := enot (wd' := .prepare) c
                      exact ⟨(show 0 ≤ sizeLine by decide), fun y ny => nil (fin fun h => cp h.1) y ny⟩
          · have hkn : S.kn (.int z) = some .ut := by
              unfold FS.kn isW
              rw [if_neg (fun h => hz (by
                rw [Bool.and_eq_true] at h
                exact ⟨of_decide_eq_true h.1, of_decide_eq_true h.2⟩))]
            have gn : DGet H2 (ad .runs) (.int z) none := by
              have e := DGet.k (k := Sum.inl z) (hw2.ex .runs trivial)
              rw [kr_no hz] at e
              exact e
            refine ⟨_, rfl, _, rfl, _, _, rfl, hw2.gr, _, _, rfl, gn, _, rfl, ?_⟩
            refine ⟨_, rfl, (show 2 ≤ sizeLine by decide), fun y ny => ?_⟩
            exact unk hkn y _ ny rfl
        | _ =>
          refine ⟨false, rfl, ?_⟩
          refine ⟨_, rfl, x, .ty "int", _, _, _, rfl, .ty _, hx2.tyx, kit_kd (T := "int") (by simp) _, false, rfl, ?_⟩
          refine ⟨_, rfl, (show 2 ≤ sizeLine by decide), fun y ny => ?_⟩
          exact unk rfl y _ ny rfl
end
end K08

set_option maxRecDepth 100000
set_option maxHeartbeats 4000000
namespace Rm
open PySem PySem.Spec L2
open PyProof.Rows hiding St

theorem dpAll_ints {K : PySem.W.Frag} {H : Hp} : ∀ {ns : List Int}, DpAll K H (ns.map V.int) (ns.map PyData.int)
  | [] => .nil
  | _ :: _ => .cons (.int _) dpAll_ints
theorem shaped_ints : ∀ (ns : List Int), SeqAt.shaped (.list (ns.map PyData.int)) = true := by
  intro ns
  unfold SeqAt.shaped
  have a1 : ∀ ns : List Int, PyData.canLayAll0 (ns.map PyData.int) = true := fun ns => by
    induction ns with
    | nil => rfl
    | cons n ns ih =>
      show (true && PyData.canLayAll0 (ns.map PyData.int)) = true
      rw [ih]
      rfl
  have h1 : (PyData.list (ns.map PyData.int)).canLay0 = true := a1 ns
  have a2 : ∀ ns : List Int, PyData.depthAll (ns.map PyData.int) ≤ 63 := fun ns => by
    induction ns with
    | nil => decide +kernel
    | cons n ns ih =>
      rw [List.map_cons]
      unfold PyData.depthAll
      have : (PyData.int n).depth = 0 ∨ (PyData.int n).depth ≤ 63 := .inr (by simp [PyData.depth])
      simp [PyData.depth]
      exact ih
  have h2 : ∀ ns : List Int, (PyData.list (ns.map PyData.int)).depth ≤ 64 := fun ns => by
    have := a2 ns
    simp [PyData.depth]
    omega
  rw [h1, decide_eq_true (h2 ns)]
  rfl
theorem Nxt.fr {t : Addr} {H H' : Hp} (n : Nxt t H H') : Fr (· = t) H H' := fun b u hb h => n.keep b u hb h
theorem Nxt.new {t : Addr} {H : Hp} {o : HO} (h : H t = some o) (ho : IsTape o) : Nxt t H H := ⟨fun b u hb _ => hb, o, h, ho⟩
theorem WdA.nxt {H H' : Hp} {b t : Addr} {S : FS} {G : Addr → Prop} (h : WdA H b S G) (n : Nxt t H H') (nt : ¬ G t) : WdA H' b S G :=
  h.frame n.fr fun x hx e => nt (by rw [← e]; exact hx)
def stepWords : List Wd := [.begin, .begin, .save, .save, .save, .release, .back, .commit, .abort, .prepare, .release, .back, .crash, .save]
theorem kr_ints {f : Nat → Addr} {n : Nat} : (kr f n).map (fun kv => kV kv.1) = (oneTo n).map V.int := by
  unfold kr oneTo
  rw [List.map_map, List.map_map]
  rfl
theorem Nxt.nothing {t T : Addr} {H H' : Hp} (N : Nxt t H H') (n : H' T = none) : H T = none := by
  cases e : H T with
  | none => rfl
  | some u =>
    by_cases q : T = t
    · obtain ⟨o, h, _⟩ := N.tape
      rw [q, h] at n
      cases n
    · rw [N.keep T u e q] at n
      cases n
theorem Nxt.ne {t T : Addr} {H H' : Hp} (N : Nxt t H H') (n : H' T = none) : t ≠ T := fun e => by
  obtain ⟨o, h, _⟩ := N.tape
  rw [← e, h] at n
  cases n
theorem spOne_ints {K : PySem.W.Frag} {t l : Addr} {H Hc : Hp} {ns : List Int} {Q : VK} {E : XK} (N : Nxt t H Hc) (hl : Hc l = some (.lst (ns.map V.int))) (h1 : 1 ≤ ns.length) (h2 : ns.length ≤ 1000)
    (q : ∀ n H', n ∈ ns → Nxt t H H' → Q (.int n) H') : spOne K [.ref t, .ref l] Hc Q E := by
  obtain ⟨o, ht, ho⟩ := N.tape
  refine ⟨t, l, o, _, rfl, ht, ho, .inl (.inl hl), by rw [List.length_map]; exact h1, by rw [List.length_map]; omega, fun i v o' hv ho' => ?_⟩
  rw [List.getElem?_map] at hv
  cases e : ns[i]? with
  | none => rw [e] at hv; cases hv
  | some n =>
    rw [e] at hv
    cases hv
    exact q n _ (List.mem_of_getElem? e) (N.turn ho')
theorem kv_num {wd : Wd} {k : Ek} {x : V} (h : wd.num = true) : wd.kv k x = kv k x := by
  cases wd <;> first | (cases k <;> rfl) | exact absurd h (by decide)
end Rm

set_option maxRecDepth 100000
set_option maxHeartbeats 4000000
namespace K08
open PySem PySem.Spec L2 Rm
open PyProof.Rows hiding St
section
variable {P : Program} {w : World} {K : PySem.W.Frag} {mg : Str → Option Value} {base : Heap}
theorem sc__law_pick : FnScope ["_law_tape_here", "_law_many", "_law_found", "_law_once"] ["_law_tape_here", "_law_many"] (defScope s__law_pick) :=
  ⟨rfl, rfl, rfl, by decide +kernel, rfl, by decide +kernel, by decide +kernel⟩
theorem ok_pick {f : Addr} {fd : FuncData} (F : Fun K "_law_pick" "_law_pick" s__law_pick f fd) (B : Bl mg) :
    FnG P w K mg base CX0 1 f fd ["_law_tape_here", "_law_many"] spPick := by
  refine fn_q F sc__law_pick (fun vs H Q E h => ?_) (fun cdv A outer s H vs Q E hr hG h => ?_)
  · obtain ⟨t, o, n, rfl, _⟩ := h
    rfl
  · obtain ⟨t, o, n, rfl, ht, ⟨dg, mx, rfl, ok⟩, h1, h2, k⟩ := h
    have hu := hu_of hr
    obtain ⟨hd0, hm0, hm1⟩ := ok
    refine ⟨_, (pss_cons (ps_if (pt_cmpR op_ge (pe_dget hu (pv 0) pe_str (fun _ _ => rfl)) (pv 1) (nomark _)) (pss_cons (ps_set (i := 2) sc__law_pick.nd rfl (Or.inl rfl) (pe_op op_modN (pe_callTy call_int1 (by rfl) B.n_int (by decide +kernel) (pa_cons (pe_dget hu (pv 0) pe_str (fun _ _ => rfl)) pa_nil)) (pv 1)))
      (pss_cons (ps_dput hu (pv 0) pe_str (pe_op op_fdivN (pe_dget hu (pv 0) pe_str (fun _ _ => rfl)) (pv 1)) rfl)
      (pss_one (ps_ret (pv 2))))) pss_nil)
      (pss_cons (ps_dput hu (pv 0) pe_str (pe_op op_mod (pe_callTy call_int1 (by rfl) B.n_int (by decide +kernel) (pa_cons (pe_op op_add (pe_op op_mulX (pe_dget hu (pv 0) pe_str (fun _ _ => rfl)) pe_int) pe_int) pa_nil)) pe_int) rfl)
      (pss_cons (ps_set (i := 3) sc__law_pick.nd rfl (Or.inl rfl) (pe_op op_mod (pe_callTy call_int1 (by rfl) B.n_int (by decide +kernel) (pa_cons (pe_op op_powX (pe_dget hu (pv 0) pe_str (fun _ _ => rfl)) pe_int) pa_nil)) pe_int))
      (pss_one (ps_ret (pe_op op_modN (pe_callTy call_int1 (by rfl) B.n_int (by decide +kernel) (pa_cons (pe_op op_fdiv (pe_op op_mod (pe_callTy call_int1 (by rfl) B.n_int (by decide +kernel) (pa_cons (pe_op op_powX (pv 3) pe_int) pa_nil)) pe_int) pe_int) pa_nil)) (pv 1))))))), ?_⟩
    refine ⟨_, rfl, _, _, rfl, tape_dg ht, _, rfl, _, _, rfl, rfl, _, rfl, ite2 (fun c => ?_) fun c => ?_⟩
    · have hn : n ≠ 0 := by omega
      refine ⟨_, rfl, _, _, rfl, tape_dg ht, .inl ⟨_, rfl, _, rfl, _, _, rfl, rfl, hn, ?_⟩⟩
      refine ⟨_, rfl, _, _, rfl, tape_dg ht, _, rfl, _, _, rfl, rfl, ⟨hn, by omega⟩, _, rfl, _, _, rfl, tape_pd ht, ?_⟩
      refine ⟨_, rfl, k _ _ ?_ ?_ ⟨_, _, rfl, ?_, hm0, hm1⟩⟩
      · exact Int.fmod_nonneg_of_pos _ (by omega)
      · exact Int.fmod_lt_of_pos _ (by omega)
      · exact Int.fdiv_nonneg hd0 (by omega)
    · have e1 : CMulX mx 40014 := mulx_ok (a := 32) (b := 32) (by omega) (by decide) (by decide)
      refine ⟨_, rfl, _, _, rfl, tape_mx ht, _, _, rfl, rfl, e1, _, _, rfl, rfl, .inl ⟨_, rfl, _, _, rfl, rfl, ?_, _, rfl, _, _, rfl, tape_pm ht, ?_⟩⟩
      · show (0 : Int) < 2147483563
        decide
      have m0 : 0 ≤ (mx * 40014 + 1017) % 2147483563 := Int.emod_nonneg _ (by decide)
      have m1 : (mx * 40014 + 1017) % 2147483563 < 2147483563 := Int.emod_lt_of_pos _ (by decide)
      have o0 : 0 ≤ ((mx * 40014 + 1017) % 2147483563) ^ (2 : Int).toNat % 2147483399 := Int.emod_nonneg _ (by decide)
      have o1 : ((mx * 40014 + 1017) % 2147483563) ^ (2 : Int).toNat % 2147483399 < 2147483399 := Int.emod_lt_of_pos _ (by decide)
      refine ⟨_, rfl, _, _, rfl, tape_mx upd_same, _, _, rfl, rfl, pow32 m0 (by omega) (by decide) (by decide), .inl ⟨_, rfl, _, _, rfl, rfl, ?_, ?_⟩⟩
      · show (0 : Int) < 2147483399
        decide
      refine ⟨_, rfl, _, _, rfl, rfl, pow32 o0 (by omega) (by decide) (by decide), .inl ⟨_, rfl, _, _, rfl, rfl, ?_, _, _, rfl, rfl, ?_, .inl ⟨_, rfl, _, rfl, _, _, rfl, rfl, (show n ≠ 0 by omega), ?_⟩⟩⟩
      · show (0 : Int) < 998244353
        decide
      · exact ⟨by decide, by decide⟩
      exact k _ _ (Int.fmod_nonneg_of_pos _ (by omega)) (Int.fmod_lt_of_pos _ (by omega)) ⟨_, _, rfl, hd0, m0, by omega⟩
theorem sc__law_one_of : FnScope ["_law_tape_here", "_law_items"] ["_law_tape_here", "_law_items"] (defScope s__law_one_of) :=
  ⟨rfl, rfl, rfl, by decide +kernel, rfl, by decide +kernel, by decide +kernel⟩
theorem ok_one {f : Addr} {fd : FuncData} (F : Fun K "_law_one_of" "_law_one_of" s__law_one_of f fd) (B : Bl mg)
    (D__law_pick : Ce P w K mg base CX0 1 "_law_pick" ["_law_tape_here", "_law_many"] spPick) :
    FnG P w K mg base CX0 2 f fd ["_law_tape_here", "_law_items"] (spOne K) := by
  refine fn_q F sc__law_one_of (fun vs H Q E h => ?_) (fun cdv A outer s H vs Q E hr hG h => ?_)
  · obtain ⟨t, l, o, xs, rfl, _⟩ := h
    rfl
  · obtain ⟨t, l, o, xs, rfl, ht, ho, hl, h1, h2, k⟩ := h
    have hu := hu_of hr
    refine ⟨_, (pss_one (ps_ret (pe_ix ix_list (pv 1) (pe_ce D__law_pick (hr.mono (by decide)) hG (pa_cons (pv 0) (pa_cons (pe_callB call_len_seq (by rfl) B.n_len (by decide +kernel) (pa_cons (pv 1) pa_nil)) pa_nil)) pass0) (fun _ _ => rfl)))), ?_⟩
    refine ⟨_, rfl, _, rfl, _, rfl, _, _, rfl, .inl hl, t, o, _, rfl, ht, ho, by omega, by omega, fun n o' n0 n1 ho' => ?_⟩
    have hb : n.toNat < xs.length := by omega
    refine ⟨_, _, _, _, rfl, rfl, sq_tape hl ht ho, ?_, k n.toNat _ _ (List.getElem?_eq_getElem hb) ho'⟩
    have e := atI_nat (xs := xs) (j := n.toNat) (v := xs[n.toNat]) (List.getElem?_eq_getElem hb)
    rw [Int.toNat_of_nonneg n0] at e
    exact e
theorem sc__law_tape : FnScope ["_law_script", "_law_start", "_law_mixed", "_law_cell", "_law_digits"] ["_law_script", "_law_start"] (defScope s__law_tape) :=
  ⟨rfl, rfl, rfl, by decide +kernel, rfl, by decide +kernel, by decide +kernel⟩
theorem ok_tape {f : Addr} {fd : FuncData} (F : Fun K "_law_tape" "_law_tape" s__law_tape f fd) (B : Bl mg) :
    FnG P w K mg base CX0 1 f fd ["_law_script", "_law_start"] (spTape K) := by
  refine fn_q F sc__law_tape (fun vs H Q E h => ?_) (fun cdv A outer s H vs Q E hr hG h => ?_)
  · obtain ⟨a, ns, z, rfl, _⟩ := h
    rfl
  · obtain ⟨a, ns, z, rfl, hl, hn, hbits, z0, z1, k⟩ := h
    have hu := hu_of hr
    refine ⟨_, (pss_cons (ps_set (i := 2) sc__law_tape.nd rfl (Or.inl rfl) (pe_op op_add pe_int (pe_op op_mulX (pv 1) pe_int)))
      (pss_cons (ps_for PassesOwn.never rfl (pi_list (pv 0)) (pg_name (i := 3) sc__law_tape.nd rfl (Or.inl rfl)) (pss_one (ps_set (i := 2) sc__law_tape.nd rfl (Or.inl rfl) (pe_op op_add (pe_op op_mod (pe_callTy call_int1 (by rfl) B.n_int (by decide +kernel) (pa_cons (pe_op op_powX (pe_op op_add (pe_op op_add (pe_op op_mulX (pv 2) pe_int) (pe_op op_mulX (pv 3) (pv 3))) pe_int) pe_int) pa_nil)) pe_int) pe_int))))
      (pss_cons (ps_set (i := 4) sc__law_tape.nd rfl (Or.inl rfl) (pe_ifExp (PW.pt (pw_and (pt_cmpR op_lt (pv 1) (pe_callB call_len_seq (by rfl) B.n_len (by decide +kernel) (pa_cons (pv 0) pa_nil)) (nomark _)) (pw_and1 (pt_cmpR op_ge (pe_ix ix_list (pv 0) (pv 1) (fun _ _ => rfl)) (pe_op op_powX pe_int pe_int) (nomark _))))) (pe_op op_sub (pe_ix ix_list (pv 0) (pv 1) (fun _ _ => rfl)) (pe_op op_powX pe_int pe_int)) pe_int))
      (pss_one (ps_ret (pe_disp (pps_cons pe_str (pv 4) (pps_cons pe_str (pv 2) pps_nil)) (by rfl) (by rfl) (fun z => by cases z) (by decide))))))), ?_⟩
    refine ⟨_, rfl, _, _, rfl, rfl, mulx_ok (a := 32) (b := 32) (by omega) (by decide) (by decide), _, _, rfl, rfl, ?_⟩
    refine ⟨_, rfl, a, rfl, ⟨_, hl⟩, for_list (xs := ns.map V.int) (fun i σ H' => H' = H ∧ ∃ m c, σ = [some (.ref a), some (.int z), some (.int m), c, none] ∧ 0 ≤ m ∧ m < 4294967296) ⟨rfl, _, _, rfl, by omega, by omega⟩ (fun i σ H' hi e => by rw [e.1]; exact hl) ?_ ?_⟩
    · rintro i x σ H' hx ⟨rfl, m, c, rfl, m0, m1⟩
      obtain ⟨y, hy, rfl⟩ : ∃ y, y ∈ ns ∧ x = V.int y := by
        rw [List.getElem?_map] at hx
        cases e : ns[i]? with
        | none => rw [e] at hx; cases hx
        | some y => rw [e] at hx; cases hx; exact ⟨y, List.mem_of_getElem? e, rfl⟩
      obtain ⟨c1, c2, c3⟩ := mix_pow m0 m1 (hbits y hy)
      refine ⟨_, rfl, _, _, rfl, rfl, c1, _, rfl, _, rfl, _, _, rfl, rfl, c2, _, _, rfl, rfl, _, _, rfl, rfl, _, _, rfl, rfl, c3, .inl ⟨_, rfl, _, _, rfl, rfl, ?_, _, _, rfl, rfl, rfl, _, _, rfl, ?_, ?_⟩⟩
      · show (0 : Int) < 2147483563
        decide
      · have := Int.emod_nonneg ((m * 30013 + y * y + 11) ^ (2 : Int).toNat) (show (2147483563 : Int) ≠ 0 by decide)
        omega
      · have := Int.emod_lt_of_pos ((m * 30013 + y * y + 11) ^ (2 : Int).toNat) (show (0 : Int) < 2147483563 by decide)
        omega
    · rintro σ H' ⟨rfl, m, c, rfl, m0, m1⟩
      have fin : ∀ d : Int, 0 ≤ d → ∀ p, H' p = none → Q (.ref p) (upd (upd H' p (.dK [])) p (tapeO d m)) := fun d d0 p hp => by
        rw [upd_upd]
        exact k p _ hp ⟨d, m, rfl, d0, m0, m1⟩
      have ends : ∀ d : Int, 0 ≤ d → (tRet (tDisp [((tC (V.str "digits")), tVar 4), ((tC (V.str "mixed")), tVar 2)])) { nx := fun _ H' => Q .non H', rt := Q } [some (.ref a), some (.int z), some (.int m), c, some (.int d)] H' := fun d d0 p hp => by
        have e : mergeK [] [((Sum.inr "digits" : Key), V.int d), (Sum.inr "mixed", V.int m)] = [((Sum.inr "digits" : Key), V.int d), (Sum.inr "mixed", V.int m)] := by
          simp [mergeK, putK, s_dm]
        refine ⟨_, rfl, _, rfl, upd_same, [(Sum.inr "digits", V.int d), (Sum.inr "mixed", V.int m)], rfl, by show 2 ≤ 15; decide, ?_⟩
        rw [e]
        exact fin d d0 p hp
      refine ⟨_, rfl, _, rfl, _, _, rfl, .inl hl, _, _, rfl, rfl, _, rfl, ite2 (fun c => ?_) fun c => ?_⟩
      · rw [List.length_map] at c
        have hb : z.toNat < ns.length := by
          have := of_decide_eq_true c
          omega
        have at_ : atI (ns.map V.int) z = some (V.int ns[z.toNat]) := by
          have e := atI_nat (xs := ns.map V.int) (j := z.toNat) (v := V.int ns[z.toNat]) (by rw [List.getElem?_map, List.getElem?_eq_getElem hb]; rfl)
          rw [Int.toNat_of_nonneg z0] at e
          exact e
        have p18 : CPowX 10 18 := pow32 (by decide) (by decide) (by decide) (by decide)
        refine ⟨_, rfl, _, rfl, _, _, _, _, rfl, rfl, hl, at_, _, _, rfl, rfl, p18, _, _, rfl, rfl, _, rfl, ite2 (fun c => ?_) fun c => ?_⟩
        · refine ⟨_, rfl, _, rfl, _, _, _, _, rfl, rfl, hl, at_, _, _, rfl, rfl, p18, _, _, rfl, rfl, ends _ ?_⟩
          have := of_decide_eq_true c
          omega
        · exact ends 0 (by decide)
      · exact ends 0 (by decide)
theorem sc__law_step : FnScope ["_law_tape_here", "_law_world_here", "_law_some", "_law_word", "_law_pool", "_law_odd", "_law_number"] ["_law_tape_here", "_law_world_here"] (defScope s__law_step) :=
  ⟨rfl, rfl, rfl, by decide +kernel, rfl, by decide +kernel, by decide +kernel⟩
def spStep : Sp := fun vs H Q _ => ∃ t b o S G, vs = [.ref t, .ref b] ∧ H t = some o ∧ IsTape o ∧ WdA H b S G ∧ ¬ G t ∧ S.Inv ∧ S.states.length < 64 ∧
  ∀ T H' wd (n : Int), (0 ≤ n ∧ n < 1000000000) → H T = none → H' T = some (.tup [.str (Wd.s wd), .int n]) → Nxt t H H' → Q (.ref T) H'
theorem ok_step {f : Addr} {fd : FuncData} (F : Fun K "_law_step" "_law_step" s__law_step f fd) (B : Bl mg)
    (D__law_pick : Ce P w K mg base CX0 1 "_law_pick" ["_law_tape_here", "_law_many"] spPick) (D__law_one_of : Ce P w K mg base CX0 2 "_law_one_of" ["_law_tape_here", "_law_items"] (spOne K))
    (D__law_running : Ce P w K mg base CX0 1 "_law_running" ["_law_world_here"] spRunW) :
    FnG P w K mg base CX0 3 f fd ["_law_tape_here", "_law_world_here"] spStep := by
  refine fn_q F sc__law_step (fun vs H Q E h => ?_) (fun cdv A outer s H vs Q E hr hG h => ?_)
  · obtain ⟨t, b, o, S, G, rfl, _⟩ := h
    rfl
  · obtain ⟨t, b, o, S, G, rfl, ht, ho, hA, nt, inv, h64, q⟩ := h
    have hu := hu_of hr
    refine ⟨_, (pss_cons (ps_set (i := 2) sc__law_step.nd rfl (Or.inl rfl) (pe_lst (pa_cons pe_str (pa_cons pe_str (pa_cons pe_str (pa_cons pe_str (pa_cons pe_str (pa_cons pe_str (pa_cons pe_str (pa_cons pe_str (pa_cons pe_str (pa_cons pe_str pa_nil))))))))))))
      (pss_cons (ps_set (i := 3) sc__law_step.nd rfl (Or.inl rfl) (pe_ce D__law_one_of (hr.mono (by decide)) hG (pa_cons (pv 0) (pa_cons (pe_op op_cat (pv 2) (pe_lst (pa_cons pe_str (pa_cons pe_str (pa_cons pe_str (pa_cons pe_str pa_nil)))))) pa_nil)) pass0))
      (pss_cons (ps_set (i := 4) sc__law_step.nd rfl (Or.inl rfl) (pe_ce D__law_running (hr.mono (by decide)) hG (pa_cons (pv 1) pa_nil) pass0))
      (pss_cons (ps_set (i := 5) sc__law_step.nd rfl (Or.inl rfl) (pe_op op_cat (pe_callTy (call_list_dK rfl) (by rfl) B.n_list (by decide +kernel) (pa_cons (pe_dget hu (pv 1) pe_str (fun _ _ => rfl)) pa_nil)) (pe_lst (pa_cons pe_int (pa_cons (pe_op op_add (pe_callB call_lenD (by rfl) B.n_len (by decide +kernel) (pa_cons (pe_dget hu (pv 1) pe_str (fun _ _ => rfl)) pa_nil)) pe_int) pa_nil)))))
      (pss_cons (ps_set (i := 6) sc__law_step.nd rfl (Or.inl rfl) (pe_ce D__law_one_of (hr.mono (by decide)) hG (pa_cons (pv 0) (pa_cons (pe_ifExp (PW.pt (pw_and (pt_cmpR (op_neD hr.units) (pv 4) (pe_lst pa_nil) (nomark _)) (pw_and1 (pt_cmpR op_gt (pe_ce D__law_pick (hr.mono (by decide)) hG (pa_cons (pv 0) (pa_cons pe_int pa_nil)) pass0) pe_int (nomark _))))) (pv 4) (pv 5)) pa_nil)) pass0))
      (pss_cons (ps_if (PW.pt (pw_and (pt_cmpR op_eq (pv 3) pe_str (nomark _)) (pw_and1 (pt_cmpR op_gt (pe_ce D__law_pick (hr.mono (by decide)) hG (pa_cons (pv 0) (pa_cons pe_int pa_nil)) pass0) pe_int (nomark _))))) (pss_one (ps_set (i := 3) sc__law_step.nd rfl (Or.inl rfl) pe_str)) pss_nil)
      (pss_one (ps_ret (pe_tup (pa_cons (pv 3) (pa_cons (pv 6) pa_nil))))))))))), ?_⟩
    refine ⟨(show 10 ≤ sizeLine by decide), fun l1 n1 => ?_⟩
    have t1 : t ≠ l1 := fun e => by rw [e, n1] at ht; cases ht
    have e1 : upd H l1 (.lst [.str "begin", .str "begin", .str "save", .str "save", .str "save", .str "release", .str "back", .str "commit", .str "abort", .str "prepare"]) l1 = some (.lst [.str "begin", .str "begin", .str "save", .str "save", .str "save", .str "release", .str "back", .str "commit", .str "abort", .str "prepare"]) := upd_same
    have N1 := (Nxt.new ht ho).go (same_new (o := .lst [.str "begin", .str "begin", .str "save", .str "save", .str "save", .str "release", .str "back", .str "commit", .str "abort", .str "prepare"]) n1)
    generalize upd H l1 (.lst [.str "begin", .str "begin", .str "save", .str "save", .str "save", .str "release", .str "back", .str "commit", .str "abort", .str "prepare"]) = H1 at e1 N1 ⊢
    refine ⟨_, rfl, _, rfl, (show 4 ≤ sizeLine by decide), fun l2 n2 => ⟨l1, l2, _, _, rfl, rfl, same_new n2 _ _ e1, upd_same, (show 14 ≤ sizeLine by decide), fun l3 n3 => ?_⟩⟩
    have s3 := (same_new (o := .lst [V.str "release", .str "back", .str "crash", .str "save"]) n2).trans (same_new (o := .lst ([V.str "begin", .str "begin", .str "save", .str "save", .str "save", .str "release", .str "back", .str "commit", .str "abort", .str "prepare"] ++ [V.str "release", .str "back", .str "crash", .str "save"])) n3)
    have N3 := N1.go s3
    obtain ⟨o3, ht3, ho3⟩ := N3.tape
    refine ⟨t, l3, o3, _, rfl, ht3, ho3, .inl (.inl upd_same), (show 1 ≤ 14 by decide), (show 14 ≤ 1000000 by decide), fun i v o4 hv ho4 => ?_⟩
    obtain ⟨wd, rfl⟩ : ∃ wd : Wd, v = .str wd.s := by
      have hm : v ∈ stepWords.map fun x => V.str x.s := List.mem_of_getElem? hv
      obtain ⟨wd, _, e⟩ := List.mem_map.mp hm
      exact ⟨wd, e.symm⟩
    have N4 := N3.turn ho4
    generalize upd _ t o4 = H4 at N4 ⊢
    have hA4 := hA.nxt N4 nt
    refine ⟨_, rfl, b, S, G, rfl, hA4, inv, h64, fun p H5 np hp s5 => ?_⟩
    have N5 := N4.go s5
    obtain ⟨ad, hw5, _⟩ := hA4.same s5
    have hlen := kr_len (f := fun i => ad (.run i)) (n := S.states.length)
    have hkl : ((kr (fun i => ad (.run i)) S.states.length).map fun kv => kV kv.1) = (oneTo S.states.length).map V.int := kr_ints
    refine ⟨_, rfl, _, _, rfl, hw5.gr, _, _, rfl, hw5.ex .runs trivial, fun l6 n6 => ?_⟩
    rw [hkl]
    have s6 := same_new (o := .lst ((oneTo S.states.length).map V.int)) n6
    have e6 : upd H5 l6 (.lst ((oneTo S.states.length).map V.int)) l6 = some (.lst ((oneTo S.states.length).map V.int)) := upd_same
    generalize upd H5 l6 (.lst ((oneTo S.states.length).map V.int)) = H6 at s6 e6 ⊢
    have hw6 := hw5.same s6
    refine ⟨_, rfl, _, _, rfl, hw6.gr, _, _, rfl, hw6.ex .runs trivial, _, _, rfl, rfl, ?_⟩
    rw [hlen]
    refine ⟨(show 2 ≤ sizeLine by decide), fun l7 n7 => ⟨l6, l7, _, _, rfl, rfl, same_new n7 _ _ e6, upd_same, ?_, fun l8 n8 => ?_⟩⟩
    · rw [List.length_map, oneTo_len]
      exact Nat.le_of_lt (sz1000 (show S.states.length + 2 ≤ 1000 by omega))
    have s8 := (same_new (o := .lst [V.int 0, .int ((S.states.length : Int) + 1)]) n7).trans (same_new (o := .lst ((oneTo S.states.length).map V.int ++ [V.int 0, .int ((S.states.length : Int) + 1)])) n8)
    have N8 := (N5.go s6).go s8
    have hp8 := s8 _ _ (s6 _ _ hp)
    have e8 : upd (upd H6 l7 (.lst [V.int 0, .int ((S.states.length : Int) + 1)])) l8 (.lst ((oneTo S.states.length).map V.int ++ [V.int 0, .int ((S.states.length : Int) + 1)])) l8 = some (.lst ((oneTo S.states.length ++ [0, (S.states.length : Int) + 1]).map V.int)) := by
      rw [upd_same]
      simp
    dsimp only
    generalize upd (upd H6 l7 (.lst [V.int 0, .int ((S.states.length : Int) + 1)])) l8 (.lst ((oneTo S.states.length).map V.int ++ [V.int 0, .int ((S.states.length : Int) + 1)])) = H8 at N8 hp8 e8 ⊢
    have lw : S.work.length ≤ 1000 := by
      rw [inv.ws]
      exact Nat.le_trans aliveL_len (by omega)
    have lo : (oneTo S.states.length ++ [0, (S.states.length : Int) + 1]).length ≤ 1000 := by
      rw [List.length_append, oneTo_len]
      show S.states.length + 2 ≤ 1000
      omega
    have bw : ∀ n ∈ S.work, 0 ≤ n ∧ n < 1000000000 := fun n hn => by
      obtain ⟨i, rfl, hi, _⟩ := aliveL_mem.mp (inv.ws ▸ hn)
      omega
    have bo : ∀ n ∈ oneTo S.states.length ++ [0, (S.states.length : Int) + 1], 0 ≤ n ∧ n < 1000000000 := fun n hn => by
      rcases List.mem_append.mp hn with hn | hn
      · obtain ⟨i, hi, rfl⟩ := List.mem_map.mp hn
        have := List.mem_range.mp hi
        omega
      · simp only [List.mem_cons, List.not_mem_nil, or_false] at hn
        omega
    refine Rm.asg_mid (fun σ H' => ∃ n : Int, (0 ≤ n ∧ n < 1000000000) ∧ σ = [some (.ref t), some (.ref b), some (.ref l1), some (.str wd.s), some (.ref p), some (.ref l8), some (.int n)] ∧ Nxt t H H') ?_ ?_
    rotate_left
    · intro N hN
      refine ⟨_, rfl, _, rfl, (show 0 ≤ sizeLine by decide), fun l9 n9 => ?_⟩
      have s9 := same_new (o := .lst []) n9
      have N9 := N8.go s9
      refine ⟨.list (S.work.map PyData.int), .list [], .lst (.inl (.inl (s9 _ _ hp8))) dpAll_ints, .lst (.inl (.inl upd_same)) .nil, shaped_ints _, shaped_ints [], _, rfl, ite2 (fun c => ?_) fun c => ?_⟩
      · have wne : 1 ≤ S.work.length := by
          cases h : S.work with
          | nil =>
            rw [h] at c
            have z : PyData.eqv (.list ([] : List PyData)) (.list []) = true := by decide +kernel
            simp only [List.map_nil] at c
            rw [z] at c
            cases c
          | cons _ _ => simp
        obtain ⟨o9, ht9, ho9⟩ := N9.tape
        refine ⟨_, rfl, t, o9, 6, rfl, ht9, ho9, by decide, by decide, fun k o10 k0 k1 ho10 => ?_⟩
        have N10 := N9.turn ho10
        have pt : p ≠ t := (N4.ne np).symm
        have lt8 : l8 ≠ t := fun e => by
          obtain ⟨o', h', _⟩ := (N5.go s6).tape
          rw [e] at n8
          rw [(same_new n7) _ _ h'] at n8
          cases n8
        refine ⟨_, _, rfl, rfl, _, rfl, ite2 (fun c2 => ?_) fun c2 => ?_⟩
        · exact ⟨_, rfl, spOne_ints (E := E0) N10 ((upd_ne pt).trans (s9 _ _ hp8)) wne lw fun n H' hm N' => hN _ _ ⟨n, bw n hm, rfl, N'⟩⟩
        · exact ⟨_, rfl, spOne_ints (E := E0) N10 ((upd_ne lt8).trans (s9 _ _ e8)) (by simp) lo fun n H' hm N' => hN _ _ ⟨n, bo n hm, rfl, N'⟩⟩
      · exact ⟨_, rfl, spOne_ints (E := E0) N9 (s9 _ _ e8) (by simp) lo fun n H' hm N' => hN _ _ ⟨n, bo n hm, rfl, N'⟩⟩
    · rintro _ H9 ⟨n, hn9, rfl, N9⟩
      refine ⟨_, rfl, rfl, _, rfl, ite2 (fun c => ?_) fun c => ?_⟩
      · obtain ⟨o9, ht9, ho9⟩ := N9.tape
        refine ⟨_, rfl, t, o9, 3, rfl, ht9, ho9, by decide, by decide, fun k o10 k0 k1 ho10 => ?_⟩
        have N10 := N9.turn ho10
        refine ⟨_, _, rfl, rfl, _, rfl, ite2 (fun c2 => ?_) fun c2 => ?_⟩
        · exact ⟨_, rfl, _, rfl, (show 2 ≤ sizeLine by decide), fun T nT => q T _ .save n hn9 (N10.nothing nT) upd_same (N10.put (N10.nothing nT) (N10.ne nT))⟩
        · exact ⟨_, rfl, _, rfl, (show 2 ≤ sizeLine by decide), fun T nT => q T _ wd n hn9 (N10.nothing nT) upd_same (N10.put (N10.nothing nT) (N10.ne nT))⟩
      · exact ⟨_, rfl, _, rfl, (show 2 ≤ sizeLine by decide), fun T nT => q T _ wd n hn9 (N9.nothing nT) upd_same (N9.put (N9.nothing nT) (N9.ne nT))⟩
end
end K08

set_option maxRecDepth 100000
set_option maxHeartbeats 4000000
namespace Rm
open PySem PySem.Spec L2
open PyProof.Rows hiding St

/-! ### what every word keeps -/
/-- a word that may be done: what its number is -/
def Wd.can (wd : Wd) (S : FS) (i : Nat) : Prop := wd.er S (.int ((i : Int) + 1)) = none ∧ (wd.num = true → i < S.states.length)
theorem Wd.can_fr {S : FS} {i : Nat} {wd : Wd} (h : wd = .save ∨ wd = .release ∨ wd = .back ∨ wd = .prepare) (c : wd.can S i) : S.fr (.int ((i : Int) + 1)) = none := by
  rcases h with rfl | rfl | rfl | rfl
  · exact fr_of_sav c.1
  · exact fr_of_tk c.1
  · exact fr_of_tk c.1
  · exact fr_of_pr c.1
theorem op_inv {wd : Wd} {S : FS} {i : Nat} (h : S.Inv) (c : wd.can S i) : (wd.op S i).Inv := by
  cases wd with
  | begin => exact h.beg
  | crash => exact h.crs
  | save => exact h.cnt.opn (show i < S.stacks.length by rw [h.ls]; exact c.2 rfl) (.inr rfl)
  | release => exact (h.tk (by have := len_of_tk c.1; rwa [sk_at] at this)).mdP fun _ => rfl
  | back => exact (h.tk (by have := len_of_tk c.1; rwa [sk_at] at this)).mdP fun _ => rfl
  | commit => exact FS.Inv.endT (S := { S.cnt with moment := S.moment + 1 }) ⟨h.ls, h.ne, h.kp, h.ws, h.sw, h.ch⟩ (c.2 rfl) (.inl rfl)
  | abort => exact h.cnt.endT (c.2 rfl) (.inr rfl)
  | prepare => exact h.prep (c.2 rfl) (ru_alive h (c.2 rfl) (FS.fr_none (Wd.can_fr (.inr (.inr (.inr rfl))) c)).1)
theorem op_few {wd : Wd} {S : FS} {i m : Nat} (h : S.Inv) (f : S.Few m) : (wd.op S i).Few (m + 1) := by
  cases wd with
  | begin => exact f.beg h.ls
  | crash => exact f.crs.mono (Nat.le_succ m)
  | save => exact f.cnt.opn
  | release => exact FS.Few.mono (f.tk.mdP) (Nat.le_succ m)
  | back => exact FS.Few.mono (f.tk.mdP) (Nat.le_succ m)
  | commit => exact FS.Few.mono (FS.Few.endT (S := { S.cnt with moment := S.moment + 1 }) ⟨f.n, f.p, f.k⟩) (Nat.le_succ m)
  | abort => exact f.cnt.endT.mono (Nat.le_succ m)
  | prepare => exact ⟨by show (S.states.set i _).length ≤ m + 1; rw [List.length_set]; exact Nat.le_succ_of_le f.n, Nat.le_succ_of_le f.p, fun l hl => Nat.le_succ_of_le (f.k l hl)⟩
theorem endT_cap {S : FS} {i : Nat} {st z : Str} (h : S.Cap) : (S.endT i st z).Cap := by
  refine ⟨?_, fun l hl => ?_⟩
  · show (S.work.erase _).length ≤ 8
    exact Nat.le_trans (List.length_erase_le) h.w
  · have hl : l ∈ S.stacks.set i [] := hl
    rcases List.mem_or_eq_of_mem_set hl with hl | rfl
    · exact h.k l hl
    · exact Nat.zero_le _
theorem crF_cap : ∀ (l : List Int) {S : FS}, S.Cap → (crF S l).Cap
  | [], _, h => h
  | k :: l, S, h => crF_cap l (S := S.endT (k - 1).toNat "aborted" "rolled back") (endT_cap h)
theorem cap_getD {S : FS} (h : S.Cap) {i : Nat} : (S.stacks.getD i []).length ≤ 5 := by
  rw [List.getD_eq_getElem?_getD]
  cases e : S.stacks[i]? with
  | none => exact Nat.zero_le _
  | some l => exact h.k l (List.mem_of_getElem? e)
theorem tk_cap {S : FS} {i : Nat} (h : S.Cap) : (S.tk i).Cap := ⟨h.w, fun l hl => by
  have hl : l ∈ S.stacks.set i (S.stacks.getD i []).dropLast := hl
  rcases List.mem_or_eq_of_mem_set hl with hl | rfl
  · exact h.k l hl
  · rw [List.length_dropLast]
    have := cap_getD h (i := i)
    omega⟩
theorem op_cap {wd : Wd} {S : FS} {i : Nat} (inv : S.Inv) (h : S.Cap) (c : wd.can S i) : (wd.op S i).Cap := by
  cases wd with
  | begin =>
    have hw : ¬ 8 ≤ S.work.length := fun e => by
      have := c.1
      simp [Wd.er, e] at this
    refine ⟨?_, fun l hl => ?_⟩
    · show (S.work ++ [_]).length ≤ 8
      rw [List.length_append, List.length_singleton]
      omega
    · have hl : l ∈ S.beg.stacks := hl
      rw [beg_stacks inv.ls] at hl
      rcases List.mem_append.mp hl with hl | hl
      · exact h.k l hl
      · rw [List.mem_singleton.mp hl]
        show 1 ≤ 5
        decide
  | crash => exact crF_cap _ (S := S.cnt) ⟨h.w, h.k⟩
  | save =>
    have hs : ¬ 5 ≤ (S.stacks.getD i []).length := fun e => by
      have z := savE_some (fr_of_sav c.1) (by rw [sk_at]; exact e)
      have y : S.savE (.int ((i : Int) + 1)) = none := c.1
      rw [y] at z
      cases z
    refine ⟨h.w, fun l hl => ?_⟩
    have hl : l ∈ S.stacks.set i (S.stacks.getD i [] ++ [_]) := hl
    rcases List.mem_or_eq_of_mem_set hl with hl | rfl
    · exact h.k l hl
    · rw [List.length_append, List.length_singleton]
      omega
  | release => exact ⟨(tk_cap h (i := i)).w, (tk_cap h (i := i)).k⟩
  | back => exact ⟨(tk_cap h (i := i)).w, (tk_cap h (i := i)).k⟩
  | commit => exact endT_cap (S := { S.cnt with moment := S.moment + 1 }) ⟨h.w, h.k⟩
  | abort => exact endT_cap (S := S.cnt) ⟨h.w, h.k⟩
  | prepare => exact ⟨h.w, h.k⟩
theorem crF_states : ∀ (l : List Int) {S : FS}, (crF S l).states.length = S.states.length
  | [], _ => rfl
  | k :: l, S => (crF_states l (S := S.endT (k - 1).toNat "aborted" "rolled back")).trans (endT_keeps S (k - 1).toNat "aborted" "rolled back").1
theorem op_more {wd : Wd} {S : FS} {i : Nat} : (wd.op S i).states.length ≤ S.states.length + 1 := by
  cases wd with
  | begin =>
    show (S.states ++ [_]).length ≤ _
    rw [List.length_append]
    exact Nat.le_refl _
  | crash => exact Nat.le_succ_of_le (Nat.le_of_eq (crF_states _ (S := S.cnt)))
  | save => exact Nat.le_succ _
  | release => exact Nat.le_succ _
  | back => exact Nat.le_succ _
  | commit =>
    show (S.states.set i _).length ≤ _
    rw [List.length_set]
    exact Nat.le_succ _
  | abort =>
    show (S.states.set i _).length ≤ _
    rw [List.length_set]
    exact Nat.le_succ _
  | prepare =>
    show (S.states.set i _).length ≤ _
    rw [List.length_set]
    exact Nat.le_succ _
end Rm

set_option maxRecDepth 100000
set_option maxHeartbeats 4000000
namespace K08
open PySem PySem.Spec L2 Rm
open PyProof.Rows hiding St
section
variable {P : Program} {w : World} {K : PySem.W.Frag} {mg : Str → Option Value} {base : Heap} {C CP : Addr} {more : List (Str × V)} {EE : EA}
theorem sc__law_call : FnScope ["_law_fates", "_law_word", "_law_number"] ["_law_fates", "_law_word", "_law_number"] (defScope s__law_call) :=
  ⟨rfl, rfl, rfl, by decide +kernel, rfl, by decide +kernel, by decide +kernel⟩
def spCallW (K : PySem.W.Frag) (C CP : Addr) (more : List (Str × V)) (EE : EA) : Sp := fun vs H Q E => ∃ a wd x d S F, vs = [.ref a, .str (Wd.s wd), x] ∧ FsA C CP more H a S F ∧ Dx K H x d ∧ S.Wf ∧
  (∀ k, wd.er S d = some k → ∀ H', Same H H' → Out EE E H' k (wd.kv k x)) ∧
  (∀ i : Nat, (wd.num = true → d = .int ((i : Int) + 1) ∧ i < S.states.length) → wd.er S d = none → ∀ H' F', FsA C CP more H' a (wd.op S i) F' → Fr F H H' → Grow F F' H → Q (wd.res S) H')
theorem ok_call {f : Addr} {fd : FuncData} (F0 : Fun K "_law_call" "_law_call" s__law_call f fd) (mo : MO more)
    (M_Fates_begin : Cm P w K mg base (L2.CX P w) 7 C "begin" ["self"] (spBegin C CP more EE)) (M_Fates_crash : Cm P w K mg base CX0 5 C "crash" ["self"] (spCrash C CP more))
    (M_Fates_save : Cm P w K mg base (L2.CX P w) 8 C "save" ["self", "number"] (spNum K C CP more EE FS.savE FS.sav fun S i => .int ((S.parts.length : Int) + 1)))
    (M_Fates_release : Cm P w K mg base (L2.CX P w) 8 C "release" ["self", "number"] (spNum K C CP more EE FS.tkE FS.rel fun S i => .non))
    (M_Fates_back : Cm P w K mg base (L2.CX P w) 8 C "back" ["self", "number"] (spNum K C CP more EE FS.tkE FS.bak fun S i => .non))
    (M_Fates_prepare : Cm P w K mg base (L2.CX P w) 8 C "prepare" ["self", "number"] (spNum K C CP more EE FS.prE FS.prep fun S i => .non))
    (M_Fates_commit : Cm P w K mg base (L2.CX P w) 8 C "commit" ["self", "number"] (spNum K C CP more EE FS.ru FS.com fun S i => .non))
    (M_Fates_abort : Cm P w K mg base (L2.CX P w) 8 C "abort" ["self", "number"] (spNum K C CP more EE FS.ru FS.abo fun S i => .non)) :
    FnG P w K mg base (L2.CX P w) 9 f fd ["_law_fates", "_law_word", "_law_number"] (spCallW K C CP more EE) := by
  refine fn_in F0 sc__law_call (fun vs H Q E h => ?_) (fun cdv A outer s H vs Q E hr hG h => ?_)
  · obtain ⟨a, wd, x, d, S, F, rfl, _⟩ := h
    rfl
  · obtain ⟨a, wd, x, d, S, F, rfl, hA, hx, wf, e, q⟩ := h
    have hu := hu_of hr
    refine ⟨_, (pss_cons (ps_if (pt_cmpR op_eq (pv 1) pe_str (nomark _)) (pss_one (ps_ret (pe_cm0 M_Fates_begin (hr.mono (by decide)) hG (pv 0) (passes_call (takes_of rfl rfl rfl rfl) (fun _ _ _ _ h => h))))) pss_nil)
      (pss_cons (ps_if (pt_cmpR op_eq (pv 1) pe_str (nomark _)) (pss_one (ps_ret (pe_cm0 M_Fates_crash (hr.mono (by decide)) hG (pv 0) pass0))) pss_nil)
      (pss_cons (ps_if (pt_cmpR op_eq (pv 1) pe_str (nomark _)) (pss_one (ps_ret (pe_cm M_Fates_save (hr.mono (by decide)) hG (pv 0) (pa_cons (pv 2) pa_nil) (passes_call (takes_of rfl rfl rfl rfl) (fun _ _ _ _ h => h))))) pss_nil)
      (pss_cons (ps_if (pt_cmpR op_eq (pv 1) pe_str (nomark _)) (pss_one (ps_ret (pe_cm M_Fates_release (hr.mono (by decide)) hG (pv 0) (pa_cons (pv 2) pa_nil) (passes_call (takes_of rfl rfl rfl rfl) (fun _ _ _ _ h => h))))) pss_nil)
      (pss_cons (ps_if (pt_cmpR op_eq (pv 1) pe_str (nomark _)) (pss_one (ps_ret (pe_cm M_Fates_back (hr.mono (by decide)) hG (pv 0) (pa_cons (pv 2) pa_nil) (passes_call (takes_of rfl rfl rfl rfl) (fun _ _ _ _ h => h))))) pss_nil)
      (pss_cons (ps_if (pt_cmpR op_eq (pv 1) pe_str (nomark _)) (pss_one (ps_ret (pe_cm M_Fates_commit (hr.mono (by decide)) hG (pv 0) (pa_cons (pv 2) pa_nil) (passes_call (takes_of rfl rfl rfl rfl) (fun _ _ _ _ h => h))))) pss_nil)
      (pss_one (ps_ret (pe_ifExp (pt_cmpR op_eq (pv 1) pe_str (nomark _)) (pe_cm M_Fates_abort (hr.mono (by decide)) hG (pv 0) (pa_cons (pv 2) pa_nil) (passes_call (takes_of rfl rfl rfl rfl) (fun _ _ _ _ h => h))) (pe_cm M_Fates_prepare (hr.mono (by decide)) hG (pv 0) (pa_cons (pv 2) pa_nil) (passes_call (takes_of rfl rfl rfl rfl) (fun _ _ _ _ h => h)))))))))))), ?_⟩
    obtain ⟨ad, hf, hF⟩ := id hA
    obtain ⟨dx, lk⟩ := hf.look
    have eall : ∀ {wd' : Wd}, decide (V.str wd.s = V.str wd'.s) = true → wd = wd' := fun c => Wd.inj (V.str.inj (of_decide_eq_true c))
    have enot : ∀ {wd' : Wd}, ¬ decide (V.str wd.s = V.str wd'.s) = true → wd ≠ wd' := fun c e => c (decide_eq_true (by rw [e]))
    refine ⟨_, rfl, rfl, _, rfl, ite2 (fun c => ?_) fun c1 => ?_⟩
    · obtain rfl := eall (wd' := .begin) c
      refine ⟨_, rfl, a, dx, _, rfl, lk.o, mo.free (by decide +kernel), a, S, F, rfl, hA, wf, fun h8 H' F' hA' fr gr => ?_, fun h8 => ?_⟩
      · exact q 0 (fun h => by cases h) (by simp [Wd.er, h8]) _ _ hA' fr gr
      · exact e .tm (by simp [Wd.er, h8]) _ (.refl _)
    · have go : ∀ (wd' : Wd), wd = wd' → wd'.num = true → ∀ (er : FS → PyData → Option Ek) (op : FS → Nat → FS) (res : FS → Nat → V), (∀ S d, wd'.er S d = er S d) → (∀ S i, wd'.op S i = op S i) → (∀ S i, wd'.res S = res S i) →
        spNum K C CP more EE er op res [.ref a, x] H Q E := fun wd' ew hn er op res h1 h2 h3 => by
        subst ew
        refine ⟨a, x, d, S, F, rfl, hA, hx, wf, fun k hk H' s => ?_, fun i hd hi her H' F' hA' fr gr => ?_⟩
        · have z := e k (by rw [h1]; exact hk) H' s
          rw [kv_num hn] at z
          exact z
        · rw [← h3 S i]
          exact q i (fun _ => ⟨hd, hi⟩) (by rw [h1]; exact her) _ _ (by rw [h2]; exact hA') fr gr
      have c1 := enot (wd' := .begin) c1
      refine ⟨_, rfl, rfl, _, rfl, ite2 (fun c => ?_) fun c2 => ?_⟩
      · obtain rfl := eall (wd' := .crash) c
        exact ⟨_, rfl, a, dx, _, rfl, lk.o, mo.free (by decide +kernel), a, S, F, rfl, hA, wf, fun H' F' hA' fr gr => q 0 (fun h => by cases h) rfl _ _ hA' fr gr⟩
      · have c2 := enot (wd' := .crash) c2
        refine ⟨_, rfl, rfl, _, rfl, ite2 (fun c => ?_) fun c_save => ?_⟩
        · exact ⟨_, rfl, a, dx, _, rfl, lk.o, mo.free (by decide +kernel), _, rfl, go .save (eall (wd' := .save) c) rfl _ _ _ (fun _ _ => rfl) (fun _ _ => rfl) fun _ _ => rfl⟩
        · have c_save := enot (wd' := .save) c_save
          refine ⟨_, rfl, rfl, _, rfl, ite2 (fun c => ?_) fun c_release => ?_⟩
          · exact ⟨_, rfl, a, dx, _, rfl, lk.o, mo.free (by decide +kernel), _, rfl, go .release (eall (wd' := .release) c) rfl _ _ _ (fun _ _ => rfl) (fun _ _ => rfl) fun _ _ => rfl⟩
          · have c_release := enot (wd' := .release) c_release
            refine ⟨_, rfl, rfl, _, rfl, ite2 (fun c => ?_) fun c_back => ?_⟩
            · exact ⟨_, rfl, a, dx, _, rfl, lk.o, mo.free (by decide +kernel), _, rfl, go .back (eall (wd' := .back) c) rfl _ _ _ (fun _ _ => rfl) (fun _ _ => rfl) fun _ _ => rfl⟩
            · have c_back := enot (wd' := .back) c_back
              refine ⟨_, rfl, rfl, _, rfl, ite2 (fun c => ?_) fun c_commit => ?_⟩
              · exact ⟨_, rfl, a, dx, _, rfl, lk.o, mo.free (by decide +kernel), _, rfl, go .commit (eall (wd' := .commit) c) rfl _ _ _ (fun _ _ => rfl) (fun _ _ => rfl) fun _ _ => rfl⟩
              · have c_commit := enot (wd' := .commit) c_commit
                refine ⟨_, rfl, rfl, _, rfl, ite2 (fun c => ?_) fun c_abort => ?_⟩
                · exact ⟨_, rfl, a, dx, _, rfl, lk.o, mo.free (by decide +kernel), _, rfl, go .abort (eall (wd' := .abort) c) rfl _ _ _ (fun _ _ => rfl) (fun _ _ => rfl) fun _ _ => rfl⟩
                · have c_abort := enot (wd' := .abort) c_abort
                  have ep : wd = .prepare := by
                    cases wd <;> first | rfl | exact absurd rfl c1 | exact absurd rfl c2 | exact absurd rfl c_save | exact absurd rfl c_release | exact absurd rfl c_back | exact absurd rfl c_commit | exact absurd rfl c_abort
                  exact ⟨_, rfl, a, dx, _, rfl, lk.o, mo.free (by decide +kernel), _, rfl, go .prepare ep rfl _ _ _ (fun _ _ => rfl) (fun _ _ => rfl) fun _ _ => rfl⟩
end
end K08

set_option maxRecDepth 100000
set_option maxHeartbeats 4000000
namespace Rm
open PySem PySem.Spec L2
open PyProof.Rows hiding St

/-! ### lists of small numbers, shown -/
theorem small_weight {n : Int} (h0 : 0 ≤ n) (h : n < 1000) : (PyData.int n).weight ≤ 10 := by
  unfold PyData.weight
  split
  · exact Nat.zero_le _
  · rename_i hz
    have hz : n ≠ 0 := fun e => hz (by simp [e])
    have h1 : n.natAbs ≠ 0 := by omega
    have : n.natAbs.log2 < 10 := (Nat.log2_lt h1).mpr (by omega)
    omega
theorem all_small : ∀ {ns : List Int}, (∀ n ∈ ns, 0 ≤ n ∧ n < 1000) → PyData.showableAll (ns.map PyData.int) = true ∧ PyData.leavesShortAll 100 (ns.map PyData.int) = true ∧ PyData.weightAll (ns.map PyData.int) ≤ 11 * ns.length ∧ PyData.depthAll (ns.map PyData.int) ≤ 1
  | [], _ => ⟨rfl, rfl, Nat.zero_le _, Nat.zero_le _⟩
  | n :: ns, h => by
    obtain ⟨h1, h2⟩ := h n (.head _)
    obtain ⟨a, b, c, d⟩ := all_small (ns := ns) fun m hm => h m (.tail _ hm)
    have s := (Sv.int h1 (by omega)).sm
    refine ⟨?_, ?_, ?_, ?_⟩
    · show ((PyData.int n).showable && PyData.showableAll (ns.map PyData.int)) = true
      rw [s.sh, a]; rfl
    · show ((PyData.int n).leavesShort 100 && PyData.leavesShortAll 100 (ns.map PyData.int)) = true
      rw [s.lv, b]; rfl
    · show (PyData.int n).weight + 1 + PyData.weightAll (ns.map PyData.int) ≤ 11 * (ns.length + 1)
      have := small_weight h1 h2
      omega
    · show max (PyData.int n).depth (PyData.depthAll (ns.map PyData.int)) ≤ 1
      refine Nat.max_le.mpr ⟨?_, d⟩
      simp [PyData.depth]
theorem sm_small {ns : List Int} (h : ∀ n ∈ ns, 0 ≤ n ∧ n < 1000) (hl : ns.length ≤ 1000) : Sm (.list (ns.map PyData.int)) := by
  obtain ⟨a, b, c, d⟩ := all_small h
  refine ⟨a, b, ?_, ?_⟩
  · show PyData.weightAll (ns.map PyData.int) ≤ 100000
    omega
  · have e : (PyData.list (ns.map PyData.int)).depth ≤ PyData.depthAll (ns.map PyData.int) + 1 := by simp [PyData.depth]
    omega
/-- a state and numbers -/
theorem sm_pair {st : Str} {ns : List Int} (hst : st = "running" ∨ st = "prepared" ∨ st = "committed" ∨ st = "aborted") (h : ∀ n ∈ ns, 0 ≤ n ∧ n < 1000) (hl : ns.length ≤ 1000) : Sm (.list [.str st, .list (ns.map PyData.int)]) := by
  obtain ⟨a, b, c, d⟩ := all_small h
  have hw : (PyData.str st).weight ≤ 100 ∧ (PyData.str st).leavesShort 100 = true := by
    rcases hst with rfl | rfl | rfl | rfl <;> exact ⟨by decide +kernel, by decide +kernel⟩
  refine ⟨?_, ?_, ?_, ?_⟩
  · show (true && (PyData.showableAll (ns.map PyData.int) && true)) = true
    rw [a]; rfl
  · show ((PyData.str st).leavesShort 100 && (PyData.leavesShortAll 100 (ns.map PyData.int) && true)) = true
    rw [hw.2, b]; rfl
  · show (PyData.str st).weight + 1 + (PyData.weightAll (ns.map PyData.int) + 1 + 0) ≤ 100000
    have := hw.1
    omega
  · have e : (PyData.list [PyData.str st, .list (ns.map PyData.int)]).depth ≤ PyData.depthAll (ns.map PyData.int) + 2 := by
      simp [PyData.depth, PyData.depthAll]
      try omega
    omega
theorem dxAll_ints {K : PySem.W.Frag} {H : Hp} : ∀ {ns : List Int}, DxAll K H (ns.map V.int) (ns.map PyData.int)
  | [] => .nil
  | _ :: _ => .cons (.int _) dxAll_ints
theorem dx_ints {K : PySem.W.Frag} {H : Hp} {p : Addr} {ns : List Int} (h : H p = some (.lst (ns.map V.int))) : Dx K H (.ref p) (.list (ns.map PyData.int)) := .lst (.inl (.inl h)) dxAll_ints
theorem dp_ints {K : PySem.W.Frag} {H : Hp} {p : Addr} {ns : List Int} (h : H p = some (.lst (ns.map V.int))) : Dp K H (.ref p) (.list (ns.map PyData.int)) := .lst (.inl (.inl h)) dpAll_ints
theorem dx_pair {K : PySem.W.Frag} {H : Hp} {p l : Addr} {st : Str} {ns : List Int} (h : H p = some (.lst [.str st, .ref l])) (hl : H l = some (.lst (ns.map V.int))) : Dx K H (.ref p) (.list [.str st, .list (ns.map PyData.int)]) :=
  .lst (.inl (.inl h)) (.cons (.str _) (.cons (dx_ints hl) .nil))
theorem eqv_ints : ∀ ns : List Int, PyData.eqv (.list (ns.map PyData.int)) (.list (ns.map PyData.int)) = true := by
  have h : ∀ ns : List Int, PyData.eqvAll (ns.map PyData.int) (ns.map PyData.int) = true := fun ns => by
    induction ns with
    | nil => simp [PyData.eqvAll]
    | cons n ns ih => simp [PyData.eqvAll, PyData.eqv, ih]
  intro ns
  simp [PyData.eqv, h]
theorem or_of {H : Hp} {b p r e : Addr} {S : FS} (h : H b = some (.dK (wobj p r e S))) : DGet H b (.str "runs") (some (.ref r)) := by
  have e := DGet.k (k := Sum.inr ("runs" : Str)) h
  unfold wobj at e
  rw [valV_neg (kne w_pr), valV_pos rfl] at e
  exact e
theorem ru_of {H : Hp} {p : Addr} {o : Obj} {f : Nat → Addr} {n i : Nat} (h : H p = some (.frz o (.dK (kr f n)))) (hi : i < n) : DGet H p (.int ((i : Int) + 1)) (some (.ref (f i))) :=
  .inl ⟨_, .inl ((i : Int) + 1), .inr ⟨o, h⟩, rfl, (kr_at hi).symm⟩
theorem unlock_same {H H3 H4 : Hp} {d : Addr} {u f : HO} (s : Same H H3) (hd : H d = some u) (t : Same (upd H3 d f) H4) : Same H (upd H4 d u) := fun b v hb => by
  by_cases e : b = d
  · rw [e, hd] at hb
    cases hb
    rw [e, upd_same]
  · rw [upd_ne e]
    exact t _ _ ((upd_ne e).trans (s _ _ hb))
theorem kr_get {f : Nat → Addr} {n i : Nat} {k : Key} {v : V} (h : (kr f n)[i]? = some (k, v)) : i < n ∧ k = .inl ((i : Int) + 1) := by
  unfold kr at h
  rw [List.getElem?_map] at h
  by_cases hi : i < n
  · rw [List.getElem?_range hi] at h
    cases h
    exact ⟨hi, rfl⟩
  · rw [List.getElem?_eq_none (by simpa using hi)] at h
    cases h
theorem kn_in {S : FS} {i : Nat} (hi : i < S.states.length) : S.kn (.int ((i : Int) + 1)) = none := by
  unfold FS.kn isW
  have h1 : (1 : Int) ≤ (i : Int) + 1 := by omega
  have h2 : (i : Int) + 1 ≤ (S.states.length : Int) := by omega
  rw [if_pos (by show (decide ((1 : Int) ≤ (i : Int) + 1) && decide ((i : Int) + 1 ≤ (S.states.length : Int))) = true; rw [decide_eq_true h1, decide_eq_true h2]; rfl)]
end Rm

set_option maxRecDepth 100000
set_option maxHeartbeats 4000000
namespace Rm
open PySem PySem.Spec L2 LamX
open PyProof.Rows hiding St

/-! ### x(lambda: e), where e may use that no display is being written, and errors of e are wished for at the slots of x -/
/-- the def at g, called from X at s -/
abbrev inG (X : Cx) (CXg : CXT) (Ng : List Str) (qg : Str) (sg : Scope) (g : Addr) (cg : Value) (s : Shared) (H : Hp) (Eg : XK) : Cx :=
  cxOf CXg X.prog X.w X.K X.mg X.base Ng qg sg g cg X.A X.stack s H Eg
abbrev lamQ (X : Cx) : Str := X.env.qual ++ "<lambda>"
abbrev lamO (X : Cx) (ps : Arguments) (e : Expr) (sc : Scope) (pm : Value) (c' : Addr) (ctv : Value) : Obj :=
  PySem.W.kla_obj "<lambda>" (lamQ X) ps e sc (cloFrom X.env.cells sc.names []) pm c' ctv
section
variable {X : Cx} {pins : List (Addr × Obj)} {σ : L2.St} {H : Hp} {s : Shared}
theorem act_gd {CXg : CXT} {Eg : XK} {Ng : List Str} {qg a : Str} {sg sc : Scope} {g f c' : Addr} {cg pm ctv : Value} {ps : Arguments} {e : Expr}
    {k i : Nat} {pn : List (Addr × Obj)} {xe : Value → Shared → Prop} {W : WX} {tb : XK → TE} {p1 p2 : Pos}
    (I : Inv X pins σ H s) (L : LamS X.env.scope sc) (hf : s.heap.get? f = some (lamO X ps e sc pm c' ctv)) (nf : H f = none) (ff : f ∉ frs X.stack)
    (hb : bindArgs (PySem.W.kla_fn "<lambda>" (lamQ X) ps e sc (cloFrom X.env.cells sc.names []) pm (.ref c') ctv) ⟨[], []⟩ = pure [])
    (tk : Takes ((inG X CXg Ng qg sg g cg s H Eg).tr pn xe) W) (hr : Room (k + 1) (X.A.deeper (envOfC qg sg s.heap.objs.size g cg)))
    (hG : Gd (X.A.deeper (envOfC qg sg s.heap.objs.size g cg)))
    (he : ∀ (A : Around) (outer : List Env) (z : Shared) (J : Hp) (E : XK), Room k (A.deeper (lamEnv X sc z.heap.objs.size f c')) → Gd (A.deeper (lamEnv X sc z.heap.objs.size f c')) →
      PE (lamCx X A outer z J E sc f c') e (tb E))
    (hN : Ng[i]? = some a) (hv : Vis sg a) (hd : (a == ("__debug__" : Str)) = false := by decide) (hcd : (a == ("__classdict__" : Str)) = false := by decide) :
    PE ((inG X CXg Ng qg sg g cg s H Eg).tr pn xe) (.Call (.Name a p1) [] [] p2)
      (fun τ J Q => τ[i]? = some (some (.ref f)) ∧ J c' = some (CodeO c' (lamQ X)) ∧ tb (WE W τ) σ J Q) := by
  constructor
  rintro pinsZ z τ J Q IZ ⟨slot, code, rd⟩
  have asked := (pe_var (pos := p1) (i := i) hN hv hd hcd).run pinsZ z τ J (fun v J1 => v = .ref f ∧ J1 = J) IZ ⟨.ref f, slot, rfl, rfl⟩
  refine wpAny_Call_Name_kw (thn asked fun u z1 ⟨v, J1, I1, ru, ev, eJ⟩ => ?_)
  subst ev eJ
  have eu : u = Value.ref f := ru
  subst eu
  have keeps : Un (frs X.stack) [] H J1 s.heap z1.heap := I1.base
  have fz : z1.heap.get? f = some (lamO X ps e sc pm c' ctv) := keeps.keep f _ hf nf ff (fun q => by cases q)
  refine PySem.W.callWith_F0 ⟨_, _, _, _, fz⟩ ?_
  obtain ⟨⟨oc, vs, t, c1, c2, c3⟩, _, _⟩ := I1.hok c' _ code
  refine wpAny_call (codeAny_mono (R := CR (L2.CX X.prog X.w) ((envOfC qg sg s.heap.objs.size g cg) :: X.stack) X.prog X.w J1 z1 Q (WE W τ)) ?_ fun r z2 hq => ?_)
  · refine PySem.W.kla_callFunE hr.depth fz rfl L.co L.gen rfl ⟨c', oc, vs, t, rfl, c1, c2, c3⟩ ?_
    have hb' : bindArgs (PySem.W.kla_fn "<lambda>" (lamQ X) ps e sc (cloFrom X.env.cells sc.names []) pm (.ref c') ctv) ⟨[] ++ [], []⟩ = pure [] := hb
    rw [hb']
    refine wpAny_pure (wpAny_newFunctionEnv (fun y hy => (L.own y hy).2) (fun y hy => by cases hy) (fun hp names but => ⟨I1.nolimit.fresh _ but, ?_⟩) L.kind)
    have grown : ∀ b o, z1.heap.get? b = some o → hp.get? b = some o := fun b o q =>
      but.extBut b o (Nat.ne_of_lt (Heap.lt_size q)) (Heap.get?_push_of_some _ q)
    have start := lam_start2 (A := X.A.deeper (envOfC qg sg s.heap.objs.size g cg)) (outer := (envOfC qg sg s.heap.objs.size g cg) :: X.stack) (E := WE W τ) (f := f) (c' := c')
      (tk := z1.toks + ([] : List (Str × Value)).length) I L I1.env0 hr.hd keeps names grown
    refine PySem.W.kla_codeExpr (wpAny_mono ((he _ _ z1 J1 (WE W τ) (hr.deeper _) (hG.deeper _)).run [] _ _ J1 Q start rd) (fun v z3 hq => ?_) fun er z3 hq => hq)
    obtain ⟨y, J2, I2, ry, q⟩ := hq
    exact ⟨y, J2, I2.os, I2.bare, I2.base, I2.hok, ry, q⟩
  · match r, hq with
    | .error er, hq => exact passAt tk τ pinsZ J1 z1 er z2 I1 hq
    | .ok (.ret u), hq => exact I1.after hq
    | .ok .next, hq => exact False.elim hq
    | .ok .brk, hq => exact False.elim hq
    | .ok .cont, hq => exact False.elim hq
/-- what the def x at g, whose one name in front is a, makes of the thing that it may call -/
def Gives (X : Cx) (x a q : Str) (Ng : List Str) (sg : Scope) (g : Addr) (cg : Value) (bg : List Stmt) (TT : (XK → Hp → VK → Prop) → Hp → VK → Prop) : Prop :=
  ∀ (f c' : Addr) (s : Shared) (H : Hp) (Q : VK) (tl : XK → Hp → VK → Prop),
    (∀ (W : WX) (pn : List (Addr × Obj)) (xe : Value → Shared → Prop) (p1 p2 : Pos), Takes ((inG X CX0 Ng x sg g cg s H E0).tr pn xe) W →
      PE ((inG X CX0 Ng x sg g cg s H E0).tr pn xe) (.Call (.Name a p1) [] [] p2)
        (fun τ J Q => τ[0]? = some (some (.ref f)) ∧ J c' = some (CodeO c' q) ∧ tl (WE W τ) J Q)) →
    H c' = some (CodeO c' q) → TT tl H Q →
    ∃ t, PSs (inG X CX0 Ng x sg g cg s H E0).nox bg t ∧ t { nx := fun _ H' => Q .non H', rt := Q } (L2.start Ng [.ref f]) H
theorem pe_lamG {T : List (Addr × Str)} {TT : (XK → Hp → VK → Prop) → Hp → VK → Prop} {x a : Str} {g c P : Addr} {k : Nat} {pg ps : Arguments} {bg : List Stmt} {sg sc : Scope}
    {dV kV doc pm cg ct oc : Value} {an od : Option Addr} {osl : Array (Option Value)} {Ng : List Str} {e : Expr} {t : XK → TE} {p lp pos : Pos}
    (hm : X.mg x = some (.ref g)) (hk : PySem.W.keepIn X.K (.ref g) = true)
    (lk : X.K.lookup g = some ⟨oc, od, .func (PySem.W.fnOf x x pg bg sg dV kV doc pm an cg ct), osl⟩) (hcg : PySem.W.codeIn X.K cg x = true)
    (hbd : L2.Binds X.K (PySem.W.fnOf x x pg bg sg dV kV doc pm an cg ct) [a] []) (Sg : FnScope Ng [a] sg)
    (give : Gives X x a (lamQ X) Ng sg g cg bg TT) (TB : TabB X.base X.mg c P)
    (hT : (P, lamQ X) ∈ T) (hu : ∀ y ∈ T, y.1 = P → y.2 = lamQ X) (hr : Room (k + 2) X.A) (hG : Gd X.A)
    (he : ∀ (A : Around) (outer : List Env) (z : Shared) (J : Hp) (E : XK) (f c' : Addr), Room k (A.deeper (lamEnv X sc z.heap.objs.size f c')) → Gd (A.deeper (lamEnv X sc z.heap.objs.size f c')) →
      PE (lamCx X A outer z J E sc f c') e (t E))
    (L : LamS X.env.scope sc) (hg : Gl X x := by rfl) (h0 : Ng[0]? = some a := by rfl) (hva : Vis sg a := by first | exact Or.inl rfl | exact Or.inr (Or.inl rfl)) (hcode : X.env.code = .ref c := by rfl) (hdef : defaultsOf ps X.env = ([], []) := by rfl)
    (hba : ∀ (q : Str) (cl : List (Str × Addr)) (pm cv ctv : Value), bindArgs (PySem.W.kla_fn "<lambda>" q ps e sc cl pm cv ctv) ⟨[], []⟩ = pure [] := by intros; rfl)
    (hdb : (x == ("__debug__" : Str)) = false := by decide) (hd : (a == ("__debug__" : Str)) = false := by decide) (hcd : (a == ("__classdict__" : Str)) = false := by decide) :
    PE X (.Call (.Name x p) [.Lambda ps e sc lp] [] pos) (tLam T TT t) := by
  constructor
  rintro pins s σ H Q I ⟨tabs, rd⟩
  refine wpAny_Call_Name_kw (ld_glob I hg hm (PySem.W.callWith_K (h₀ := X.base) I.ok.mod.kin hk ?_ (by rfl) (by rfl)) hdb)
  show wpAny _ _ (spliced ((false, eval (.Lambda ps e sc lp) X.env) :: backTo pos (starEach [] X.env))) _ _ s
  refine Calls.spliced_cons (lam_make2 I TB hcode hT hu tabs hdef (L.has I.ok) fun f c' pm' ctv H1 z I1 eN T1 hf nf ff co => Calls.spliced_nil ⟨I1.kIn, ?_⟩)
  refine wpAny_call (codeAny_mono (R := CR CX0 X.stack X.prog X.w H1 z Q E0) ?_ fun r z2 hq => ?_)
  · refine run_ofS (us := [.ref f]) (vs := [.ref f]) lk hcg Sg hr I1.env0 (hbd z [.ref f] I1.kIn rfl) (.cons rfl .nil) rfl fun hr' => ?_
    obtain ⟨t', ht, q⟩ := give f c' z H1 Q (fun E J Q' => t E σ J Q') (fun W pn xe p1 p2 tk =>
      act_gd (i := 0) I1 L hf nf ff (hba _ _ _ _ _) tk hr' (hG.deeper _) (fun A outer y J E h1 h2 => he A outer y J E f c' h1 h2) h0 hva hd hcd) co (rd H1 eN T1)
    exact ⟨t', ht.nox, q⟩
  · match r, hq with
    | .error er, hq => exact False.elim hq
    | .ok (.ret u), hq => exact I1.after hq
    | .ok .next, hq => exact False.elim hq
    | .ok .brk, hq => exact False.elim hq
    | .ok .cont, hq => exact False.elim hq
end
end Rm

set_option maxRecDepth 100000
set_option maxHeartbeats 4000000
namespace Rm
open PySem PySem.Spec L2
open PyProof.Rows hiding St

/-! ### try: .. with several clauses `except X as n`, of one name n (slot i) -/
/-- behind such a suite the name is gone -/
def offE (i : Nat) (D : Ends) : Ends :=
  { nx := fun τ J => D.nx (τ.set i none) J, rt := D.rt, bk := fun τ J => D.bk (τ.set i none) J, ct := fun τ J => D.ct (τ.set i none) J }
abbrev CT := Value × (Addr → Value → Option Addr → TS)
def wMs (K : PySem.W.Frag) (i : Nat) (Wout : WX) (D : Ends) : List CT → WX
  | [] => Wout
  | (c, ts) :: r => fun cls d τ J => ∃ b, PySem.W.exmOne K cls c = some b ∧ (b = true → ∀ a, J a = none → ts a cls d (offE i D) (τ.set i (some (.ref a))) J) ∧
      (b = false → wMs K i Wout D r cls d τ J)
inductive HdsAs (X : Cx) (n : Str) : List ExceptHandler → List CT → Prop
  | nil : HdsAs X n [] []
  | cons {x : Str} {c : Value} {ts : Addr → Value → Option Addr → TS} {b : Stmt} {bs : List Stmt} {np hp : Pos} {hs : List ExceptHandler} {l : List CT} (nm : Names X x c)
      (su : ∀ (a : Addr) (oe : Obj) (cls : Value) (d : Option Addr) (pn : List (Addr × Obj)), Zc cls d oe → (∃ vs, oe.data = .fields vs) → PSs (X.suite a ((a, oe) :: pn)) (b :: bs) (ts a cls d))
      (r : HdsAs X n hs l) : HdsAs X n (.ExceptHandler (some (.Name x np)) (some n) (b :: bs) hp :: hs) ((c, ts) :: l)
section
variable {X : Cx} {n : Str} {i : Nat} {bd : List Stmt} {h0 : ExceptHandler} {hs : List ExceptHandler} {l : List CT} {pos : Pos} {tb : WX → TS} {Wout : WX}
theorem ps_try_ms (st : X.stack = X.env :: X.outer) (fr : X.env.frame = some X.env.locals) (nd : X.N.Nodup) (ni : X.N[i]? = some n) (lo : X.env.kindOf n = some .local) (tk : Takes X Wout)
    (hb : ∀ (W : WX) (pn : List (Addr × Obj)) (xe : Value → Shared → Prop), Takes (X.tr pn xe) W → PassesOwn (model X.prog X.w) X.A X.env xe → PSs (X.tr pn xe) bd (tb W))
    (hh : HdsAs X n (h0 :: hs) l) : PS X (.Try bd (h0 :: hs) [] [] pos) (fun D τ J => tb (wMs X.K i Wout D l) D τ J) := by
  constructor
  intro pins s σ H D I rd
  have ok := I.ok
  have frames : X.A.frames = some (X.env :: X.outer) := ok.frames.trans (congrArg some st)
  have isLoc : Loc X.env.scope n := .inl lo
  refine wpAny_Try_except ?_
  have body := (hb (wMs X.K i Wout D l) (X.pn ++ pins) (fun e z => wpAny (model X.prog X.w) X.A (noteFrame e X.env) (fun _ z2 => wpAny (model X.prog X.w) X.A (setFlight e none)
    (fun _ z3 => wpAny (model X.prog X.w) X.A (handleBy e X.env (h0 :: hs)) (SP X pins D) X.xe z3) X.xe z2) X.xe z) (fun u z hx => ?_) PassesOwn.looking).run [] s σ H D (I.toTry _) rd
  · refine wpAny_mono body (fun fl z hz => ?_) fun _ _ he => he
    match fl, hz with
    | .next, ⟨τ, J, I2, q⟩ => exact wpAny_execs_nil ⟨τ, J, I2.ofTry ok, q⟩
    | .brk, ⟨τ, J, I2, q⟩ => exact ⟨τ, J, I2.ofTry ok, q⟩
    | .cont, ⟨τ, J, I2, q⟩ => exact ⟨τ, J, I2.ofTry ok, q⟩
    | .ret u, ⟨v, τ, J, I2, r, q⟩ => exact ⟨v, τ, J, I2.ofTry ok, r, q⟩
  · obtain ⟨a, B, sI, pins', τ, J, cls, d, rfl, J', nb, up, sky, na, os, ag, w⟩ := hx
    have Ja : Inv X pins τ J sI := J'.ofTry ok
    have sky2 : Sky B (X.env :: X.outer) a (Zc cls d) X.env.locals z.heap := st ▸ sky
    show wpAny (model X.prog X.w) X.A (noteFrame (.ref a) X.env) _ _ _
    refine Sky.land Zc.steady frames fr sky2 fun h3 fl3 up3 => ?_
    have Jb : Inv X pins τ J { z with heap := h3 } := Ja.landed nb fl3.1 (up.trans up3) os ag
    obtain ⟨o3, v3, e3, z3, d3⟩ := fl3.there
    have off : ∀ {h : Heap} {o : Obj} {vs : Array Value}, h.FunFrames B (X.env :: X.outer) → h.get? a = some o → o.data = .fields vs → a ∉ frs (X.env :: X.outer) := fun ffs e dd hm => by
      obtain ⟨_, o', e', bad⟩ := ffs.mem hm
      rw [e] at e'
      cases e'
      exact bad _ dd
    have away := off fl3.2.2.1 e3 d3
    have aL : a ≠ X.env.locals := fun q => away (List.mem_filterMap.mpr ⟨X.env, .head _, by rw [fr, q]⟩)
    have aF : a ∉ X.fs := fun hm => by
      obtain ⟨en, hen, q⟩ := List.mem_filterMap.mp hm
      exact away (List.mem_filterMap.mpr ⟨en, .tail _ hen, q⟩)
    have Sa := Jb.suite e3 d3 na aL aF
    have walk : ∀ {hs' : List ExceptHandler} {l' : List CT}, HdsAs X n hs' l' → wMs X.K i Wout D l' cls d τ J →
        wpAny (model X.prog X.w) X.A (handleBy (.ref a) X.env hs') (SP X pins D) X.xe { z with heap := h3 } := by
      intro hs' l' hk
      induction hk with
      | nil =>
        intro w
        obtain ⟨k1, k2, k3, oe, vs, T, oT, ts', he, hz, hd, h1, hr⟩ := id fl3
        have out : wpAny (model X.prog X.w) X.A (setFlight (.ref a) X.env.frame) (fun _ z4 => wpAny (model X.prog X.w) X.A (throw (.ref a) : Sem Flow) (SP X pins D) X.xe z4) X.xe { z with heap := h3 } := by
          rw [fr]
          refine HandSPX.setFlight_upZ fl3 fun h4 hh4 up4 => wpAny_throw (tk _ _ ⟨a, B, sI, pins, τ, J, cls, d, rfl, Ja, nb, (up.trans up3).trans up4, .inr (.inr ?_), na, os, ag, w⟩)
          rw [st]
          exact hh4
        refine wpAny_handleBy_nil ?_
        unfold PySem.passOn
        refine wpAny_bind (wpAny_field he hd h1 ?_)
        rw [if_neg (by simp)]
        first
          | exact wpAny_bind (wpAny_pure (wpAny_bind out))
          | exact wpAny_bind out
      | @cons x c ts b bs np hp hs2 l2 nm su r ih =>
        rintro ⟨yes, hyes, w1, w0⟩
        refine wpAny_handleBy_cons (codeAny_handlers_test ?_) (by intro q; cases q)
        have kind : PySem.W.Looks (model X.prog X.w) h3 (typeOf (.ref a)) cls := fun A Q E y k q => wpAny_typeOf_ref (k _ _ e3) (by rw [z3.1]; exact q)
        have look := PySem.W.exm_one (M := model X.prog X.w) (Jb.kIn) kind hyes
        have named : ∀ {Q E : Value → Shared → Prop}, Q c { z with heap := h3 } → wpAny (model X.prog X.w) (X.A.mark (some (.ref a))) (eval (.Name x np) X.env) Q E { z with heap := h3 } := fun {Q E} q => by
          obtain ⟨hg, hdb, hm | ⟨hm, hv, hn⟩⟩ := nm
          · exact ld_glob (X := X.suite a ((a, o3) :: (X.pn ++ pins))) Sa hg hm q hdb
          · exact ld_blt (X := X.suite a ((a, o3) :: (X.pn ++ pins))) Sa hg hm hv q hn hdb
        refine named (look.here ?_)
        cases yes with
        | false =>
          show wpAny _ X.A (handleBy (.ref a) X.env hs2) _ _ _
          exact ih (w0 rfl)
        | true =>
          refine codeAny_handlers_suite_as (HandSPX.lands_againZ fl3 fun h4 fl4 up4 => ?_)
          have Jc : Inv X pins τ J { z with heap := h4 } := Ja.landed nb fl4.1 ((up.trans up3).trans up4) os ag
          obtain ⟨o4, v4, e4, z4, d4⟩ := fl4.there
          have Sb := Jc.suite e4 d4 na aL aF
          refine store_ok (X := X.suite a ((a, o4) :: (X.pn ++ pins))) (v := .ref a) Sb nd ni isLoc rfl (fun z5 S5 => ?_) (.inr lo)
          refine wpAny_mono ((su a o4 cls d (X.pn ++ pins) z4 ⟨_, d4⟩).run [] z5 _ J _ S5 (w1 rfl a na)) (fun fl z6 hz => ?_) (fun _ _ q => False.elim q)
          have past : ∀ {ρ : L2.St} {J6 : Hp} {Q : Shared → Prop}, Inv (X.suite a ((a, o4) :: (X.pn ++ pins))) [] ρ J6 z6 → (∀ z7, Inv X pins (ρ.set i none) J6 z7 → Q z7) →
              wpAny (model X.prog X.w) X.A (do bindName X.env n .none; unbindBehindTheSuite X.env n hp) (fun _ z7 => Q z7) X.xe z6 := fun S6 q => gone_ok (S6.unsuite ok) nd ni lo q
          match fl, hz with
          | .next, ⟨_, _, S6, q⟩ => exact past S6 fun z7 J7 => ⟨_, _, J7, q⟩
          | .brk, ⟨_, _, S6, q⟩ => exact past S6 fun z7 J7 => ⟨_, _, J7, q⟩
          | .cont, ⟨_, _, S6, q⟩ => exact past S6 fun z7 J7 => ⟨_, _, J7, q⟩
          | .ret u, ⟨_, _, _, S6, r6, q⟩ => exact past S6 fun z7 J7 => ⟨_, _, _, J7, r6, q⟩
    exact walk hh w
end
end Rm

set_option maxRecDepth 100000
set_option maxHeartbeats 4000000
namespace Rm
open PySem PySem.Spec L2
open PyProof.Rows hiding St

/-! ### what stays when a table of code objects grows -/
section
variable {C CP a b : Addr} {more : List (Str × V)} {H H' : Hp} {S : FS} {F G : Addr → Prop}
theorem FsA.ext (h : FsA C CP more H a S F) (e : LamX.ExtN H H') : FsA C CP more H' a S F := by
  obtain ⟨ad, hf, hF⟩ := h
  refine ⟨ad, hf.up fun r hr => ?_, hF⟩
  obtain ⟨_, _, dx, dp, h3⟩ := id hf
  have x := h3 r hr
  rw [x]
  refine e _ _ x fun ps q => ?_
  cases r with
  | part i =>
    have q : (match S.parts[i]? with | some p => partO CP (dp i) p | none => HO.lst []) = .tbl ps := q
    split at q <;> cases q
  | _ => cases q
theorem WdA.ext (h : WdA H b S G) (e : LamX.ExtN H H') : WdA H' b S G := by
  obtain ⟨ad, hw, hG⟩ := h
  refine ⟨ad, hw.up fun r hr => ?_, hG⟩
  have x := hw.ex r hr
  rw [x]
  refine e _ _ x fun ps q => ?_
  cases r with
  | part i =>
    have q : (match S.parts[i]? with | some p => HO.dK (wpart p) | none => HO.lst []) = .tbl ps := q
    split at q <;> cases q
  | _ => cases q
end
/-- all that is no table and stands outside stays -/
def FrN (F : Addr → Prop) (H H' : Hp) : Prop := ∀ x u, H x = some u → ¬ F x → (∀ ps, u ≠ .tbl ps) → H' x = some u
theorem FrN.of {F : Addr → Prop} {H H' : Hp} (f : Fr F H H') : FrN F H H' := fun x u h n _ => f x u h n
theorem FrN.ext {F : Addr → Prop} {H H' : Hp} (f : LamX.ExtN H H') : FrN F H H' := fun x u h _ n => f x u h n
/-- nothing stands there but a table -/
def NewN (H : Hp) (x : Addr) : Prop := ∀ u, H x = some u → ∃ ps, u = .tbl ps
theorem NewN.of {H : Hp} {x : Addr} (h : H x = none) : NewN H x := fun u e => by
  rw [h] at e
  cases e
theorem NewN.back {H H1 : Hp} {F : Addr → Prop} {x : Addr} (a : FrN F H H1) (n : ¬ F x) (h : NewN H1 x) : NewN H x := fun u e => by
  by_cases z : ∃ ps, u = .tbl ps
  · exact z
  · exact h u (a x u e n fun ps q => z ⟨ps, q⟩)
theorem FrN.trans {F F' : Addr → Prop} {H H1 H2 : Hp} (a : FrN F H H1) (g : ∀ x, F' x → F x ∨ NewN H x) (b : FrN F' H1 H2) : FrN F H H2 := fun x u h n m =>
  b x u (a x u h n m) (fun z => (g x z).elim n fun e => by
    obtain ⟨ps, q⟩ := e u h
    exact m ps q) m
/-- neither a table nor a code object stands there -/
def Solid (F : Addr → Prop) (H : Hp) : Prop := ∀ x u, F x → H x = some u → (∀ ps, u ≠ .tbl ps) ∧ ∀ g, u ≠ .ext g
theorem tabs_fr {T : List (Addr × Str)} {F : Addr → Prop} {H H' : Hp} (t : LamX.Tabs T H) (fr : Fr F H H') (s : Solid F H) : LamX.Tabs T H' := fun p hp => by
  obtain ⟨ps, h1, h2, h3⟩ := t p hp
  refine ⟨ps, fr _ _ h1 fun z => (s _ _ z h1).1 ps rfl, h2, fun pos cv hc => ?_⟩
  obtain ⟨c, e1, e2⟩ := h3 pos cv hc
  exact ⟨c, e1, fr _ _ e2 fun z => (s _ _ z e2).2 _ rfl⟩
theorem FsA.solid {C CP a : Addr} {more : List (Str × V)} {H : Hp} {S : FS} {F : Addr → Prop} (h : FsA C CP more H a S F) : Solid F H := fun x u hx hu => by
  obtain ⟨ad, hf, hF⟩ := h
  obtain ⟨r, hr, rfl⟩ := (hF x).mp hx
  obtain ⟨_, _, dx, dp, h3⟩ := id hf
  rw [h3 r hr] at hu
  obtain rfl := Option.some.inj hu
  cases r with
  | part i =>
    show (∀ ps, (match S.parts[i]? with | some p => partO CP (dp i) p | none => HO.lst []) ≠ .tbl ps) ∧ ∀ g, (match S.parts[i]? with | some p => partO CP (dp i) p | none => HO.lst []) ≠ .ext g
    split <;> exact ⟨(fun _ q => by cases q), (fun _ q => by cases q)⟩
  | _ => exact ⟨(fun _ q => by cases q), (fun _ q => by cases q)⟩
theorem WdA.solid {b : Addr} {H : Hp} {S : FS} {G : Addr → Prop} (h : WdA H b S G) : Solid G H := fun x u hx hu => by
  obtain ⟨ad, hw, hG⟩ := h
  obtain ⟨r, hr, rfl⟩ := (hG x).mp hx
  rw [hw.ex r hr] at hu
  obtain rfl := Option.some.inj hu
  cases r with
  | part i =>
    show (∀ ps, (match S.parts[i]? with | some p => HO.dK (wpart p) | none => HO.lst []) ≠ .tbl ps) ∧ ∀ g, (match S.parts[i]? with | some p => HO.dK (wpart p) | none => HO.lst []) ≠ .ext g
    split <;> exact ⟨(fun _ q => by cases q), (fun _ q => by cases q)⟩
  | _ => exact ⟨(fun _ q => by cases q), (fun _ q => by cases q)⟩
/-! ### the errors of the class, by kinds -/
structure EXC (K : PySem.W.Frag) (mg : Str → Option Value) (EE : EA) : Prop where
  xf : ∀ k : Ek, XfC K (EE.c k)
  no : ∀ k : Ek, PySem.W.findIn K (.ref (EE.c k)) k.f = some none
  em : ∀ k k' : Ek, PySem.W.exmOne K (.ref (EE.c k)) (.ref (EE.c k')) = some (decide (k = k'))
  ut : mg "UnknownTransaction" = some (.ref EE.ut)
  en : mg "Ended" = some (.ref EE.en)
  pr : mg "Prepared" = some (.ref EE.pr)
  fp : mg "FirstPart" = some (.ref EE.fp)
  so : mg "StillOpen" = some (.ref EE.so)
  tm : mg "TooMany" = some (.ref EE.tm)
  up : mg "UnknownPart" = some (.ref EE.up)
/-- told: what was handed back, or the error's name and value, in a new list -/
def TTd (EE : EA) : (XK → Hp → VK → Prop) → Hp → VK → Prop := fun tl H Q => ∀ E : XK,
  (∀ (k : Ek) (e : Addr) (x : V) (H1 : Hp), H1 e = none → (∀ p H2, H1 p = none → Same H1 H2 → H2 p = some (.lst [.str k.nm, x]) → Q (.ref p) H2) → E (.ref (EE.c k)) (some e) (upd H1 e (.xd [(k.f, x)]))) →
  tl E H fun v H' => 2 ≤ sizeLine ∧ ∀ p, H' p = none → Q (.ref p) (upd H' p (.lst [.str "told", v]))
theorem EF.exm {P : Program} {w : World} {K : PySem.W.Frag} {mg : Str → Option Value} {C M D M' : Addr} {x y x' y' : Str} (e : EF P w K mg C M x y) (e' : EF P w K mg D M' x' y') (hM : D ≠ M) :
    PySem.W.exmOne K (.ref C) (.ref D) = some (decide (D = C)) := by
  have h0 := e'.em
  have h1 := e.mro (D := D)
  rw [decide_eq_false hM, Bool.or_false] at h1
  unfold PySem.W.exmOne PySem.W.kitCls at h0 ⊢
  dsimp only at h0 ⊢
  split at h0
  · rename_i c1
    rw [if_pos c1]
    split at h0
    · rename_i c2
      rw [if_pos c2]
      exact h1
    · cases h0
  · cases h0
/-! ### a def whose code object is known -/
theorem fn_qC {P : Program} {w : World} {K : PySem.W.Frag} {mg : Str → Option Value} {base : Heap} {x qual : Str} {st : Stmt} {f c : Addr} {N ps : List Str} {k : Nat} {sp : Sp}
    {oc kV doc pm ct : Value} {od an : Option Addr} {osl : Array (Option Value)}
    (lk : K.lookup f = some ⟨oc, od, .func (PySem.W.fnOf x qual (defArgs st) (defBody st) (defScope st) .none kV doc pm an (.ref c) ct), osl⟩) (hcd : PySem.W.codeIn K (.ref c) qual = true)
    (S : FnScope N ps (defScope st)) (len : ∀ vs H Q E, sp vs H Q E → vs.length = ps.length)
    (body : ∀ (A : Around) (outer : List Env) (s : Shared) (H : Hp) (vs : List V) (Q : VK) (E : XK), Room k (A.deeper (envOfC qual (defScope st) s.heap.objs.size f (.ref c))) →
      Gd (A.deeper (envOfC qual (defScope st) s.heap.objs.size f (.ref c))) → sp vs H Q E →
      ∃ t, PSs (cxOf CX0 P w K mg base N qual (defScope st) f (.ref c) A outer s H E).nox (defBody st) t ∧ t { nx := fun _ H' => Q .non H', rt := Q } (start N vs) H) :
    FnG P w K mg base CX0 (k + 1) f (PySem.W.fnOf x qual (defArgs st) (defBody st) (defScope st) .none kV doc pm an (.ref c) ct) ps sp := by
  refine ⟨len, fun A outer s H ar us vs Q E hr hG e0 hb r rd => ?_⟩
  have up : ∀ b o, base.get? b = some o → s.heap.get? b = some o := fun b o e => (e0.bs b o e).1
  have kin : K.In s.heap := e0.mod.kin.keeps up
  have free : s.heap.NoLimit := e0.mod.nolimit.keeps up
  refine codeAny_call_function hr.depth (kin _ _ lk) rfl S.co S.gen rfl (PySem.W.codeRec_of kin hcd) (hb _ _ _ _ ?_)
  refine wpAny_newFunctionEnv_cells S.kind (fun ⟨n, v⟩ hy => (S.par n (List.of_mem_zip hy).1).imp id fun q => ⟨q, PySem.W.cellsFrom_some _ _ _ (.inl q)⟩) fun env he s1 z => ?_
  subst he
  refine ⟨free.keeps z.toInCall.keep, codeAny_func ?_⟩
  obtain ⟨t, ht, q⟩ := body A outer s H vs Q E (hr.deeper _) (hG.deeper _) rd
  have I := inv_start (CX := CX0) (E := E) (qual := qual) (f := f) (cd := .ref c) S hr.hd e0 (len _ _ _ _ rd) r z
  refine wpAny_mono (ht.nox.run [] s1 (start N vs) H _ I q) (fun fl s' hs => ?_) fun e s' hs => hs
  match fl, hs with
  | .ret u, ⟨v, τ, J, I2, rv, q⟩ => exact ⟨v, J, I2.os, I2.bare, I2.base, I2.hok, rv, q⟩
  | .next, ⟨τ, J, I2, q⟩ => exact ⟨V.non, J, I2.os, I2.bare, I2.base, I2.hok, rfl, q⟩
  | .brk, ⟨_, _, _, q⟩ => exact False.elim q
  | .cont, ⟨_, _, _, q⟩ => exact False.elim q
end Rm

set_option maxRecDepth 100000
set_option maxHeartbeats 4000000
namespace K08
open PySem PySem.Spec L2 Rm
open PyProof.Rows hiding St
section
variable {EE : EA}
theorem sc__law_told : FnScope ["_law_act", "e"] ["_law_act"] (defScope s__law_told) :=
  ⟨rfl, rfl, rfl, by decide +kernel, rfl, by decide +kernel, by decide +kernel⟩
theorem gives_told {X : Cx} {g : Addr} {cg : Value} {q : Str} (XS : EXC X.K X.mg EE) :
    Gives X "_law_told" "_law_act" q ["_law_act", "e"] (defScope s__law_told) g cg (defBody s__law_told) (TTd EE) := by
  intro f c' s H Q tl act hc h
  have nms : ∀ {x : Str} {a : Addr}, Gl (inG X CX0 ["_law_act", "e"] "_law_told" (defScope s__law_told) g cg s H E0).nox x → (x == ("__debug__" : Str)) = false → X.mg x = some (.ref a) →
      Names (inG X CX0 ["_law_act", "e"] "_law_told" (defScope s__law_told) g cg s H E0).nox x (.ref a) := fun h1 h2 h3 => ⟨h1, h2, .inl h3⟩
  have N_UnknownTransaction := nms (x := "UnknownTransaction") rfl (by decide) XS.ut
  have N_Ended := nms (x := "Ended") rfl (by decide) XS.en
  have N_Prepared := nms (x := "Prepared") rfl (by decide) XS.pr
  have N_FirstPart := nms (x := "FirstPart") rfl (by decide) XS.fp
  have N_StillOpen := nms (x := "StillOpen") rfl (by decide) XS.so
  have N_TooMany := nms (x := "TooMany") rfl (by decide) XS.tm
  have N_UnknownPart := nms (x := "UnknownPart") rfl (by decide) XS.up
  have XF_UnknownTransaction := XS.xf .ut
  have XF_Ended := XS.xf .en
  have XF_Prepared := XS.xf .pr
  have XF_FirstPart := XS.xf .fp
  have XF_StillOpen := XS.xf .so
  have XF_TooMany := XS.xf .tm
  have XF_UnknownPart := XS.xf .up
  have no_UnknownTransaction_value := XS.no .ut
  have no_Ended_number := XS.no .en
  have no_Prepared_number := XS.no .pr
  have no_FirstPart_number := XS.no .fp
  have no_StillOpen_number := XS.no .so
  have no_TooMany_limit := XS.no .tm
  have no_UnknownPart_value := XS.no .up
  refine ⟨_, (pss_one (ps_try_ms (i := 1) rfl rfl sc__law_told.nd rfl rfl takes0 (fun W pn xe tk po => (pss_one (ps_ret (pe_lst (pa_cons pe_str (pa_cons (act W pn xe _ _ tk) pa_nil))))))
      (HdsAs.cons N_UnknownTransaction (fun a oe cls d pn hz hf => (pss_one (ps_ret (pe_lst (pa_cons pe_str (pa_cons (pe_xf XF_UnknownTransaction no_UnknownTransaction_value hz hf (pv 1)) pa_nil))))))
      (HdsAs.cons N_Ended (fun a oe cls d pn hz hf => (pss_one (ps_ret (pe_lst (pa_cons pe_str (pa_cons (pe_xf XF_Ended no_Ended_number hz hf (pv 1)) pa_nil))))))
      (HdsAs.cons N_Prepared (fun a oe cls d pn hz hf => (pss_one (ps_ret (pe_lst (pa_cons pe_str (pa_cons (pe_xf XF_Prepared no_Prepared_number hz hf (pv 1)) pa_nil))))))
      (HdsAs.cons N_FirstPart (fun a oe cls d pn hz hf => (pss_one (ps_ret (pe_lst (pa_cons pe_str (pa_cons (pe_xf XF_FirstPart no_FirstPart_number hz hf (pv 1)) pa_nil))))))
      (HdsAs.cons N_StillOpen (fun a oe cls d pn hz hf => (pss_one (ps_ret (pe_lst (pa_cons pe_str (pa_cons (pe_xf XF_StillOpen no_StillOpen_number hz hf (pv 1)) pa_nil))))))
      (HdsAs.cons N_TooMany (fun a oe cls d pn hz hf => (pss_one (ps_ret (pe_lst (pa_cons pe_str (pa_cons (pe_xf XF_TooMany no_TooMany_limit hz hf (pv 1)) pa_nil))))))
      (HdsAs.cons N_UnknownPart (fun a oe cls d pn hz hf => (pss_one (ps_ret (pe_lst (pa_cons pe_str (pa_cons (pe_xf XF_UnknownPart no_UnknownPart_value hz hf (pv 1)) pa_nil))))))
      HdsAs.nil))))))))), ?_⟩
  refine ⟨rfl, hc, h _ (fun k e x H1 ne hq => ?_)⟩
  refine ⟨_, XS.em k .ut, fun y a na => ?_, fun yut => ⟨_, XS.em k .en, fun y a na => ?_, fun yen => ⟨_, XS.em k .pr, fun y a na => ?_, fun ypr => ⟨_, XS.em k .fp, fun y a na => ?_, fun yfp => ⟨_, XS.em k .so, fun y a na => ?_, fun yso => ⟨_, XS.em k .tm, fun y a na => ?_, fun ytm => ⟨_, XS.em k .up, fun y a na => ?_, fun yup => (by cases k <;> first | exact absurd yut (by decide) | exact absurd yen (by decide) | exact absurd ypr (by decide) | exact absurd yfp (by decide) | exact absurd yso (by decide) | exact absurd ytm (by decide) | exact absurd yup (by decide))⟩⟩⟩⟩⟩⟩⟩
  all_goals
    have y' := of_decide_eq_true y
    subst y'
    refine ⟨_, rfl, rfl, rfl, e, _, x, rfl, upd_same, rfl, (show 2 ≤ sizeLine by decide), fun p np => ?_⟩
    exact hq p _ (none_of (same_new ne) np) ((same_new ne).trans (same_new np)) upd_same
end
end K08

set_option maxRecDepth 100000
set_option maxHeartbeats 4000000
namespace Rm
open PySem PySem.Spec L2
open PyProof.Rows hiding St

/-! ### what both are asked: a word, and a number or nothing -/
def oD : Option Int → PyData
  | none => .none
  | some i => .int i
theorem dx_oI {K : PySem.W.Frag} {H : Hp} (o : Option Int) : Dx K H (oI o) (oD o) := by
  cases o with
  | none => exact .non
  | some i => exact .int i
def Wd.kvO : Wd → Ek → Option Int → Option Int
  | .begin, _, _ => some 8
  | _, .tm, _ => some 5
  | _, _, o => o
theorem kv_oI {wd : Wd} {k : Ek} {o : Option Int} : wd.kv k (oI o) = oI (wd.kvO k o) := by
  cases wd <;> cases k <;> rfl
def Wd.resO : Wd → FS → Option Int
  | .begin, S => some ((S.states.length : Int) + 1)
  | .save, S => some ((S.parts.length : Int) + 1)
  | _, _ => none
theorem res_oI {wd : Wd} {S : FS} : wd.res S = oI (wd.resO S) := by
  cases wd <;> rfl
def SvO (o : Option Int) : Prop := ∀ i, o = some i → 0 ≤ i ∧ i < 1000000000
theorem SvO.sv {o : Option Int} (h : SvO o) : Sv (oD o) := by
  cases o with
  | none => exact Sv.of (by decide +kernel)
  | some i => exact Sv.int (h i rfl).1 (h i rfl).2
theorem svO_kv {wd : Wd} {k : Ek} {o : Option Int} (h : SvO o) : SvO (wd.kvO k o) := by
  cases wd <;> cases k <;> first | exact h | (intro i e; cases e; decide)
theorem svO_res {wd : Wd} {S : FS} {m : Nat} (f : S.Few m) (hm : m ≤ 900) : SvO (wd.resO S) := by
  have h1 := f.n
  have h2 := f.p
  cases wd <;> intro i e <;> first | (cases e; done) | (have e := Option.some.inj e; omega)
theorem sm_two {z : Str} {o : Option Int} (hz : Sv (.str z)) (h : SvO o) : Sm (.list [.str z, oD o]) :=
  (sm_seq (ds := [.str z, oD o]) (fun d hd => by
    rcases List.mem_cons.mp hd with rfl | hd
    · exact hz
    · rw [List.mem_singleton.mp hd]
      exact h.sv) (show 2 ≤ 40 by decide)).1
theorem sv_nm : ∀ k : Ek, Sv (.str k.nm) := fun k => by
  cases k <;> exact Sv.of (by decide +kernel)
theorem sv_told : Sv (.str "told") := Sv.of (by decide +kernel)
theorem dx_two {K : PySem.W.Frag} {H : Hp} {p : Addr} {z : Str} {o : Option Int} (h : H p = some (.lst [.str z, oI o])) : Dx K H (.ref p) (.list [.str z, oD o]) :=
  .lst (.inl (.inl h)) (.cons (.str _) (.cons (dx_oI o) .nil))
theorem dp_two {K : PySem.W.Frag} {H : Hp} {p : Addr} {z : Str} {o : Option Int} (h : H p = some (.lst [.str z, oI o])) : Dp K H (.ref p) (.list [.str z, oD o]) :=
  .lst (.inl (.inl h)) (.cons (.str _) (.cons (by cases o with
    | none => exact .non
    | some i => exact .int i) .nil))
theorem nm_ok : ∀ k : Ek, PyData.strOk k.nm = true := fun k => by
  cases k <;> decide +kernel
theorem shaped_two {z : Str} (hz : PyData.strOk z = true) (o : Option Int) : SeqAt.shaped (.list [.str z, oD o]) = true := by
  unfold SeqAt.shaped
  cases o <;> simp [oD, hz, PyData.canLay0, PyData.canLayAll0, PyData.depth, PyData.depthAll]
theorem er_num {wd : Wd} {S : FS} {d : PyData} (h : wd.er S d = none) (hn : wd.num = true) : ∃ i : Nat, d = .int ((i : Int) + 1) ∧ i < S.states.length := by
  refine FS.kn_none ?_
  cases wd with
  | begin => cases hn
  | crash => cases hn
  | save => exact (FS.ru_none (FS.fr_none (fr_of_sav h)).1).1
  | release => exact (FS.ru_none (FS.fr_none (fr_of_tk h)).1).1
  | back => exact (FS.ru_none (FS.fr_none (fr_of_tk h)).1).1
  | commit => exact (FS.ru_none h).1
  | abort => exact (FS.ru_none h).1
  | prepare => exact (FS.ru_none (FS.fr_none (fr_of_pr h)).1).1
end Rm

set_option maxRecDepth 100000
set_option maxHeartbeats 4000000
namespace K08
open PySem PySem.Spec L2 Rm
open PyProof.Rows hiding St
section
variable {P : Program} {w : World} {K : PySem.W.Frag} {mg : Str → Option Value} {base : Heap} {C CP : Addr} {more : List (Str × V)} {EE : EA}
theorem sc__law_both : FnScope ["_law_fates", "_law_world_here", "_law_word", "_law_number", "_law_due", "_law_found"] ["_law_fates", "_law_world_here", "_law_word", "_law_number"] (defScope s__law_both) :=
  ⟨rfl, rfl, rfl, by decide +kernel, rfl, by decide +kernel, by decide +kernel⟩
def spBoth (K : PySem.W.Frag) (C CP : Addr) (more : List (Str × V)) (T : List (Addr × Str)) : Sp := fun vs H Q _ => ∃ a b wd o S F G, vs = [.ref a, .ref b, .str (Wd.s wd), oI o] ∧ FsA C CP more H a S F ∧ WdA H b S G ∧ (∀ y, F y → ¬ G y) ∧ SvO o ∧
  S.Inv ∧ S.Few 700 ∧ S.Cap ∧ S.states.length < 63 ∧ LamX.Tabs (T) H ∧
  ∀ H' S' F' G', (((∃ k, wd.er S (oD o) = some k) ∧ S' = S) ∨ ∃ i : Nat, (wd.num = true → o = some ((i : Int) + 1)) ∧ wd.can S i ∧ S' = wd.op S i) → FsA C CP more H' a S' F' → WdA H' b S' G' → (∀ y, F' y → ¬ G' y) → FrN (fun y => F y ∨ G y) H H' → (∀ y, F' y ∨ G' y → (F y ∨ G y) ∨ NewN H y) → LamX.Tabs (T) H' → Q (.bl true) H'
theorem ok_both {T : List (Addr × Str)} {f c Pt g : Addr} {oc kV dc pm ct oc2 kV2 dc2 pm2 cd2 ct2 : Value} {od an od2 an2 : Option Addr} {sl sl2 : Array (Option Value)}
    (lk : K.lookup f = some ⟨oc, od, .func (PySem.W.fnOf "_law_both" "_law_both" (defArgs s__law_both) (defBody s__law_both) (defScope s__law_both) .none kV dc pm an (.ref c) ct), sl⟩)
    (hcd : PySem.W.codeIn K (.ref c) "_law_both" = true) (TB : LamX.TabB base mg c Pt) (hT : (Pt, (("_law_both" : Str) ++ ".<locals>.") ++ "<lambda>") ∈ T) (huT : ∀ y ∈ T, y.1 = Pt → y.2 = (("_law_both" : Str) ++ ".<locals>.") ++ "<lambda>") (B : Bl mg) (XS : EXC K mg EE)
    (m_told : mg "_law_told" = some (.ref g)) (k_told : PySem.W.keepIn K (.ref g) = true)
    (l_told : K.lookup g = some ⟨oc2, od2, .func (PySem.W.fnOf "_law_told" "_law_told" (defArgs s__law_told) (defBody s__law_told) (defScope s__law_told) .none kV2 dc2 pm2 an2 cd2 ct2), sl2⟩)
    (c_told : PySem.W.codeIn K cd2 "_law_told" = true) (b_told : L2.Binds K (PySem.W.fnOf "_law_told" "_law_told" (defArgs s__law_told) (defBody s__law_told) (defScope s__law_told) .none kV2 dc2 pm2 an2 cd2 ct2) ["_law_act"] [])
    (D__law_refusal : Ce P w K mg base CX0 2 "_law_refusal" ["_law_world_here", "_law_word", "_law_number"] (spRefu K))
    (D__law_call : Ce P w K mg base (L2.CX P w) 9 "_law_call" ["_law_fates", "_law_word", "_law_number"] (spCallW K C CP more EE))
    (D__law_done : Ce P w K mg base CX0 2 "_law_done" ["_law_world_here", "_law_word", "_law_number"] spDone) :
    FnG P w K mg base CX0 12 f (PySem.W.fnOf "_law_both" "_law_both" (defArgs s__law_both) (defBody s__law_both) (defScope s__law_both) .none kV dc pm an (.ref c) ct) ["_law_fates", "_law_world_here", "_law_word", "_law_number"] (spBoth K C CP more T) := by
  refine fn_qC lk hcd sc__law_both (fun vs H Q E h => ?_) (fun A outer s H vs Q E hr hG h => ?_)
  · obtain ⟨a, b, wd, o, S, F, G, rfl, _⟩ := h
    rfl
  · obtain ⟨a, b, wd, o, S, F, G, rfl, hA, hB, dj, so, inv, few, cap, h63, tabs, q⟩ := h
    have hu := hu_of hr
    refine ⟨_, (pss_cons (ps_set (i := 4) sc__law_both.nd rfl (Or.inl rfl) (pe_ce D__law_refusal (hr.mono (by decide)) hG (pa_cons (pv 1) (pa_cons (pv 2) (pa_cons (pv 3) pa_nil))) pass0))
      (pss_cons (ps_set (i := 5) sc__law_both.nd rfl (Or.inl rfl) (pe_lamG (k := 9) m_told k_told l_told c_told b_told sc__law_told (gives_told XS) TB hT huT (hr.mono (by decide)) hG (fun A outer z J E f c' hr2 hG2 => pe_ce D__law_call hr2 hG2 (pa_cons (pv 0) (pa_cons (pv 2) (pa_cons (pv 3) pa_nil))) (passes_call (takes_of rfl rfl rfl rfl) (fun _ _ _ _ h => h))) (LamX.lamS_by (sc := defScope s__law_both) (by decide +kernel))))
      (pss_cons (ps_if (pt_cmpR (op_eqD hr.units) (pv 4) (pe_lst pa_nil) (nomark _)) (pss_one (ps_set (i := 4) sc__law_both.nd rfl (Or.inl rfl) (pe_lst (pa_cons pe_str (pa_cons (pe_ce D__law_done (hr.mono (by decide)) hG (pa_cons (pv 1) (pa_cons (pv 2) (pa_cons (pv 3) pa_nil))) pass0) pa_nil))))) pss_nil)
      (pss_one (ps_ret (pe_cmpR op_eq (pe_callB (call_rep hG hr.units) (by rfl) B.n_repr (by decide +kernel) (pa_cons (pv 5) pa_nil)) (pe_callB (call_rep hG hr.units) (by rfl) B.n_repr (by decide +kernel) (pa_cons (pv 4) pa_nil)) (nomark _))))))), ?_⟩
    have wf := inv.wf few (by decide)
    refine ⟨_, rfl, _, rfl, _, rfl, b, wd, oI o, oD o, S, G, rfl, hB, dx_oI o, inv, cap, by omega, fun y H1 ny hy s1 => ?_⟩
    refine ⟨tabs.ext s1, fun H2 eN T2 E2 hE => ?_⟩
    have e12 : LamX.ExtN H H2 := (LamX.ExtN.of s1).trans eN
    have hA2 := hA.ext e12
    have hB2 := hB.ext e12
    have hy2 : H2 y = some (.lst (wd.due S (oD o) (oI o))) := eN _ _ hy (fun ps z => by cases z)
    have nF : ¬ F y := fun z => by
      obtain ⟨u, hu'⟩ := hA.on y z
      rw [ny] at hu'
      cases hu'
    refine ⟨_, rfl, _, rfl, _, rfl, a, wd, oI o, oD o, S, F, rfl, hA2, dx_oI o, wf, fun k hk H3 s3 e ne => ?_, fun i hi her H3 F3 hA3 fr3 gr3 => ?_⟩
    · refine hE k e _ H3 ne fun p H4 np s4 hp => ?_
      have hy4 := s4 _ _ (s3 _ _ hy2)
      rw [due_of hk rfl, kv_oI] at hy4
      rw [kv_oI] at hp
      refine ⟨_, rfl, (show 0 ≤ sizeLine by decide), fun l nl => ?_⟩
      have s5 := same_new (o := .lst []) nl
      have eD : PyData.eqv (.list [.str k.nm, oD (wd.kvO k o)]) (.list []) = false := by
        simp [PyData.eqv, PyData.eqvAll]
      refine ⟨.list [.str k.nm, oD (wd.kvO k o)], .list [], dp_two (s5 _ _ hy4), .lst (.inl (.inl upd_same)) .nil, shaped_two (nm_ok k) _, shaped_ints [], _, rfl, ite2 (fun c => ?_) fun _ => ?_⟩
      · rw [eD] at c
        cases c
      have z := q (upd H4 l (.lst [])) S F G (.inl ⟨⟨k, hk⟩, rfl⟩) (((hA2.same s3).same s4).same s5) (((hB2.same s3).same s4).same s5) dj (fun x u h _ m => s5 _ _ (s4 _ _ (s3 _ _ (e12 x u h m)))) (fun x hx => .inl hx) (((T2.ext s3).ext s4).ext s5)
      refine ⟨_, rfl, .ref p, _, rfl, dx_two (s5 _ _ hp), sm_two (sv_nm k) (svO_kv so), _, rfl, .ref y, _, rfl, dx_two (s5 _ _ hy4), sm_two (sv_nm k) (svO_kv so), rfl, ?_⟩
      simpa using z
    · have on : wd.num = true → o = some ((i : Int) + 1) := fun h => by
        have e := (hi h).1
        cases o with
        | none => cases e
        | some z => exact congrArg some (PyData.int.inj e)
      have can : wd.can S i := ⟨by
        cases hn : wd.num with
        | true =>
          rw [← (hi hn).1]
          exact her
        | false =>
          cases wd <;> first | exact her | exact absurd hn (by decide), fun h => (hi h).2⟩
      rw [due_none her] at hy2
      refine ⟨(show 2 ≤ sizeLine by decide), fun p np => ?_⟩
      rw [res_oI]
      have hB3 := hB2.frame fr3 fun x hx z => dj x z hx
      have hy3 := fr3 y _ hy2 nF
      have s4 := same_new (o := .lst [V.str "told", oI (wd.resO S)]) np
      have hp4 : upd H3 p (.lst [V.str "told", oI (wd.resO S)]) p = some (.lst [V.str "told", oI (wd.resO S)]) := upd_same
      have pG : ¬ G p := fun z => by
        obtain ⟨u, hu'⟩ := hB3.on p z
        rw [np] at hu'
        cases hu'
      generalize upd H3 p (.lst [V.str "told", oI (wd.resO S)]) = H4 at s4 hp4 ⊢
      refine ⟨_, rfl, (show 0 ≤ sizeLine by decide), fun l nl => ?_⟩
      have s5 := s4.trans (same_new (o := .lst []) nl)
      have hp5 := same_new (o := .lst []) nl _ _ hp4
      have eD : PyData.eqv (.list []) (.list []) = true := by decide +kernel
      refine ⟨.list [], .list [], .lst (.inl (.inl (s5 _ _ hy3))) .nil, .lst (.inl (.inl upd_same)) .nil, shaped_ints [], shaped_ints [], _, rfl, ite2 (fun _ => ?_) fun c => absurd eD c⟩
      have hA5 := hA3.same s5
      have hB5 := hB3.same s5
      generalize upd H4 l (.lst []) = H5 at s5 hp5 hA5 hB5 ⊢
      have hn' : wd.num = true → oI o = .int ((i : Int) + 1) ∧ i < S.states.length ∧ wd.er S (.int ((i : Int) + 1)) = none := fun h => by
        obtain ⟨h1, h2⟩ := hi h
        refine ⟨?_, h2, can.1⟩
        cases o with
        | none => cases h1
        | some n =>
          have := PyData.int.inj h1
          rw [this]
          rfl
      refine ⟨_, rfl, _, rfl, _, rfl, b, wd, oI o, i, S, G, rfl, hB5, inv, few.mono (by decide), by omega, hn', fun H6 G6 hB6 fr6 gr6 => ⟨(show 2 ≤ sizeLine by decide), fun p2 np2 => ?_⟩⟩
      rw [res_oI]
      have s7 := same_new (o := .lst [V.str "told", oI (wd.resO S)]) np2
      have hp7 := s7 _ _ (fr6 _ _ hp5 pG)
      have hq7 : upd H6 p2 (.lst [V.str "told", oI (wd.resO S)]) p2 = some (.lst [V.str "told", oI (wd.resO S)]) := upd_same
      have d3 : ∀ x, F3 x → ¬ G x := fun x hx hg => by
        rcases gr3 x hx with z | z
        · exact dj x z hg
        · obtain ⟨u, hu'⟩ := hB2.on x hg
          rw [z] at hu'
          cases hu'
      have d6 : ∀ x, F3 x → ¬ G6 x := fun x hx hg => by
        rcases gr6 x hg with z | z
        · exact d3 x hx z
        · obtain ⟨u, hu'⟩ := hA5.on x hx
          rw [z] at hu'
          cases hu'
      have n25 : ∀ x, H5 x = none → H2 x = none ∨ F x := fun x h => by
        by_cases hF : F x
        · exact .inr hF
        · cases e : H2 x with
          | none => exact .inl rfl
          | some u =>
            have := s5 _ _ (fr3 _ _ e hF)
            rw [h] at this
            cases this
      have new2 : ∀ x, H2 x = none → NewN H x := fun x h => NewN.back (F := fun _ => False) (FrN.ext e12) (fun z => z) (NewN.of h)
      have z := q (upd H6 p2 (.lst [V.str "told", oI (wd.resO S)])) (wd.op S i) F3 G6 (.inr ⟨i, on, can, rfl⟩) ((hA5.frame fr6 d3).same s7) (hB6.same s7) d6
        (fun x u h n m => s7 _ _ (fr6 _ _ (s5 _ _ (fr3 _ _ (e12 x u h m) fun z => n (.inl z))) fun z => n (.inr z)))
        (fun x hx => by
          rcases hx with hx | hx
          · rcases gr3 x hx with z | z
            · exact .inl (.inl z)
            · exact .inr (new2 x z)
          · rcases gr6 x hx with z | z
            · exact .inl (.inr z)
            · rcases n25 x z with z | z
              · exact .inr (new2 x z)
              · exact .inl (.inl z)) ?_
      · refine ⟨_, rfl, .ref p, _, rfl, dx_two hp7, sm_two sv_told (svO_res few (by decide)), _, rfl, .ref p2, _, rfl, dx_two hq7, sm_two sv_told (svO_res few (by decide)), rfl, ?_⟩
        simpa using z
      · exact (tabs_fr ((tabs_fr T2 fr3 hA2.solid).ext s5) fr6 hB5.solid).ext s7
end
end K08

set_option maxRecDepth 100000
set_option maxHeartbeats 4000000
namespace Rm
open PySem PySem.Spec L2
open PyProof.Rows hiding St

/-! ### the root of a part -/
structure FS.Tree (S : FS) : Prop where
  up : ∀ (j : Nat) (p : PI) (q : Int), S.parts[j]? = some p → p.outer = some q → 1 ≤ q ∧ q ≤ (j : Int)
  rl : ∀ (j : Nat) (p : PI), S.parts[j]? = some p → p.released.isSome = true → p.outer.isSome = true
def rootN (S : FS) : Nat → Int → Int
  | 0, q => q
  | n + 1, q => match S.parts[(q - 1).toNat]? with
    | some p => if p.released.isSome then rootN S n (p.outer.getD 0) else q
    | none => q
def FS.root (S : FS) (q : Int) : Int := rootN S q.toNat q
theorem rootN_more {S : FS} (t : S.Tree) : ∀ (n : Nat) (q : Int), 1 ≤ q → q ≤ (n : Int) → ∀ m, n ≤ m → rootN S m q = rootN S n q
  | 0, q, h1, h2, _, _ => by omega
  | n + 1, q, h1, h2, m, hm => by
    obtain ⟨m, rfl⟩ : ∃ k, m = k + 1 := ⟨m - 1, by omega⟩
    show (match S.parts[(q - 1).toNat]? with | some p => if p.released.isSome then rootN S m (p.outer.getD 0) else q | none => q) = (match S.parts[(q - 1).toNat]? with | some p => if p.released.isSome then rootN S n (p.outer.getD 0) else q | none => q)
    cases e : S.parts[(q - 1).toNat]? with
    | none => rfl
    | some p =>
      dsimp only
      by_cases r : p.released.isSome = true
      · rw [if_pos r, if_pos r]
        obtain ⟨o, ho⟩ := Option.isSome_iff_exists.mp (t.rl _ _ e r)
        obtain ⟨u1, u2⟩ := t.up _ _ _ e ho
        rw [ho]
        exact rootN_more t n o u1 (by omega) m (by omega)
      · rw [if_neg r, if_neg r]
theorem root_here {S : FS} {j : Nat} {p : PI} (h : S.parts[j]? = some p) (r : p.released = none) : S.root ((j : Int) + 1) = (j : Int) + 1 := by
  unfold FS.root
  rw [show ((j : Int) + 1).toNat = j + 1 by omega]
  show (match S.parts[((j : Int) + 1 - 1).toNat]? with | some p => if p.released.isSome then rootN S j (p.outer.getD 0) else (j : Int) + 1 | none => (j : Int) + 1) = _
  rw [show ((j : Int) + 1 - 1).toNat = j by omega, h]
  simp [r]
theorem root_up {S : FS} (t : S.Tree) {j : Nat} {p : PI} {o : Int} (h : S.parts[j]? = some p) (r : p.released.isSome = true) (ho : p.outer = some o) : S.root ((j : Int) + 1) = S.root o := by
  obtain ⟨u1, u2⟩ := t.up _ _ _ h ho
  unfold FS.root
  rw [show ((j : Int) + 1).toNat = j + 1 by omega]
  show (match S.parts[((j : Int) + 1 - 1).toNat]? with | some p => if p.released.isSome then rootN S j (p.outer.getD 0) else (j : Int) + 1 | none => (j : Int) + 1) = _
  rw [show ((j : Int) + 1 - 1).toNat = j by omega, h]
  dsimp only
  rw [if_pos r, ho]
  exact rootN_more t o.toNat o u1 (by omega) j (by omega)
def FS.kp (S : FS) (d : PyData) : Option Ek := if isW 1 S.parts.length d then none else some .up
theorem FS.kp_none {S : FS} {d : PyData} (h : S.kp d = none) : ∃ i : Nat, d = .int ((i : Int) + 1) ∧ i < S.parts.length := by
  unfold FS.kp at h
  split at h
  · rename_i hw
    obtain ⟨z, rfl, h1, h2⟩ := isW_int hw
    exact ⟨(z - 1).toNat, by congr 1; omega, by omega⟩
  · cases h
/-- a part is asked: what it tells, or UnknownPart -/
def spPt (K : PySem.W.Frag) (C CP : Addr) (more : List (Str × V)) (EE : EA) (g : FS → Int → V) : Sp := fun vs H Q E => ∃ a x d S F, vs = [.ref a, x] ∧ FsA C CP more H a S F ∧ Dx K H x d ∧ S.Wf ∧ S.Tree ∧
  (∀ k, S.kp d = some k → ∀ H', Same H H' → Out EE E H' k x) ∧ ∀ i : Nat, d = .int ((i : Int) + 1) → i < S.parts.length → ∀ H', Same H H' → Q (g S ((i : Int) + 1)) H'
/-- the root is a part -/
theorem root_is {S : FS} (t : S.Tree) : ∀ (n j : Nat), j < n → j < S.parts.length → ∃ i : Nat, S.root ((j : Int) + 1) = (i : Int) + 1 ∧ i < S.parts.length
  | 0, j, h, _ => absurd h (Nat.not_lt_zero _)
  | n + 1, j, h, hj => by
    have hp := List.getElem?_eq_getElem hj
    cases r : S.parts[j].released with
    | none => exact ⟨j, root_here hp r, hj⟩
    | some v =>
      have hr : S.parts[j].released.isSome = true := by rw [r]; rfl
      obtain ⟨o, ho⟩ := Option.isSome_iff_exists.mp (t.rl _ _ hp hr)
      obtain ⟨u1, u2⟩ := t.up _ _ _ hp ho
      obtain ⟨i, rfl⟩ : ∃ i : Nat, o = (i : Int) + 1 := ⟨(o - 1).toNat, by omega⟩
      rw [root_up t hp hr ho]
      exact root_is t n i (by omega) (by omega)
def FS.out (S : FS) (q : Int) : Str := ((S.parts[(q - 1).toNat]?).map PI.outcome).getD ""
theorem out_at {S : FS} {i : Nat} (h : i < S.parts.length) : S.out ((i : Int) + 1) = S.parts[i].outcome := by
  unfold FS.out
  rw [Int.add_sub_cancel, Int.toNat_natCast, List.getElem?_eq_getElem h]
  rfl
end Rm

set_option maxRecDepth 100000
set_option maxHeartbeats 4000000
namespace K08
open PySem PySem.Spec L2 Rm
open PyProof.Rows hiding St
section
variable {P : Program} {w : World} {K : PySem.W.Frag} {mg : Str → Option Value} {base : Heap} {C CP : Addr} {more : List (Str × V)} {EE : EA}
theorem sc_Fates_is_part : FnScope ["self", "part"] ["self", "part"] (defScope s_Fates_is_part) :=
  ⟨rfl, rfl, rfl, by decide +kernel, rfl, by decide +kernel, by decide +kernel⟩
theorem ok_isP {f : Addr} {fd : FuncData} (F0 : Fun K "is_part" "Fates.is_part" s_Fates_is_part f fd) (B : Bl mg) (FCC : FC K C)
    (D_is_within : Ce P w K mg base CX0 2 "is_within" ["value", "least", "most"] (spWi K)) :
    FnG P w K mg base CX0 3 f fd ["self", "part"] (spIsT K C CP more fun S => S.parts.length) := by
  refine fn_q F0 sc_Fates_is_part (fun vs H Q E h => ?_) (fun cdv A outer s H vs Q E hr hG h => ?_)
  · obtain ⟨a, x, d, S, F, rfl, _⟩ := h
    rfl
  · obtain ⟨a, x, d, S, F, rfl, ⟨ad, hf, hF⟩, hx, q⟩ := h
    have hu := hu_of hr
    refine ⟨_, (pss_one (ps_ret (pe_ce D_is_within (hr.mono (by decide)) hG (pa_cons (pv 1) (pa_cons pe_int (pa_cons (pe_callB call_len_seq (by rfl) B.n_len (by decide +kernel) (pa_cons (pe_fld (pv 0) rfl) pa_nil)) pa_nil))) pass0))), ?_⟩
    obtain ⟨dx, lk⟩ := hf.look
    refine ⟨_, rfl, _, rfl, a, C, dx, _, _, rfl, lk.o, FCC.cls, FCC.n5, rfl, _, _, rfl, .inl (.inl (.inl lk.p)), x, d, 1, S.parts.length, by simp, hx, q⟩
theorem sc_Fates__check_part : FnScope ["self", "part"] ["self", "part"] (defScope s_Fates__check_part) :=
  ⟨rfl, rfl, rfl, by decide +kernel, rfl, by decide +kernel, by decide +kernel⟩
theorem ok_checkpart {f : Addr} {fd : FuncData} (F0 : Fun K "_check_part" "Fates._check_part" s_Fates__check_part f fd) (mo : MO more)
    (M_Fates_is_part : Cm P w K mg base CX0 3 C "is_part" ["self", "part"] (spIsT K C CP more fun S => S.parts.length)) (X_UnknownPart : Er P w K mg base "UnknownPart" EE.up "value") :
    FnG P w K mg base (L2.CX P w) 4 f fd ["self", "part"] (spAsk K C CP more EE FS.kp) := by
  refine fn_in F0 sc_Fates__check_part (fun vs H Q E h => ?_) (fun cdv A outer s H vs Q E hr hG h => ?_)
  · obtain ⟨a, x, d, S, F, rfl, _⟩ := h
    rfl
  · obtain ⟨a, x, d, S, F, rfl, hA, hx, hsz, q, e⟩ := h
    have hu := hu_of hr
    refine ⟨_, (pss_one (ps_if (pt_not (pt_val (pe_cm M_Fates_is_part (hr.mono (by decide)) hG (pv 0) (pa_cons (pv 1) pa_nil) pass0))) (pss_one (ps_raise rfl (takes_of rfl rfl rfl rfl) (pmk_er X_UnknownPart (hr.mono (by decide)) hG (pv 1)))) pss_nil)), ?_⟩
    obtain ⟨ad, hf, hF⟩ := id hA
    obtain ⟨dx, lk⟩ := hf.look
    refine ⟨_, rfl, a, dx, _, rfl, lk.o, mo.free (by decide +kernel), _, rfl, a, x, d, S, F, rfl, hA, hx, ?_⟩
    cases e1 : isW 1 S.parts.length d with
    | false => exact ⟨_, rfl, _, rfl, x, rfl, e .up (by simp [FS.kp, e1]) _ (.refl _)⟩
    | true => exact ⟨_, rfl, q (by simp [FS.kp, e1]) _ (.refl _)⟩
theorem sc_Fates_transaction : FnScope ["self", "part"] ["self", "part"] (defScope s_Fates_transaction) :=
  ⟨rfl, rfl, rfl, by decide +kernel, rfl, by decide +kernel, by decide +kernel⟩
theorem ok_transaction {f : Addr} {fd : FuncData} (F0 : Fun K "transaction" "Fates.transaction" s_Fates_transaction f fd) (FCC : FC K C) (PCC : PC K CP) (mo : MO more)
    (M_Fates__check_part : Cm P w K mg base (L2.CX P w) 4 C "_check_part" ["self", "part"] (spAsk K C CP more EE FS.kp)) :
    FnG P w K mg base (L2.CX P w) 5 f fd ["self", "part"] (spPt K C CP more EE fun S q => .int ((S.parts[(q - 1).toNat]?).map PI.holder |>.getD 0)) := by
  refine fn_in F0 sc_Fates_transaction (fun vs H Q E h => ?_) (fun cdv A outer s H vs Q E hr hG h => ?_)
  · obtain ⟨a, x, d, S, F, rfl, _⟩ := h
    rfl
  · obtain ⟨a, x, d, S, F, rfl, hA, hx, wf, tr, e, q⟩ := h
    have hu := hu_of hr
    refine ⟨_, (pss_cons (ps_expr (pe_cm M_Fates__check_part (hr.mono (by decide)) hG (pv 0) (pa_cons (pv 1) pa_nil) (passes_call (takes_of rfl rfl rfl rfl) (fun _ _ _ _ h => h))))
      (pss_one (ps_ret (pe_fld (pe_ix ix_list (pe_fld (pv 0) rfl) (pe_op op_sub (pv 1) pe_int) (fun _ _ => rfl)) rfl)))), ?_⟩
    obtain ⟨ad, hf, hF⟩ := id hA
    obtain ⟨dx, lk⟩ := hf.look
    refine ⟨_, rfl, a, dx, _, rfl, lk.o, mo.free (by decide +kernel), _, rfl, a, x, d, S, F, rfl, hA, hx, Nat.le_trans wf.n (by decide), fun hk H1 s1 => ?_, e⟩
    obtain ⟨j, rfl, hj⟩ := FS.kp_none hk
    cases hx
    have hf1 := hf.same s1
    obtain ⟨dx1, lk1⟩ := hf1.look
    have hp := List.getElem?_eq_getElem hj
    obtain ⟨dp, hd⟩ := hf1.prt hp
    refine ⟨_, rfl, a, C, dx1, _, _, rfl, lk1.o, FCC.cls, FCC.n5, rfl, _, rfl, _, _, rfl, rfl, ad .parts, _, _, .ref (ad (.part j)), rfl, rfl, .inl (.inl lk1.p), refs_atI hj, ?_⟩
    refine ⟨_, CP, dp, _, _, rfl, hd, PCC.cls, PCC.n0, rfl, ?_⟩
    have z := q j rfl hj H1 s1
    dsimp only at z
    rw [Int.add_sub_cancel, Int.toNat_natCast, hp] at z
    exact z
theorem sc_Fates_root : FnScope ["self", "part"] ["self", "part"] (defScope s_Fates_root) :=
  ⟨rfl, rfl, rfl, by decide +kernel, rfl, by decide +kernel, by decide +kernel⟩
theorem ok_root {f : Addr} {fd : FuncData} (F0 : Fun K "root" "Fates.root" s_Fates_root f fd) (FCC : FC K C) (PCC : PC K CP) (mo : MO more)
    (M_Fates__check_part : Cm P w K mg base (L2.CX P w) 4 C "_check_part" ["self", "part"] (spAsk K C CP more EE FS.kp)) :
    FnG P w K mg base (L2.CX P w) 5 f fd ["self", "part"] (spPt K C CP more EE fun S q => .int (S.root q)) := by
  refine fn_in F0 sc_Fates_root (fun vs H Q E h => ?_) (fun cdv A outer s H vs Q E hr hG h => ?_)
  · obtain ⟨a, x, d, S, F, rfl, _⟩ := h
    rfl
  · obtain ⟨a, x, d, S, F, rfl, hA, hx, wf, tr, e, q⟩ := h
    have hu := hu_of hr
    refine ⟨_, (pss_cons (ps_expr (pe_cm M_Fates__check_part (hr.mono (by decide)) hG (pv 0) (pa_cons (pv 1) pa_nil) (passes_call (takes_of rfl rfl rfl rfl) (fun _ _ _ _ h => h))))
      (pss_cons (ps_while (passes_of rfl) (pt_cmpR op_notN (pe_fld (pe_ix ix_list (pe_fld (pv 0) rfl) (pe_op op_sub (pv 1) pe_int) (fun _ _ => rfl)) rfl) pe_non (nomark _)) (pss_one (ps_set (i := 1) sc_Fates_root.nd rfl (Or.inl rfl) (pe_fld (pe_ix ix_list (pe_fld (pv 0) rfl) (pe_op op_sub (pv 1) pe_int) (fun _ _ => rfl)) rfl))))
      (pss_one (ps_ret (pv 1))))), ?_⟩
    obtain ⟨ad, hf, hF⟩ := id hA
    obtain ⟨dx, lk⟩ := hf.look
    refine ⟨_, rfl, a, dx, _, rfl, lk.o, mo.free (by decide +kernel), _, rfl, a, x, d, S, F, rfl, hA, hx, Nat.le_trans wf.n (by decide), fun hk H1 s1 => ?_, e⟩
    obtain ⟨j0, rfl, hj0⟩ := FS.kp_none hk
    cases hx
    have hf1 := hf.same s1
    obtain ⟨dx1, lk1⟩ := hf1.look
    refine ⟨fun m σ H' => ∃ j : Nat, m = j ∧ j < S.parts.length ∧ σ = [some (.ref a), some (.int ((j : Int) + 1))] ∧ S.root ((j : Int) + 1) = S.root ((j0 : Int) + 1) ∧ H' = H1, ⟨j0, j0, rfl, hj0, rfl, rfl, rfl⟩, ?_⟩
    rintro j σ H2 ⟨_, rfl, hj, rfl, er, rfl⟩
    have hp := List.getElem?_eq_getElem hj
    obtain ⟨dp, hd⟩ := hf1.prt hp
    refine ⟨_, rfl, a, C, dx1, _, _, rfl, lk1.o, FCC.cls, FCC.n5, rfl, _, rfl, _, _, rfl, rfl, ad .parts, _, _, .ref (ad (.part j)), rfl, rfl, .inl (.inl lk1.p), refs_atI hj, ?_⟩
    refine ⟨_, CP, dp, _, _, rfl, hd, PCC.cls, PCC.n2, rfl, rfl, _, rfl, ite2 (fun c => ?_) fun c => ?_⟩
    · have hr : S.parts[j].released.isSome = true := by
        cases y : S.parts[j].released with
        | none => rw [y] at c; simp [oI] at c
        | some _ => rfl
      obtain ⟨o, ho⟩ := Option.isSome_iff_exists.mp (tr.rl _ _ hp hr)
      obtain ⟨u1, u2⟩ := tr.up _ _ _ hp ho
      obtain ⟨i, rfl⟩ : ∃ i : Nat, o = (i : Int) + 1 := ⟨(o - 1).toNat, by omega⟩
      refine ⟨fun σ' H' => σ' = [some (.ref a), some (.int ((i : Int) + 1))] ∧ H' = H2, ?_, ?_⟩
      · rintro σ' H' ⟨rfl, rfl⟩
        exact ⟨i, by omega, i, rfl, by omega, rfl, (root_up tr hp hr ho).symm.trans er, rfl⟩
      · refine ⟨_, rfl, a, C, dx1, _, _, rfl, lk1.o, FCC.cls, FCC.n5, rfl, _, rfl, _, _, rfl, rfl, ad .parts, _, _, .ref (ad (.part j)), rfl, rfl, .inl (.inl lk1.p), refs_atI hj, ?_⟩
        refine ⟨_, CP, dp, _, _, rfl, hd, PCC.cls, PCC.n1, rfl, ?_⟩
        refine ⟨?_, rfl⟩
        rw [ho]
        rfl
    · have hr : S.parts[j].released = none := by
        cases y : S.parts[j].released with
        | none => rfl
        | some _ => rw [y] at c; simp [oI] at c
      refine ⟨_, rfl, ?_⟩
      have z := q j0 rfl hj0 H2 s1
      dsimp only at z
      rw [← er, root_here hp hr] at z
      exact z
theorem sc_Fates_owner : FnScope ["self", "part", "root"] ["self", "part"] (defScope s_Fates_owner) :=
  ⟨rfl, rfl, rfl, by decide +kernel, rfl, by decide +kernel, by decide +kernel⟩
theorem ok_owner {f : Addr} {fd : FuncData} (F0 : Fun K "owner" "Fates.owner" s_Fates_owner f fd) (FCC : FC K C) (PCC : PC K CP) (mo : MO more)
    (M_Fates_root : Cm P w K mg base (L2.CX P w) 5 C "root" ["self", "part"] (spPt K C CP more EE fun S q => .int (S.root q))) :
    FnG P w K mg base (L2.CX P w) 6 f fd ["self", "part"] (spPt K C CP more EE fun S q => if S.out (S.root q) = "open" then .int (S.root q) else .non) := by
  refine fn_in F0 sc_Fates_owner (fun vs H Q E h => ?_) (fun cdv A outer s H vs Q E hr hG h => ?_)
  · obtain ⟨a, x, d, S, F, rfl, _⟩ := h
    rfl
  · obtain ⟨a, x, d, S, F, rfl, hA, hx, wf, tr, e, q⟩ := h
    have hu := hu_of hr
    refine ⟨_, (pss_cons (ps_set (i := 2) sc_Fates_owner.nd rfl (Or.inl rfl) (pe_cm M_Fates_root (hr.mono (by decide)) hG (pv 0) (pa_cons (pv 1) pa_nil) (passes_call (takes_of rfl rfl rfl rfl) (fun _ _ _ _ h => h))))
      (pss_one (ps_ret (pe_ifExp (pt_cmpR op_eq (pe_fld (pe_ix ix_list (pe_fld (pv 0) rfl) (pe_op op_sub (pv 2) pe_int) (fun _ _ => rfl)) rfl) pe_str (nomark _)) (pv 2) pe_non)))), ?_⟩
    obtain ⟨ad, hf, hF⟩ := id hA
    obtain ⟨dx, lk⟩ := hf.look
    refine ⟨_, rfl, a, dx, _, rfl, lk.o, mo.free (by decide +kernel), _, rfl, a, x, d, S, F, rfl, hA, hx, wf, tr, e, fun j0 ej hj0 H1 s1 => ?_⟩
    subst ej
    have hf1 := hf.same s1
    obtain ⟨dx1, lk1⟩ := hf1.look
    obtain ⟨i, er, hi⟩ := root_is tr (j0 + 1) j0 (Nat.lt_succ_self _) hj0
    have z := q j0 rfl hj0 H1 s1
    dsimp only at z
    rw [er] at z
    rw [out_at hi] at z
    dsimp only
    rw [er]
    have hp := List.getElem?_eq_getElem hi
    obtain ⟨dp, hd⟩ := hf1.prt hp
    refine ⟨_, rfl, a, C, dx1, _, _, rfl, lk1.o, FCC.cls, FCC.n5, rfl, _, rfl, _, _, rfl, rfl, ad .parts, _, _, .ref (ad (.part i)), rfl, rfl, .inl (.inl lk1.p), refs_atI hi, ?_⟩
    refine ⟨_, CP, dp, _, _, rfl, hd, PCC.cls, PCC.n4, rfl, rfl, _, rfl, ite2 (fun c => ?_) fun c => ?_⟩
    · rw [if_pos (V.str.inj (of_decide_eq_true c))] at z
      exact ⟨_, rfl, z⟩
    · rw [if_neg (fun y => c (decide_eq_true (by rw [y])))] at z
      exact z
theorem sc_Fates_fate : FnScope ["self", "part"] ["self", "part"] (defScope s_Fates_fate) :=
  ⟨rfl, rfl, rfl, by decide +kernel, rfl, by decide +kernel, by decide +kernel⟩
theorem ok_fate {f : Addr} {fd : FuncData} (F0 : Fun K "fate" "Fates.fate" s_Fates_fate f fd) (FCC : FC K C) (PCC : PC K CP) (mo : MO more)
    (M_Fates_root : Cm P w K mg base (L2.CX P w) 5 C "root" ["self", "part"] (spPt K C CP more EE fun S q => .int (S.root q))) :
    FnG P w K mg base (L2.CX P w) 6 f fd ["self", "part"] (spPt K C CP more EE fun S q => .str (S.out (S.root q))) := by
  refine fn_in F0 sc_Fates_fate (fun vs H Q E h => ?_) (fun cdv A outer s H vs Q E hr hG h => ?_)
  · obtain ⟨a, x, d, S, F, rfl, _⟩ := h
    rfl
  · obtain ⟨a, x, d, S, F, rfl, hA, hx, wf, tr, e, q⟩ := h
    have hu := hu_of hr
    refine ⟨_, (pss_one (ps_ret (pe_fld (pe_ix ix_list (pe_fld (pv 0) rfl) (pe_op op_sub (pe_cm M_Fates_root (hr.mono (by decide)) hG (pv 0) (pa_cons (pv 1) pa_nil) (passes_call (takes_of rfl rfl rfl rfl) (fun _ _ _ _ h => h))) pe_int) (fun _ _ => rfl)) rfl))), ?_⟩
    obtain ⟨ad, hf, hF⟩ := id hA
    obtain ⟨dx, lk⟩ := hf.look
    refine ⟨_, rfl, a, C, dx, _, _, rfl, lk.o, FCC.cls, FCC.n5, rfl, _, rfl, a, dx, _, rfl, lk.o, mo.free (by decide +kernel), _, rfl, a, x, d, S, F, rfl, hA, hx, wf, tr, e, fun j0 ej hj0 H1 s1 => ?_⟩
    subst ej
    have hf1 := hf.same s1
    obtain ⟨dx1, lk1⟩ := hf1.look
    obtain ⟨i, er, hi⟩ := root_is tr (j0 + 1) j0 (Nat.lt_succ_self _) hj0
    have z := q j0 rfl hj0 H1 s1
    dsimp only at z
    rw [er] at z
    rw [out_at hi] at z
    dsimp only
    rw [er]
    have hp := List.getElem?_eq_getElem hi
    obtain ⟨dp, hd⟩ := hf1.prt hp
    refine ⟨_, _, rfl, rfl, ad .parts, _, _, .ref (ad (.part i)), rfl, rfl, .inl (.inl lk1.p), refs_atI hi, ?_⟩
    exact ⟨_, CP, dp, _, _, rfl, hd, PCC.cls, PCC.n4, rfl, z⟩
end
end K08

set_option maxRecDepth 100000
set_option maxHeartbeats 4000000
namespace Rm
open PySem PySem.Spec L2
open PyProof.Rows hiding St

/-! ### a program's Fates and the law's own record, side by side, turn by turn -/
abbrev noneF : Addr → Prop := fun _ => False
structure Wk (C CP : Addr) (T : List (Addr × Str)) (Hs H : Hp) (t a b : Addr) (S : FS) (F G : Addr → Prop) (n : Nat) : Prop where
  fs : FsA C CP [] H a S F
  wd : WdA H b S G
  dj : ∀ y, F y → ¬ G y
  tape : ∃ o, H t = some o ∧ IsTape o
  nF : ¬ F t
  nG : ¬ G t
  inv : S.Inv
  few : S.Few n
  cap : S.Cap
  tabs : LamX.Tabs T H
  fr : FrN noneF Hs H
  new : ∀ y, F y ∨ G y → NewN Hs y
  newt : NewN Hs t
section
variable {C CP : Addr} {T : List (Addr × Str)} {Hs H H' : Hp} {t a b : Addr} {S S' : FS} {F G F' G' : Addr → Prop} {n : Nat}
theorem Wk.same (k : Wk C CP T Hs H t a b S F G n) (s : Same H H') : Wk C CP T Hs H' t a b S F G n :=
  { k with fs := k.fs.same s, wd := k.wd.same s, tape := (let ⟨o, h, r⟩ := k.tape; ⟨o, s _ _ h, r⟩), tabs := k.tabs.ext s, fr := fun x u h n m => s _ _ (k.fr x u h n m) }
theorem tape_solid {t : Addr} {H : Hp} (h : ∃ o, H t = some o ∧ IsTape o) : Solid (· = t) H := fun x u e hu => by
  subst e
  obtain ⟨o, ho, dg, mx, rfl, _⟩ := h
  rw [ho] at hu
  obtain rfl := Option.some.inj hu
  exact ⟨(fun _ q => by cases q), (fun _ q => by cases q)⟩
theorem NewN.off {H : Hp} {x y : Addr} {u : HO} (h : NewN H x) (e : H y = some u) (n : ∀ ps, u ≠ .tbl ps) : y ≠ x := fun q => by
  subst q
  obtain ⟨ps, z⟩ := h u e
  exact n ps z
theorem Wk.nxt (k : Wk C CP T Hs H t a b S F G n) (N : Nxt t H H') : Wk C CP T Hs H' t a b S F G n :=
  { k with
    fs := k.fs.frame N.fr (fun x hx e => k.nF (by rw [← e]; exact hx))
    wd := k.wd.nxt N k.nG
    tape := N.tape
    tabs := tabs_fr k.tabs N.fr (tape_solid k.tape)
    fr := fun x u h n m => N.keep x u (k.fr x u h n m) (k.newt.off h m) }
theorem Wk.both (k : Wk C CP T Hs H t a b S F G n) (h : S' = S ∨ ∃ wd i, Wd.can wd S i ∧ S' = wd.op S i) (hf : FsA C CP [] H' a S' F') (hw : WdA H' b S' G') (dj : ∀ y, F' y → ¬ G' y)
    (fr : FrN (fun y => F y ∨ G y) H H') (gr : ∀ y, F' y ∨ G' y → (F y ∨ G y) ∨ NewN H y) (tabs : LamX.Tabs T H') : Wk C CP T Hs H' t a b S' F' G' (n + 1) := by
  obtain ⟨o, ho, ht⟩ := id k.tape
  have nt : ∀ ps, o ≠ .tbl ps := (tape_solid k.tape t o rfl ho).1
  have off : ∀ y, F' y ∨ G' y → y ≠ t := fun y hy e => by
    subst e
    rcases gr _ hy with z | z
    · exact z.elim k.nF k.nG
    · exact z.off ho nt rfl
  refine ⟨hf, hw, dj, ⟨o, fr t o ho (fun z => z.elim k.nF k.nG) nt, ht⟩, fun z => off t (.inl z) rfl, fun z => off t (.inr z) rfl, ?_, ?_, ?_, tabs, ?_, fun y hy => ?_, k.newt⟩
  · rcases h with rfl | ⟨wd, i, c, rfl⟩
    · exact k.inv
    · exact op_inv k.inv c
  · rcases h with rfl | ⟨wd, i, c, rfl⟩
    · exact k.few.mono (Nat.le_succ _)
    · exact op_few k.inv k.few
  · rcases h with rfl | ⟨wd, i, c, rfl⟩
    · exact k.cap
    · exact op_cap k.inv k.cap c
  · exact k.fr.trans (F' := fun y => F y ∨ G y) (fun x hx => .inr (k.new x hx)) fr
  · rcases gr y hy with z | z
    · exact k.new y z
    · exact NewN.back k.fr (fun z => z) z
end
theorem few_zero : FS.zero.Few 0 := ⟨Nat.le_refl _, Nat.le_refl _, fun l hl => by simp [FS.zero] at hl⟩
theorem cap_zero : FS.zero.Cap := ⟨Nat.zero_le _, fun l hl => by simp [FS.zero] at hl⟩
theorem sq_frn {K : PySem.W.Frag} {H H' : Hp} {a : Addr} {xs : List V} (f : FrN noneF H H') (h : SqL K H a xs) : SqL K H' a xs :=
  h.elim (fun h => .inl (h.elim (fun h => .inl (f _ _ h (fun z => z) fun _ q => by cases q)) fun ⟨o, h⟩ => .inr ⟨o, f _ _ h (fun z => z) fun _ q => by cases q⟩)) .inr
/-- what the law is asked where a def of it makes a lambda -/
def spLawT (K : PySem.W.Frag) (T : List (Addr × Str)) : Sp := fun vs H Q _ => ∃ (a : Addr) (ns : List Int), vs = [.ref a] ∧ SqL K H a (ns.map V.int) ∧ ns.length ≤ 63 ∧
  (∀ n ∈ ns, Builtin.Int.intBits n ≤ 1048576) ∧ LamX.Tabs T H ∧ ∀ H', Q (.bl true) H'
end Rm

set_option maxRecDepth 100000
set_option maxHeartbeats 4000000
namespace Rm
open PySem PySem.Spec L2
open PyProof.Rows hiding St

theorem tree_zero : FS.zero.Tree := ⟨fun j p q h => by simp [FS.zero] at h, fun j p h => by simp [FS.zero] at h⟩
theorem FS.Tree.of {S S' : FS} (t : S.Tree) (e : S'.parts = S.parts) : S'.Tree := ⟨fun j p q h => t.up j p q (e ▸ h), fun j p h => t.rl j p (e ▸ h)⟩
theorem FS.Tree.mdP {S : FS} (t : S.Tree) {q : Int} {f : PI → PI} (ho : ∀ p, (f p).outer = p.outer) (hr : ∀ p, S.parts[(q - 1).toNat]? = some p → (f p).released.isSome = true → p.outer.isSome = true) : (S.mdP q f).Tree := by
  have at_ : ∀ {j : Nat} {p : PI}, (S.mdP q f).parts[j]? = some p → ∃ p0, S.parts[j]? = some p0 ∧ ((p = f p0 ∧ j = (q - 1).toNat) ∨ p = p0) := fun {j p} h => by
    have h : (S.parts.modify (q - 1).toNat f)[j]? = some p := h
    rw [List.getElem?_modify] at h
    cases e : S.parts[j]? with
    | none => rw [e] at h; simp at h
    | some p0 =>
      rw [e] at h
      simp only [Option.map_eq_map, Option.map_some, Option.some.injEq] at h
      refine ⟨p0, rfl, ?_⟩
      split at h
      · rename_i hh
        exact .inl ⟨h.symm, hh.symm⟩
      · exact .inr h.symm
  refine ⟨fun j p o h hp => ?_, fun j p h hp => ?_⟩
  · obtain ⟨p0, e, r⟩ := at_ h
    rcases r with ⟨rfl, _⟩ | rfl
    · rw [ho] at hp
      exact t.up j p0 o e hp
    · exact t.up j p o e hp
  · obtain ⟨p0, e, r⟩ := at_ h
    rcases r with ⟨rfl, rfl⟩ | rfl
    · rw [ho]
      exact hr p0 e hp
    · exact t.rl j p e hp
theorem FS.Tree.endP {S : FS} (t : S.Tree) {q : Int} {z : Str} : (S.endP q z).Tree := t.mdP (fun _ => rfl) fun p h hr => t.rl _ p h hr
theorem FS.Tree.endAll {z : Str} : ∀ (l : List Int) {S : FS}, S.Tree → (S.endAll z l).Tree
  | [], _, t => t
  | q :: l, S, t => FS.Tree.endAll l (S := S.endP q z) t.endP
theorem FS.Tree.endT {S : FS} (t : S.Tree) {i : Nat} {st z : Str} : (S.endT i st z).Tree := (FS.Tree.endAll (z := z) (S.stacks.getD i []) t).of rfl
theorem FS.Tree.crF : ∀ (l : List Int) {S : FS}, S.Tree → (crF S l).Tree
  | [], _, t => t
  | k :: l, S, t => FS.Tree.crF l (S := S.endT (k - 1).toNat "aborted" "rolled back") t.endT
theorem FS.Tree.opn {S : FS} (t : S.Tree) {i : Nat} {o : Option Int} (ho : ∀ q, o = some q → 1 ≤ q ∧ q ≤ (S.parts.length : Int)) : (S.opn i o).Tree := by
  have at_ : ∀ {j : Nat} {p : PI}, (S.opn i o).parts[j]? = some p → S.parts[j]? = some p ∨ (j = S.parts.length ∧ p = ⟨(i : Int) + 1, o, none, none, "open"⟩) := fun {j p} h => by
    have h : (S.parts ++ [⟨(i : Int) + 1, o, none, none, "open"⟩])[j]? = some p := h
    by_cases hj : j < S.parts.length
    · rw [List.getElem?_append_left hj] at h
      exact .inl h
    · rw [List.getElem?_append_right (by omega)] at h
      have : j - S.parts.length = 0 := by
        have := (List.getElem?_eq_some_iff.mp h).1
        simp at this
        omega
      rw [this] at h
      simp at h
      exact .inr ⟨by omega, h.symm⟩
  refine ⟨fun j p q h hp => ?_, fun j p h hp => ?_⟩
  · rcases at_ h with h | ⟨rfl, rfl⟩
    · exact t.up j p q h hp
    · exact ho q hp
  · rcases at_ h with h | ⟨rfl, rfl⟩
    · exact t.rl j p h hp
    · cases hp
theorem op_tree {wd : Wd} {S : FS} {i : Nat} (inv : S.Inv) (t : S.Tree) (c : wd.can S i) : (wd.op S i).Tree := by
  have stk : ∀ (hi : i < S.states.length), S.stacks.getD i [] ∈ S.stacks := fun hi => by
    have hl : i < S.stacks.length := by rw [inv.ls]; exact hi
    rw [List.getD_eq_getElem?_getD, List.getElem?_eq_getElem hl]
    exact List.getElem_mem hl
  have nel : ∀ (hi : i < S.states.length), S.fr (.int ((i : Int) + 1)) = none → S.stacks.getD i [] ≠ [] := fun hi hf => by
    have hl : i < S.stacks.length := by rw [inv.ls]; exact hi
    have e : S.stacks[i]? = some (S.stacks.getD i []) := by
      rw [List.getD_eq_getElem?_getD, List.getElem?_eq_getElem hl]
      rfl
    exact inv.ne i _ _ (FS.st_at hi) (FS.ru_none (FS.fr_none hf).1).2 e
  cases wd with
  | begin => exact FS.Tree.opn (S := { S with done := S.done + 1, states := S.states ++ [("running" : Str)], stacks := S.stacks ++ [[]], work := S.work ++ [(S.states.length : Int) + 1] }) (t.of rfl) (fun q h => by cases h)
  | crash => exact FS.Tree.crF _ (S := S.cnt) (t.of rfl)
  | save =>
    refine FS.Tree.opn (S := S.cnt) (t.of rfl) fun q h => ?_
    cases h
    exact inv.kp _ (stk (c.2 rfl)) _ (lastI_mem (nel (c.2 rfl) (fr_of_sav c.1)))
  | release =>
    refine FS.Tree.mdP (S := S.tk i) (t.of rfl) (fun _ => rfl) fun p h _ => ?_
    have hn := nel (c.2 rfl) (fr_of_tk c.1)
    have l1 := len_of_tk c.1
    rw [sk_at] at l1
    have l2 : 2 ≤ (S.stacks.getD i []).length := by
      have := List.length_pos_iff.mpr hn
      omega
    obtain ⟨q', hq', _⟩ := last2_at l2
    have := inv.ch _ (stk (c.2 rfl)) ((S.stacks.getD i []).length - 2) (lastI (S.stacks.getD i [])) q' hq' (by
      have := lastI_ix hn
      rwa [show (S.stacks.getD i []).length - 2 + 1 = (S.stacks.getD i []).length - 1 by omega]) p h
    rw [this]
    rfl
  | back => exact FS.Tree.endP (S := S.tk i) (t.of rfl)
  | commit => exact FS.Tree.endT (S := { S.cnt with moment := S.moment + 1 }) (t.of rfl)
  | abort => exact FS.Tree.endT (S := S.cnt) (t.of rfl)
  | prepare => exact t.of rfl
end Rm

set_option maxRecDepth 100000
set_option maxHeartbeats 4000000
namespace Rm
open PySem PySem.Spec L2
open PyProof.Rows hiding St
section
variable {H : Hp} {b : Addr} {S : FS} {ad : Wo → Addr} {i : Nat} {p : PI}
theorem WdAt.gto (h : WdAt H b S ad) (hi : S.parts[i]? = some p) : DGet H (ad (.part i)) (.str "to") (some (oI p.to)) := by
  have e := DGet.k (k := Sum.inr ("to" : Str)) (h.prt hi)
  unfold wpart at e
  rw [valV_neg (kne w_ot), valV_neg (kne w_art), valV_pos rfl] at e
  exact e
theorem w_ofa : ¬ (("of" : Str) = "fate") := w_of
theorem WdAt.gfate (h : WdAt H b S ad) (hi : S.parts[i]? = some p) : DGet H (ad (.part i)) (.str "fate") (some (.str p.outcome)) := by
  have e := DGet.k (k := Sum.inr ("fate" : Str)) (h.prt hi)
  unfold wpart at e
  rw [valV_neg (kne w_of), valV_neg (kne w_af), valV_neg (kne w_tf), valV_neg (kne w_atf), valV_pos rfl] at e
  exact e
end
end Rm

set_option maxRecDepth 100000
set_option maxHeartbeats 4000000
namespace Rm
open PySem PySem.Spec L2
open PyProof.Rows hiding St

/-! ### the parts of the law's own record, read while a walk goes through them -/
structure WdR (H : Hp) (b : Addr) (S : FS) (pd : Addr) (f : Nat → Addr) : Prop where
  ob : ∃ r e, H b = some (.dK (wobj pd r e S))
  pt : Rd H pd (.dK (kr f S.parts.length))
  ex : ∀ i p, S.parts[i]? = some p → H (f i) = some (.dK (wpart p))
theorem WdAt.rd {H : Hp} {b : Addr} {S : FS} {ad : Wo → Addr} (h : WdAt H b S ad) : WdR H b S (ad .parts) fun i => ad (.part i) :=
  ⟨⟨_, _, h.ob⟩, .inl (h.ex .parts trivial), fun i p hp => h.prt hp⟩
section
variable {H H' : Hp} {b pd : Addr} {S : FS} {f : Nat → Addr} {i : Nat} {p : PI}
theorem WdR.same (h : WdR H b S pd f) (s : Same H H') : WdR H' b S pd f := by
  obtain ⟨⟨r, e, ho⟩, hp, hx⟩ := h
  exact ⟨⟨r, e, s _ _ ho⟩, hp.elim (fun h => .inl (s _ _ h)) fun ⟨o, h⟩ => .inr ⟨o, s _ _ h⟩, fun i p q => s _ _ (hx i p q)⟩
theorem WdR.gp (h : WdR H b S pd f) : DGet H b (.str "parts") (some (.ref pd)) := by
  obtain ⟨⟨r, e, ho⟩, _, _⟩ := h
  exact op_of ho
theorem WdR.gpart (h : WdR H b S pd f) (hi : i < S.parts.length) : DGet H pd (.int ((i : Int) + 1)) (some (.ref (f i))) :=
  .inl ⟨_, .inl ((i : Int) + 1), h.pt, rfl, (kr_at hi).symm⟩
theorem wp_at {k : Str} {v : Option V} (h : WdR H b S pd f) (hi : S.parts[i]? = some p) (e : valV (wpart p) (.inr k) = v) : DGet H (f i) (.str k) v :=
  .inl ⟨_, .inr k, .inl (h.ex i p hi), rfl, e.symm⟩
theorem wv_of : valV (wpart p) (.inr "of") = some (.int p.holder) := by simp [wpart, valV]
theorem wv_around : valV (wpart p) (.inr "around") = some (oI p.outer) := by
  unfold wpart
  rw [valV_neg (kne (by decide +kernel)), valV_pos rfl]
theorem wv_to : valV (wpart p) (.inr "to") = some (oI p.to) := by
  unfold wpart
  rw [valV_neg (kne w_ot), valV_neg (kne w_art), valV_pos rfl]
theorem wv_at : valV (wpart p) (.inr "at") = some (oI p.released) := by
  unfold wpart
  rw [valV_neg (kne (by decide +kernel)), valV_neg (kne (by decide +kernel)), valV_neg (kne (by decide +kernel)), valV_pos rfl]
theorem wv_fate : valV (wpart p) (.inr "fate") = some (.str p.outcome) := by
  unfold wpart
  rw [valV_neg (kne w_of), valV_neg (kne w_af), valV_neg (kne w_tf), valV_neg (kne w_atf), valV_pos rfl]
theorem wv_ended : valV (wpart p) (.inr "ended") = some (oI p.ended) := by
  unfold wpart
  rw [valV_neg (kne (by decide +kernel)), valV_neg (kne (by decide +kernel)), valV_neg (kne (by decide +kernel)), valV_neg (kne (by decide +kernel)), valV_neg (kne (by decide +kernel)), valV_pos rfl]
theorem WdR.gto (h : WdR H b S pd f) (hi : S.parts[i]? = some p) : DGet H (f i) (.str "to") (some (oI p.to)) := wp_at h hi wv_to
theorem WdR.gfate (h : WdR H b S pd f) (hi : S.parts[i]? = some p) : DGet H (f i) (.str "fate") (some (.str p.outcome)) := wp_at h hi wv_fate
end
theorem kp_in {S : FS} {i : Nat} (hi : i < S.parts.length) : S.kp (.int ((i : Int) + 1)) = none := by
  unfold FS.kp isW
  have h1 : (1 : Int) ≤ (i : Int) + 1 := by omega
  have h2 : (i : Int) + 1 ≤ (S.parts.length : Int) := by omega
  rw [if_pos (by show (decide ((1 : Int) ≤ (i : Int) + 1) && decide ((i : Int) + 1 ≤ (S.parts.length : Int))) = true; rw [decide_eq_true h1, decide_eq_true h2]; rfl)]
/-! ### how large what a part knows may be -/
structure PI.Ok (p : PI) (m : Nat) : Prop where
  h : 0 ≤ p.holder ∧ p.holder ≤ m
  o : ∀ q, p.outer = some q → 0 ≤ q ∧ q ≤ m
  r : ∀ q, p.released = some q → 0 ≤ q ∧ q ≤ m
  e : ∀ q, p.ended = some q → 0 ≤ q ∧ q ≤ m
  z : p.outcome = "open" ∨ p.outcome = "rolled back" ∨ p.outcome = "committed"
structure FS.Bnd (S : FS) (m : Nat) : Prop where
  d : 0 ≤ S.done ∧ S.done ≤ m
  p : ∀ p ∈ S.parts, p.Ok m
theorem PI.Ok.mono {p : PI} {m n : Nat} (h : p.Ok m) (l : m ≤ n) : p.Ok n := by
  have l' : (m : Int) ≤ n := by omega
  exact ⟨⟨h.h.1, Int.le_trans h.h.2 l'⟩, fun q e => ⟨(h.o q e).1, Int.le_trans (h.o q e).2 l'⟩, fun q e => ⟨(h.r q e).1, Int.le_trans (h.r q e).2 l'⟩, fun q e => ⟨(h.e q e).1, Int.le_trans (h.e q e).2 l'⟩, h.z⟩
theorem FS.Bnd.mono {S : FS} {m n : Nat} (h : S.Bnd m) (l : m ≤ n) : S.Bnd n := ⟨⟨h.d.1, by have := h.d.2; omega⟩, fun p hp => (h.p p hp).mono l⟩
theorem bnd_zero : FS.zero.Bnd 0 := ⟨⟨by decide, by decide⟩, fun p hp => by simp [FS.zero] at hp⟩
theorem mem_modify {l : List PI} {n : Nat} {f : PI → PI} {p : PI} (h : p ∈ l.modify n f) : p ∈ l ∨ ∃ p0 ∈ l, p = f p0 := by
  obtain ⟨j, hj⟩ := List.getElem?_of_mem h
  rw [List.getElem?_modify] at hj
  cases e : l[j]? with
  | none => rw [e] at hj; simp at hj
  | some p0 =>
    rw [e] at hj
    simp only [Option.map_eq_map, Option.map_some, Option.some.injEq] at hj
    split at hj
    · exact .inr ⟨p0, List.mem_of_getElem? e, hj.symm⟩
    · exact .inl (hj ▸ List.mem_of_getElem? e)
theorem FS.Bnd.mdP {S : FS} {m : Nat} (b : S.Bnd m) {q : Int} {f : PI → PI} (hf : ∀ p : PI, p.Ok m → (f p).Ok m) : (S.mdP q f).Bnd m :=
  ⟨b.d, fun p hp => (mem_modify hp).elim (b.p p) fun ⟨p0, h, e⟩ => e ▸ hf _ (b.p p0 h)⟩
def EndZ (z : Str) : Prop := z = "rolled back" ∨ z = "committed"
theorem FS.Bnd.endP {S : FS} {m : Nat} (b : S.Bnd m) {q : Int} {z : Str} (hz : EndZ z) : (S.endP q z).Bnd m :=
  b.mdP fun p h => ⟨h.h, h.o, h.r, fun q e => by cases e; exact b.d, .inr hz⟩
theorem FS.Bnd.of {S S' : FS} {m : Nat} (b : S.Bnd m) (hd : S'.done = S.done) (hp : S'.parts = S.parts) : S'.Bnd m := ⟨hd ▸ b.d, hp ▸ b.p⟩
theorem FS.Bnd.endAll {z : Str} {m : Nat} (hz : EndZ z) : ∀ (l : List Int) {S : FS}, S.Bnd m → (S.endAll z l).Bnd m
  | [], _, b => b
  | q :: l, S, b => FS.Bnd.endAll hz l (S := S.endP q z) (b.endP hz)
theorem FS.Bnd.endT {S : FS} {m : Nat} (b : S.Bnd m) {i : Nat} {st z : Str} (hz : EndZ z) : (S.endT i st z).Bnd m := (FS.Bnd.endAll hz (S.stacks.getD i []) b).of rfl rfl
theorem FS.Bnd.crF {m : Nat} : ∀ (l : List Int) {S : FS}, S.Bnd m → (crF S l).Bnd m
  | [], _, b => b
  | k :: l, S, b => FS.Bnd.crF l (S := S.endT (k - 1).toNat "aborted" "rolled back") (b.endT (.inl rfl))
theorem FS.Bnd.opn {S : FS} {m i : Nat} {o : Option Int} (b : S.Bnd m) (hi : i + 1 ≤ m) (ho : ∀ q, o = some q → 0 ≤ q ∧ q ≤ m) : (S.opn i o).Bnd m := by
  refine ⟨b.d, fun p hp => ?_⟩
  have hp : p ∈ S.parts ++ [⟨(i : Int) + 1, o, none, none, "open"⟩] := hp
  rcases List.mem_append.mp hp with hp | hp
  · exact b.p p hp
  · rw [List.mem_singleton.mp hp]
    exact ⟨⟨by show (0 : Int) ≤ (i : Int) + 1; omega, by show (i : Int) + 1 ≤ m; omega⟩, ho, (fun _ e => by cases e), (fun _ e => by cases e), .inl rfl⟩
theorem op_bnd {wd : Wd} {S : FS} {i m : Nat} (inv : S.Inv) (few : S.Few m) (b : S.Bnd m) (c : wd.can S i) : (wd.op S i).Bnd (m + 1) := by
  have b1 : ∀ (S' : FS), S'.done = S.done + 1 → S'.parts = S.parts → S'.Bnd (m + 1) := fun S' hd hp => ⟨by have := b.d; rw [hd]; omega, fun p h => (b.p p (hp ▸ h)).mono (Nat.le_succ _)⟩
  have h1 := few.n
  have h2 := few.p
  cases wd with
  | begin => exact FS.Bnd.opn (S := { S with done := S.done + 1, states := S.states ++ [("running" : Str)], stacks := S.stacks ++ [[]], work := S.work ++ [(S.states.length : Int) + 1] }) (b1 _ rfl rfl) (by omega) (fun q h => by cases h)
  | crash => exact FS.Bnd.crF _ (S := S.cnt) (b1 _ rfl rfl)
  | save =>
    have hi := c.2 rfl
    refine FS.Bnd.opn (S := S.cnt) (b1 _ rfl rfl) (by omega) fun q h => ?_
    cases h
    have hl : i < S.stacks.length := by rw [inv.ls]; exact hi
    have mem : S.stacks.getD i [] ∈ S.stacks := by
      rw [List.getD_eq_getElem?_getD, List.getElem?_eq_getElem hl]
      exact List.getElem_mem hl
    have nel : S.stacks.getD i [] ≠ [] := inv.ne i _ _ (FS.st_at hi) (FS.ru_none (FS.fr_none (fr_of_sav c.1)).1).2 (by
      rw [List.getD_eq_getElem?_getD, List.getElem?_eq_getElem hl]
      rfl)
    have := inv.kp _ mem _ (lastI_mem nel)
    omega
  | release => exact FS.Bnd.mdP (S := S.tk i) (b1 _ rfl rfl) fun p h => ⟨h.h, h.o, (fun q e => by cases e; have := b.d; omega), h.e, h.z⟩
  | back => exact FS.Bnd.endP (S := S.tk i) (b1 _ rfl rfl) (.inl rfl)
  | commit => exact FS.Bnd.endT (S := { S.cnt with moment := S.moment + 1 }) (b1 _ rfl rfl) (.inr rfl)
  | abort => exact FS.Bnd.endT (S := S.cnt) (b1 _ rfl rfl) (.inl rfl)
  | prepare => exact b1 _ rfl rfl
/-- what is told of a part -/
def partL (S : FS) (j : Nat) : List (Option Int ⊕ Str) :=
  let r := S.root ((j : Int) + 1)
  [.inl (some r), .inl (if S.out r = "open" then some r else none), .inr (S.out r), .inl (some ((S.parts[j]?).map PI.holder |>.getD 0)), .inl ((S.parts[j]?).bind PI.outer), .inl ((S.parts[j]?).bind PI.released), .inl ((S.parts[(r - 1).toNat]?).bind PI.ended)]
def osV : Option Int ⊕ Str → V
  | .inl o => oI o
  | .inr z => .str z
def osD : Option Int ⊕ Str → PyData
  | .inl o => oD o
  | .inr z => .str z
theorem dxAll_os {K : PySem.W.Frag} {H : Hp} : ∀ l : List (Option Int ⊕ Str), DxAll K H (l.map osV) (l.map osD)
  | [] => .nil
  | x :: l => .cons (by cases x with
    | inl o => exact dx_oI o
    | inr z => exact .str z) (dxAll_os l)
theorem sv_fate {z : Str} (h : z = "open" ∨ z = "rolled back" ∨ z = "committed") : Sv (.str z) := by
  rcases h with rfl | rfl | rfl <;> exact Sv.of (by decide +kernel)
theorem partL_sm {S : FS} {j m : Nat} (tr : S.Tree) (b : S.Bnd m) (few : S.Few m) (hm : m ≤ 900) (hj : j < S.parts.length) : Sm (.list ((partL S j).map osD)) := by
  obtain ⟨i, er, hi⟩ := root_is tr (j + 1) j (Nat.lt_succ_self _) hj
  have hp := b.p _ (List.getElem_mem hj)
  have hr := b.p _ (List.getElem_mem hi)
  have h2 := few.p
  have two : ∀ {o : Option Int}, (∀ q, o = some q → 0 ≤ q ∧ q ≤ (m : Int)) → Sv (oD o) := fun {o} h => SvO.sv fun q e => by
    have := h q e
    omega
  unfold partL
  dsimp only
  rw [er, out_at hi, Int.add_sub_cancel, Int.toNat_natCast, List.getElem?_eq_getElem hj, List.getElem?_eq_getElem hi]
  have r1 : SvO (some ((i : Int) + 1)) := fun q e => by cases e; omega
  refine (sm_seq (ds := [oD (some ((i : Int) + 1)), oD (if S.parts[i].outcome = "open" then some ((i : Int) + 1) else none), .str S.parts[i].outcome, oD (some S.parts[j].holder), oD S.parts[j].outer, oD S.parts[j].released, oD S.parts[i].ended]) (fun d hd => ?_) (show 7 ≤ 40 by decide)).1
  simp only [List.mem_cons, List.not_mem_nil, or_false] at hd
  rcases hd with rfl | rfl | rfl | rfl | rfl | rfl | rfl
  · exact r1.sv
  · split
    · exact r1.sv
    · exact SvO.sv fun q e => by cases e
  · exact sv_fate hr.z
  · exact SvO.sv fun q e => by
      cases e
      have := hp.h
      omega
  · exact two hp.o
  · exact two hp.r
  · exact two hr.e
end Rm

set_option maxRecDepth 100000
set_option maxHeartbeats 4000000
namespace K08
open PySem PySem.Spec L2 Rm
open PyProof.Rows hiding St
section
variable {P : Program} {w : World} {K : PySem.W.Frag} {mg : Str → Option Value} {base : Heap}
theorem sc__law_root : FnScope ["_law_world_here", "_law_part"] ["_law_world_here", "_law_part"] (defScope s__law_root) :=
  ⟨rfl, rfl, rfl, by decide +kernel, rfl, by decide +kernel, by decide +kernel⟩
def spRootW : Sp := fun vs H Q _ => ∃ b j S pd f, vs = [.ref b, .int ((j : Nat) + 1)] ∧ WdR H b S pd f ∧ S.Tree ∧ j < S.parts.length ∧ Q (.int (S.root ((j : Int) + 1))) H
theorem ok_rootW {f : Addr} {fd : FuncData} (F0 : Fun K "_law_root" "_law_root" s__law_root f fd) :
    FnG P w K mg base CX0 1 f fd ["_law_world_here", "_law_part"] spRootW := by
  refine fn_q F0 sc__law_root (fun vs H Q E h => ?_) (fun cdv A outer s H vs Q E hr hG h => ?_)
  · obtain ⟨b, j, S, pd, f', rfl, _⟩ := h
    rfl
  · obtain ⟨b, j0, S, pd, f', rfl, hw, tr, hj0, q⟩ := h
    have hu := hu_of hr
    refine ⟨_, (pss_cons (ps_while PassesOwn.never (pt_cmpR op_notN (pe_dget hu (pe_dget hu (pe_dget hu (pv 0) pe_str (fun _ _ => rfl)) (pv 1) (fun _ _ => rfl)) pe_str (fun _ _ => rfl)) pe_non (nomark _)) (pss_one (ps_set (i := 1) sc__law_root.nd rfl (Or.inl rfl) (pe_dget hu (pe_dget hu (pe_dget hu (pv 0) pe_str (fun _ _ => rfl)) (pv 1) (fun _ _ => rfl)) pe_str (fun _ _ => rfl)))))
      (pss_one (ps_ret (pv 1)))), ?_⟩
    refine ⟨fun m σ H' => ∃ j : Nat, m = j ∧ j < S.parts.length ∧ σ = [some (.ref b), some (.int ((j : Int) + 1))] ∧ S.root ((j : Int) + 1) = S.root ((j0 : Int) + 1) ∧ H' = H, ⟨j0, j0, rfl, hj0, rfl, rfl, rfl⟩, ?_⟩
    rintro j σ H2 ⟨_, rfl, hj, rfl, er, rfl⟩
    have hp := List.getElem?_eq_getElem hj
    refine ⟨_, rfl, _, _, rfl, hw.gp, _, rfl, _, _, rfl, hw.gpart hj, _, _, rfl, hw.gto hp, rfl, _, rfl, ite2 (fun c => ?_) fun c => ?_⟩
    · have hr : S.parts[j].released.isSome = true := by
        cases y : S.parts[j].released with
        | none => simp [PI.to, y, oI] at c
        | some _ => rfl
      obtain ⟨o, ho⟩ := Option.isSome_iff_exists.mp (tr.rl _ _ hp hr)
      obtain ⟨u1, u2⟩ := tr.up _ _ _ hp ho
      obtain ⟨i, rfl⟩ : ∃ i : Nat, o = (i : Int) + 1 := ⟨(o - 1).toNat, by omega⟩
      refine ⟨fun σ' H' => σ' = [some (.ref b), some (.int ((i : Int) + 1))] ∧ H' = H2, ?_, ?_⟩
      · rintro σ' H' ⟨rfl, rfl⟩
        exact ⟨i, by omega, i, rfl, by omega, rfl, (root_up tr hp hr ho).symm.trans er, rfl⟩
      · refine ⟨_, rfl, _, _, rfl, hw.gp, _, rfl, _, _, rfl, hw.gpart hj, _, _, rfl, hw.gto hp, ?_, rfl⟩
        unfold PI.to
        rw [if_pos hr, ho]
        rfl
    · have hr : S.parts[j].released = none := by
        cases y : S.parts[j].released with
        | none => rfl
        | some v =>
          have hr : S.parts[j].released.isSome = true := by rw [y]; rfl
          obtain ⟨o, ho⟩ := Option.isSome_iff_exists.mp (tr.rl _ _ hp hr)
          simp [PI.to, y, ho, oI] at c
      refine ⟨_, rfl, ?_⟩
      rw [← er, root_here hp hr] at q
      exact q
theorem sc__law_owner : FnScope ["_law_world_here", "_law_part", "_law_root_here"] ["_law_world_here", "_law_part"] (defScope s__law_owner) :=
  ⟨rfl, rfl, rfl, by decide +kernel, rfl, by decide +kernel, by decide +kernel⟩
def spOwnW : Sp := fun vs H Q _ => ∃ b j S pd f, vs = [.ref b, .int ((j : Nat) + 1)] ∧ WdR H b S pd f ∧ S.Tree ∧ j < S.parts.length ∧ Q (if S.out (S.root ((j : Int) + 1)) = "open" then .int (S.root ((j : Int) + 1)) else .non) H
theorem ok_ownW {f : Addr} {fd : FuncData} (F0 : Fun K "_law_owner" "_law_owner" s__law_owner f fd)
    (D__law_root : Ce P w K mg base CX0 1 "_law_root" ["_law_world_here", "_law_part"] spRootW) :
    FnG P w K mg base CX0 2 f fd ["_law_world_here", "_law_part"] spOwnW := by
  refine fn_q F0 sc__law_owner (fun vs H Q E h => ?_) (fun cdv A outer s H vs Q E hr hG h => ?_)
  · obtain ⟨b, j, S, pd, f', rfl, _⟩ := h
    rfl
  · obtain ⟨b, j, S, pd, f', rfl, hw, tr, hj, q⟩ := h
    have hu := hu_of hr
    refine ⟨_, (pss_cons (ps_set (i := 2) sc__law_owner.nd rfl (Or.inl rfl) (pe_ce D__law_root (hr.mono (by decide)) hG (pa_cons (pv 0) (pa_cons (pv 1) pa_nil)) pass0))
      (pss_one (ps_ret (pe_ifExp (pt_cmpR op_eq (pe_dget hu (pe_dget hu (pe_dget hu (pv 0) pe_str (fun _ _ => rfl)) (pv 2) (fun _ _ => rfl)) pe_str (fun _ _ => rfl)) pe_str (nomark _)) (pv 2) pe_non)))), ?_⟩
    refine ⟨_, rfl, _, rfl, b, j, S, pd, f', rfl, hw, tr, hj, ?_⟩
    obtain ⟨i, er, hi⟩ := root_is tr (j + 1) j (Nat.lt_succ_self _) hj
    rw [er, out_at hi] at q
    rw [er]
    have hp := List.getElem?_eq_getElem hi
    refine ⟨_, rfl, _, _, rfl, hw.gp, _, rfl, _, _, rfl, hw.gpart hi, _, _, rfl, hw.gfate hp, rfl, _, rfl, ite2 (fun c => ?_) fun c => ?_⟩
    · rw [if_pos (V.str.inj (of_decide_eq_true c))] at q
      exact ⟨_, rfl, q⟩
    · rw [if_neg (fun y => c (decide_eq_true (by rw [y])))] at q
      exact q
end
end K08

set_option maxRecDepth 100000
set_option maxHeartbeats 4000000
namespace K08
open PySem PySem.Spec L2 Rm
open PyProof.Rows hiding St
section
variable {P : Program} {w : World} {K : PySem.W.Frag} {mg : Str → Option Value} {base : Heap} {C CP : Addr} {more : List (Str × V)} {EE : EA}
theorem sc_Fates_around : FnScope ["self", "part"] ["self", "part"] (defScope s_Fates_around) :=
  ⟨rfl, rfl, rfl, by decide +kernel, rfl, by decide +kernel, by decide +kernel⟩
theorem ok_around {f : Addr} {fd : FuncData} (F0 : Fun K "around" "Fates.around" s_Fates_around f fd) (FCC : FC K C) (PCC : PC K CP) (mo : MO more)
    (M_Fates__check_part : Cm P w K mg base (L2.CX P w) 4 C "_check_part" ["self", "part"] (spAsk K C CP more EE FS.kp)) :
    FnG P w K mg base (L2.CX P w) 5 f fd ["self", "part"] (spPt K C CP more EE fun S q => oI ((S.parts[(q - 1).toNat]?).bind PI.outer)) := by
  refine fn_in F0 sc_Fates_around (fun vs H Q E h => ?_) (fun cdv A outer s H vs Q E hr hG h => ?_)
  · obtain ⟨a, x, d, S, F, rfl, _⟩ := h
    rfl
  · obtain ⟨a, x, d, S, F, rfl, hA, hx, wf, tr, e, q⟩ := h
    have hu := hu_of hr
    refine ⟨_, (pss_cons (ps_expr (pe_cm M_Fates__check_part (hr.mono (by decide)) hG (pv 0) (pa_cons (pv 1) pa_nil) (passes_call (takes_of rfl rfl rfl rfl) (fun _ _ _ _ h => h))))
      (pss_one (ps_ret (pe_fld (pe_ix ix_list (pe_fld (pv 0) rfl) (pe_op op_sub (pv 1) pe_int) (fun _ _ => rfl)) rfl)))), ?_⟩
    obtain ⟨ad, hf, hF⟩ := id hA
    obtain ⟨dx, lk⟩ := hf.look
    refine ⟨_, rfl, a, dx, _, rfl, lk.o, mo.free (by decide +kernel), _, rfl, a, x, d, S, F, rfl, hA, hx, Nat.le_trans wf.n (by decide), fun hk H1 s1 => ?_, e⟩
    obtain ⟨j, rfl, hj⟩ := FS.kp_none hk
    cases hx
    have hf1 := hf.same s1
    obtain ⟨dx1, lk1⟩ := hf1.look
    have hp := List.getElem?_eq_getElem hj
    obtain ⟨dp, hd⟩ := hf1.prt hp
    refine ⟨_, rfl, a, C, dx1, _, _, rfl, lk1.o, FCC.cls, FCC.n5, rfl, _, rfl, _, _, rfl, rfl, ad .parts, _, _, .ref (ad (.part j)), rfl, rfl, .inl (.inl lk1.p), refs_atI hj, ?_⟩
    refine ⟨_, CP, dp, _, _, rfl, hd, PCC.cls, PCC.n1, rfl, ?_⟩
    have z := q j rfl hj H1 s1
    dsimp only at z
    rw [Int.add_sub_cancel, Int.toNat_natCast, hp] at z
    exact z
theorem sc_Fates_ended_at : FnScope ["self", "part"] ["self", "part"] (defScope s_Fates_ended_at) :=
  ⟨rfl, rfl, rfl, by decide +kernel, rfl, by decide +kernel, by decide +kernel⟩
theorem ok_ended {f : Addr} {fd : FuncData} (F0 : Fun K "ended_at" "Fates.ended_at" s_Fates_ended_at f fd) (FCC : FC K C) (PCC : PC K CP) (mo : MO more)
    (M_Fates_root : Cm P w K mg base (L2.CX P w) 5 C "root" ["self", "part"] (spPt K C CP more EE fun S q => .int (S.root q))) :
    FnG P w K mg base (L2.CX P w) 6 f fd ["self", "part"] (spPt K C CP more EE fun S q => oI ((S.parts[(S.root q - 1).toNat]?).bind PI.ended)) := by
  refine fn_in F0 sc_Fates_ended_at (fun vs H Q E h => ?_) (fun cdv A outer s H vs Q E hr hG h => ?_)
  · obtain ⟨a, x, d, S, F, rfl, _⟩ := h
    rfl
  · obtain ⟨a, x, d, S, F, rfl, hA, hx, wf, tr, e, q⟩ := h
    have hu := hu_of hr
    refine ⟨_, (pss_one (ps_ret (pe_fld (pe_ix ix_list (pe_fld (pv 0) rfl) (pe_op op_sub (pe_cm M_Fates_root (hr.mono (by decide)) hG (pv 0) (pa_cons (pv 1) pa_nil) (passes_call (takes_of rfl rfl rfl rfl) (fun _ _ _ _ h => h))) pe_int) (fun _ _ => rfl)) rfl))), ?_⟩
    obtain ⟨ad, hf, hF⟩ := id hA
    obtain ⟨dx, lk⟩ := hf.look
    refine ⟨_, rfl, a, C, dx, _, _, rfl, lk.o, FCC.cls, FCC.n5, rfl, _, rfl, a, dx, _, rfl, lk.o, mo.free (by decide +kernel), _, rfl, a, x, d, S, F, rfl, hA, hx, wf, tr, e, fun j0 ej hj0 H1 s1 => ?_⟩
    subst ej
    have hf1 := hf.same s1
    obtain ⟨dx1, lk1⟩ := hf1.look
    obtain ⟨i, er, hi⟩ := root_is tr (j0 + 1) j0 (Nat.lt_succ_self _) hj0
    have hp := List.getElem?_eq_getElem hi
    have z := q j0 rfl hj0 H1 s1
    dsimp only at z
    rw [er, Int.add_sub_cancel, Int.toNat_natCast, hp] at z
    dsimp only
    rw [er]
    obtain ⟨dp, hd⟩ := hf1.prt hp
    refine ⟨_, _, rfl, rfl, ad .parts, _, _, .ref (ad (.part i)), rfl, rfl, .inl (.inl lk1.p), refs_atI hi, ?_⟩
    exact ⟨_, CP, dp, _, _, rfl, hd, PCC.cls, PCC.n3, rfl, z⟩
end
end K08

set_option maxRecDepth 100000
set_option maxHeartbeats 4000000
namespace Rm
open PySem PySem.Spec L2
open PyProof.Rows hiding St

/-- a list of what a walk through the keys of a locked dict gives -/
theorem lc_keys {d : Addr} {o : Obj} {kvs : List (Key × V)} {g : TG} {tt : TT} {te : TE} {vs : List Nat} {σ : L2.St} {H1 : Hp} {D : Addr} {Qd : Hp → Prop} (Pv : Nat → Hp → Prop) (h0 : Pv 0 (upd H1 D (.lst [])))
    (hl : ∀ i H, i ≤ kvs.length → Pv i H → H d = some (.frz o (.dK kvs)))
    (hs : ∀ i k v H, kvs[i]? = some (k, v) → Pv i H → g (kV k) (wipe σ vs) H fun σ2 H2 => wipe σ2 vs = wipe σ vs ∧ tt σ2 H2 fun b H3 =>
      if b = true then te σ2 H3 fun y H4 => ∃ acc, H4 D = some (.lst acc) ∧ acc.length < sizeLine ∧ Pv (i + 1) (upd H4 D (.lst (acc ++ [y]))) else Pv (i + 1) H3)
    (hd : ∀ H, Pv kvs.length H → Qd H) :
    ∃ W : Nat → Nat → Hp → Prop, (∃ m, W 0 m (upd H1 D (.lst []))) ∧ ∀ i m H, W i m H →
      ((Itk d o kvs).stop i H ∧ Qd H) ∨ ((Itk d o kvs).go i H ∧ ∃ Nx : Hp → Prop, (∀ H', Nx H' → ∃ m', m' < m ∧ W (i + 1) m' H') ∧ ∀ x H', (Itk d o kvs).yld i H x H' →
        g x (wipe σ vs) H' fun σ2 H2 => wipe σ2 vs = wipe σ vs ∧ tt σ2 H2 fun b H3 =>
          if b = true then te σ2 H3 fun y H4 => ∃ acc, H4 D = some (.lst acc) ∧ acc.length < sizeLine ∧ Nx (upd H4 D (.lst (acc ++ [y]))) else Nx H3) := by
  refine ⟨fun i m H => m = kvs.length - i ∧ i ≤ kvs.length ∧ Pv i H, ⟨kvs.length, by simp, Nat.zero_le _, h0⟩, ?_⟩
  rintro i m H ⟨rfl, hi, p⟩
  have q := hl i H hi p
  by_cases hlt : i < kvs.length
  · refine .inr ⟨⟨q, hlt⟩, Pv (i + 1), fun H' p' => ⟨kvs.length - (i + 1), by omega, rfl, hlt, p'⟩, fun x H' y => ?_⟩
    obtain ⟨rfl, k, v, e, rfl⟩ := y
    exact hs i k v _ e p
  · have e : i = kvs.length := by omega
    subst e
    exact .inl ⟨⟨q, Nat.le_refl _⟩, hd H p⟩
/-- .. and what is known of its parts -/
structure Wk2 (C CP : Addr) (T : List (Addr × Str)) (Hs H : Hp) (t a b : Addr) (S : FS) (F G : Addr → Prop) (n : Nat) : Prop where
  k : Wk C CP T Hs H t a b S F G n
  tr : S.Tree
  bn : S.Bnd n
section
variable {C CP : Addr} {T : List (Addr × Str)} {Hs H H' : Hp} {t a b : Addr} {S S' : FS} {F G F' G' : Addr → Prop} {n : Nat}
theorem Wk2.same (k : Wk2 C CP T Hs H t a b S F G n) (s : Same H H') : Wk2 C CP T Hs H' t a b S F G n := ⟨k.k.same s, k.tr, k.bn⟩
theorem Wk2.nxt (k : Wk2 C CP T Hs H t a b S F G n) (N : Nxt t H H') : Wk2 C CP T Hs H' t a b S F G n := ⟨k.k.nxt N, k.tr, k.bn⟩
theorem Wk2.both (k : Wk2 C CP T Hs H t a b S F G n) (h : S' = S ∨ ∃ wd i, Wd.can wd S i ∧ S' = wd.op S i) (hf : FsA C CP [] H' a S' F') (hw : WdA H' b S' G') (dj : ∀ y, F' y → ¬ G' y)
    (fr : FrN (fun y => F y ∨ G y) H H') (gr : ∀ y, F' y ∨ G' y → (F y ∨ G y) ∨ NewN H y) (tabs : LamX.Tabs T H') : Wk2 C CP T Hs H' t a b S' F' G' (n + 1) := by
  refine ⟨k.k.both h hf hw dj fr gr tabs, ?_, ?_⟩
  · rcases h with rfl | ⟨wd, i, c, rfl⟩
    · exact k.tr
    · exact op_tree k.k.inv k.tr c
  · rcases h with rfl | ⟨wd, i, c, rfl⟩
    · exact k.bn.mono (Nat.le_succ _)
    · exact op_bnd k.k.inv k.k.few k.bn c
/-- a program's new Fates, then the law's new record -/
theorem wk_new {Ht Hy H1 H2 : Hp} {o : HO} {y dx b : Addr} (nt : Hs t = none) (st : Same Hs Ht) (ht : Ht t = some o) (ho : IsTape o) (tb : LamX.Tabs T Ht) (ny : Ht y = none) (sy : Same Ht Hy) (hy : Hy y = some (.ins C dx []))
    (hA : FsA C CP [] H1 y .zero F) (fr : Fr (fun b => b = y) Hy H1) (gr : Grow (fun b => b = y) F Hy) (hB : WdA H2 b .zero G) (newG : ∀ x, G x → H1 x = none) (s2 : Same H1 H2) : Wk2 C CP T Hs H2 t y b .zero F G 0 := by
  have inH1 : ∀ x u, Ht x = some u → H1 x = some u := fun x u h => fr x u (sy _ _ h) fun e => by
    rw [e, ny] at h
    cases h
  have inS : ∀ x u, Hs x = some u → H1 x = some u := fun x u h => inH1 x u (st _ _ h)
  refine ⟨⟨hA.same s2, hB, fun x hx hg => ?_, ⟨o, s2 _ _ (inH1 _ _ ht), ho⟩, fun z => ?_, fun z => ?_, inv_zero, few_zero, cap_zero, ?_, fun x u h _ _ => s2 _ _ (inS x u h), fun x hx => NewN.of ?_, NewN.of nt⟩, tree_zero, bnd_zero⟩
  · obtain ⟨u, hu'⟩ := hA.on x hx
    rw [newG x hg] at hu'
    cases hu'
  · rcases gr t z with e | e
    · rw [e, ny] at ht
      cases ht
    · rw [sy _ _ ht] at e
      cases e
  · have := newG t z
    rw [inH1 _ _ ht] at this
    cases this
  · refine (tabs_fr (tb.ext sy) fr fun x u e hu' => ?_).ext s2
    subst e
    rw [hy] at hu'
    obtain rfl := Option.some.inj hu'
    exact ⟨(fun _ q => by cases q), (fun _ q => by cases q)⟩
  · cases e : Hs x with
    | none => rfl
    | some u =>
      rcases hx with hx | hx
      · rcases gr x hx with z | z
        · rw [z] at e
          rw [st _ _ e] at ny
          cases ny
        · rw [sy _ _ (st _ _ e)] at z
          cases z
      · have := newG x hx
        rw [inS x u e] at this
        cases this
end
end Rm

set_option maxRecDepth 100000
set_option maxHeartbeats 4000000
namespace Rm
open PySem PySem.Spec L2
open PyProof.Rows hiding St

section
variable {C CP : Addr} {T : List (Addr × Str)} {Hs H H' : Hp} {t a b : Addr} {S S' : FS} {F G F' G' : Addr → Prop} {n : Nat}
/-- a program's new Fates, then the law's new record, where more was done before -/
theorem wk_newN {Ht Hy H1 H2 : Hp} {y dx b : Addr} (nt : NewN Hs t) (st : FrN noneF Hs Ht) (tp : ∃ o, Ht t = some o ∧ IsTape o) (tb : LamX.Tabs T Ht) (ny : Ht y = none) (sy : Same Ht Hy) (hy : Hy y = some (.ins C dx []))
    (hA : FsA C CP [] H1 y .zero F) (fr : Fr (fun b => b = y) Hy H1) (gr : Grow (fun b => b = y) F Hy) (hB : WdA H2 b .zero G) (newG : ∀ x, G x → H1 x = none) (s2 : Same H1 H2) : Wk2 C CP T Hs H2 t y b .zero F G 0 := by
  obtain ⟨o, ht, ho⟩ := tp
  have inH1 : ∀ x u, Ht x = some u → H1 x = some u := fun x u h => fr x u (sy _ _ h) fun e => by
    rw [e, ny] at h
    cases h
  refine ⟨⟨hA.same s2, hB, fun x hx hg => ?_, ⟨o, s2 _ _ (inH1 _ _ ht), ho⟩, fun z => ?_, fun z => ?_, inv_zero, few_zero, cap_zero, ?_, fun x u h n m => s2 _ _ (inH1 x u (st x u h n m)), fun x hx u e => ?_, nt⟩, tree_zero, bnd_zero⟩
  · obtain ⟨u, hu'⟩ := hA.on x hx
    rw [newG x hg] at hu'
    cases hu'
  · rcases gr t z with e | e
    · rw [e, ny] at ht
      cases ht
    · rw [sy _ _ ht] at e
      cases e
  · have := newG t z
    rw [inH1 _ _ ht] at this
    cases this
  · refine (tabs_fr (tb.ext sy) fr fun x u e hu' => ?_).ext s2
    subst e
    rw [hy] at hu'
    obtain rfl := Option.some.inj hu'
    exact ⟨(fun _ q => by cases q), (fun _ q => by cases q)⟩
  · by_cases m : ∃ ps, u = .tbl ps
    · exact m
    · have e2 := st x u e (fun z => z) fun ps q => m ⟨ps, q⟩
      rcases hx with hx | hx
      · rcases gr x hx with z | z
        · rw [z, ny] at e2
          cases e2
        · rw [sy _ _ e2] at z
          cases z
      · have := newG x hx
        rw [inH1 x u e2] at this
        cases this
/-- an operation of the program, then that of the record -/
theorem both_step {H1 H2 : Hp} (hA : FsA C CP [] H a S F) (hB : WdA H b S G) (dj : ∀ y, F y → ¬ G y) (tabs : LamX.Tabs T H) (hA1 : FsA C CP [] H1 a S' F') (fr1 : Fr F H H1) (gr1 : Grow F F' H)
    (hB2 : WdA H2 b S' G') (fr2 : Fr G H1 H2) (gr2 : Grow G G' H1) :
    FsA C CP [] H2 a S' F' ∧ (∀ y, F' y → ¬ G' y) ∧ FrN (fun y => F y ∨ G y) H H2 ∧ (∀ y, F' y ∨ G' y → (F y ∨ G y) ∨ NewN H y) ∧ LamX.Tabs T H2 := by
  have hB1 := hB.frame fr1 fun x hx z => dj x z hx
  have d3 : ∀ x, F' x → ¬ G x := fun x hx hg => by
    rcases gr1 x hx with z | z
    · exact dj x z hg
    · obtain ⟨u, hu'⟩ := hB.on x hg
      rw [z] at hu'
      cases hu'
  refine ⟨hA1.frame fr2 d3, fun x hx hg => ?_, fun x u h n m => fr2 _ _ (fr1 _ _ h fun z => n (.inl z)) fun z => n (.inr z), fun x hx => ?_, tabs_fr (tabs_fr tabs fr1 hA.solid) fr2 hB1.solid⟩
  · rcases gr2 x hg with z | z
    · exact d3 x hx z
    · obtain ⟨u, hu'⟩ := hA1.on x hx
      rw [z] at hu'
      cases hu'
  · by_cases hF : F x
    · exact .inl (.inl hF)
    · rcases hx with hx | hx
      · rcases gr1 x hx with z | z
        · exact .inl (.inl z)
        · exact .inr (NewN.of z)
      · rcases gr2 x hx with z | z
        · exact .inl (.inr z)
        · refine .inr (NewN.of ?_)
          cases e : H x with
          | none => rfl
          | some u =>
            rw [fr1 x u e hF] at z
            cases z
/-- what stands outside both -/
structure Outs (H : Hp) (F G : Addr → Prop) (x : Addr) (u : HO) : Prop where
  at_ : H x = some u
  nt : ∀ ps, u ≠ .tbl ps
  nF : ¬ F x
  nG : ¬ G x
theorem Outs.same {x : Addr} {u : HO} (h : Outs H F G x u) (s : Same H H') : Outs H' F G x u := ⟨s _ _ h.at_, h.nt, h.nF, h.nG⟩
theorem Outs.both {x : Addr} {u : HO} (h : Outs H F G x u) (fr : FrN (fun y => F y ∨ G y) H H') (gr : ∀ y, F' y ∨ G' y → (F y ∨ G y) ∨ NewN H y) : Outs H' F' G' x u := by
  have off : ∀ y, F' y ∨ G' y → y ≠ x := fun y hy e => by
    subst e
    rcases gr _ hy with z | z
    · exact z.elim h.nF h.nG
    · exact z.off h.at_ h.nt rfl
  exact ⟨fr x u h.at_ (fun z => z.elim h.nF h.nG) h.nt, h.nt, fun z => off x (.inl z) rfl, fun z => off x (.inr z) rfl⟩
theorem Outs.nxt {x : Addr} {u : HO} (h : Outs H F G x u) (N : Nxt t H H') (e : x ≠ t) : Outs H' F G x u := ⟨N.keep _ _ h.at_ e, h.nt, h.nF, h.nG⟩
theorem Outs.new {x : Addr} {u : HO} (hf : ∀ y, F y → ∃ u, H y = some u) (hg : ∀ y, G y → ∃ u, H y = some u) (n : H x = none) (nt : ∀ ps, u ≠ .tbl ps) : Outs (upd H x u) F G x u :=
  ⟨upd_same, nt, (fun z => by
    obtain ⟨v, hv⟩ := hf x z
    rw [n] at hv
    cases hv), (fun z => by
    obtain ⟨v, hv⟩ := hg x z
    rw [n] at hv
    cases hv)⟩
/-- behind a begin somebody runs -/
theorem beg_work {S : FS} : (S.beg).work ≠ [] := by
  show S.work ++ [_] ≠ []
  simp
theorem begin_runs {o : Option Int} (h : ((∃ k, Wd.er .begin S (oD o) = some k) ∧ S' = S) ∨ ∃ i, Wd.can .begin S i ∧ S' = Wd.op .begin S i) : S'.work ≠ [] := by
  rcases h with ⟨⟨k, hk⟩, rfl⟩ | ⟨i, _, rfl⟩
  · intro e
    have hk : (if 8 ≤ S'.work.length then some Ek.tm else none) = some k := hk
    rw [e] at hk
    cases hk
  · exact beg_work
theorem work_bd (inv : S.Inv) (h : S.states.length < 64) : ∀ n ∈ S.work, 0 ≤ n ∧ n < 1000000000 := fun n hn => by
  obtain ⟨i, rfl, hi, _⟩ := aliveL_mem.mp (inv.ws ▸ hn)
  omega
end
end Rm

set_option maxRecDepth 100000
set_option maxHeartbeats 4000000
namespace Rm
open PySem PySem.Spec L2
open PyProof.Rows hiding St

/-! ### the end, where the law's defs make lambdas: cs, the code objects and their tables -/
abbrev tabO : Obj := { cls := .none, data := .fields #[] }
section
variable {P : Program} {w : World} {K : PySem.W.Frag} {mg mb : Str → Option Value} {k : Nat} {fa a : Addr} {fd : FuncData} {x : Str} {sp : Sp} {cs : List (Addr × Addr)}
variable {s : Shared} {vs : List Value} {ns : List Int}
/-- H tracks the tables, and the script at most -/
structure BareT (P : Program) (w : World) (K : PySem.W.Frag) (s : Shared) (a : Addr) (cs : List (Addr × Addr)) (H : Hp) : Prop where
  tb : ∀ p ∈ cs, H p.2 = some (.tbl #[])
  only : ∀ b, H b = none ∨ (∃ p ∈ cs, p.2 = b) ∨ ∃ o xs, H b = some (.frz o (.lst xs))
  hok : HOk P w H s.heap
  at_ : ∀ b u, H b = some u → b = a ∨ ∃ p ∈ cs, p.2 = b
  out : ∀ u, H a = some u → K.lookup a = none
  lst : ∃ vs : List Value, s.heap.get? a = some { cls := .type "list", data := .seq vs.toArray }
  isT : ∀ p ∈ cs, s.heap.get? p.2 = some tabO
  nT : ∀ p ∈ cs, K.lookup p.2 = none
theorem BareT.free {H : Hp} (B : BareT P w K s a cs H) {b : Addr} {o : Obj} (e : s.heap.get? b = some o) (h1 : ∀ vs n, o.data ≠ .seq vs n) (h2 : o.data ≠ .fields #[]) : H b = none := by
  cases q : H b with
  | none => rfl
  | some u =>
    rcases B.at_ b u q with z | ⟨p, hp, z⟩
    · obtain ⟨vs, l⟩ := B.lst
      rw [z, l] at e
      cases e
      exact (h1 _ _ rfl).elim
    · have t := B.isT p hp
      rw [z, e] at t
      cases t
      exact (h2 rfl).elim
theorem BareT.dict {H : Hp} (B : BareT P w K s a cs H) {b : Addr} {o : Obj} {es : Array DictEntry} {ep : Nat} (e : s.heap.get? b = some o) (d : o.data = .dict es ep) : H b = none :=
  B.free e (fun vs n z => by rw [d] at z; cases z) fun z => by rw [d] at z; cases z
theorem BareT.names {H : Hp} (B : BareT P w K s a cs H) {b : Addr} {m : Str → Option Value} (h : s.heap.Ns b m) : (hidT s.heap H).Ns b m := by
  obtain ⟨o, es, ep, e, d, r⟩ := h
  exact ⟨o, es, ep, hidT_get e (B.dict e d), d, r⟩
theorem BareT.kin {H : Hp} (B : BareT P w K s a cs H) (KX : K.In s.heap) : K.In (hidT s.heap H) := fun b o e => by
  refine hidT_get (KX b o e) ?_
  cases q : H b with
  | none => rfl
  | some u =>
    rcases B.at_ b u q with z | ⟨p, hp, z⟩
    · subst z
      rw [B.out u q] at e
      cases e
    · rw [← z, B.nT p hp] at e
      cases e
theorem told_ofT {H : Hp} (B : BareT P w K s a cs H) (KX : K.In s.heap) (hns : s.heap.Ns mainGlobals mg) (hb : s.heap.Ns builtinsNs mb)
    (hbb : ∀ y : Str, y ≠ "__name__" → mb y = bootBuiltins y) (hlim : s.heap.NoLimit) (hg : s.gens = #[]) (hr : Room k callerA)
    (C : ∀ p ∈ cs, PySem.W.CodeHd s.heap p.1 p.2)
    (hbm : ∃ (bm : Addr) (ob : Obj), mg "__builtins__" = some (.ref bm) ∧ bm ≠ builtinsNs ∧ s.heap.get? bm = some ob ∧ ob.cls = .type "module" ∧ ob.dict = some builtinsNs ∧ ob.data = .plain)
    (F : ∀ base : Heap, K.In base → base.Ns mainGlobals mg → (∀ p ∈ cs, LamX.TabB base mg p.1 p.2) → FnG P w K mg base CX0 k fa fd [x] sp)
    (hbind : ∀ (s : Shared) (u : Value), BindsTo s fd ⟨[u], []⟩ [(x, u)])
    (q : sp [.ref a] H (fun v _ => v = .bl true) E0) :
    codeAny (model P w) callerA (.call (.ref fa) ⟨[.ref a], []⟩) (Told s) s := by
  have kin := B.kin KX
  have lim : (hidT s.heap H).NoLimit := by
    obtain ⟨mc, h1, h2⟩ := hlim
    exact ⟨mc, B.names h1, h2⟩
  have md : Mod K mg (hidT s.heap H) := ⟨kin, B.names hns, ⟨mb, B.names hb, hbb⟩, lim⟩
  have none_in : ∀ b : Addr, b ∉ ([] : List Addr) := fun b z => by cases z
  have isDict : ∀ {b : Addr} {m : Str → Option Value}, s.heap.Ns b m → ∀ {o : Obj}, s.heap.get? b = some o → ∃ es ep, o.data = .dict es ep := fun h o e => by
    obtain ⟨o', es, ep, e', d, _⟩ := h
    rw [e] at e'
    cases e'
    exact ⟨es, ep, d⟩
  have tabB : ∀ p ∈ cs, LamX.TabB (hidT s.heap H) mg p.1 p.2 := fun p hp => by
    have tp := B.isT p hp
    refine ⟨?_, ?_, fun z => ?_⟩
    · obtain ⟨o, us, file, tf, flags, tg, inF, text, tt, e1, r1, r2, r3, rest⟩ := C p hp
      refine ⟨o, us, file, tf, flags, tg, inF, text, tt, hidT_get e1 (B.free e1 (fun vs n z => ?_) fun z => ?_), r1, r2, r3, rest⟩
      · rw [r2] at z
        cases z
      · rw [r2] at z
        cases z
        simp at r3
    · obtain ⟨bm, ob, b1, b2, b3, b4, b5, b6⟩ := hbm
      refine ⟨bm, ob, b1, b2, fun z => ?_, fun z => ?_, hidT_get b3 (B.free b3 (fun vs n z => ?_) fun z => ?_), b4, b5, b6⟩
      · obtain ⟨es, ep, d⟩ := isDict hns (z ▸ b3)
        rw [b6] at d
        cases d
      · rw [z, tp] at b3
        cases b3
        cases b6
      · rw [b6] at z
        cases z
      · rw [b6] at z
        cases z
    · obtain ⟨es, ep, d⟩ := isDict hns (z ▸ tp)
      cases d
  have env : Env0 P w K mg (hidT s.heap H) callerA [] s H :=
    ⟨rfl, md, fun b o e => of_hidT e, Nat.le_of_eq (hidT_size _ _), trivial, fun b z => absurd z (none_in b), B.hok, .of_eq hg⟩
  have run := (F _ kin (B.names hns) tabB).run callerA [] s H ⟨[.ref a], []⟩ [.ref a] [.ref a] _ _ hr rfl env (hbind s (.ref a)) (.cons rfl .nil) q
  refine codeAny_mono run fun r s' h => ?_
  match r, h with
  | .error e, h => exact False.elim h
  | .ok .next, h => exact False.elim h
  | .ok .brk, h => exact False.elim h
  | .ok .cont, h => exact False.elim h
  | .ok (.ret u), ⟨v, H', os, bare, un, hok', r', ev⟩ =>
    have ev : v = .bl true := ev
    subst ev
    have eu : u = Value.bool true := r'
    subst eu
    have kept : ∀ b o, (¬ ∃ p ∈ cs, p.2 = b) → s.heap.get? b = some o → s'.heap.get? b = some o := fun b o nb e => by
      rcases B.only b with z | z | ⟨ob, xs, z⟩
      · exact un.keep b o e z (none_in b) (none_in b)
      · exact absurd z nb
      · have e1 := (B.hok b _ z).1
        have e2 := (hok' b _ (un.frzs b ob _ z)).1
        exact e2.trans (e1.symm.trans e)
    have grown : ∀ p ∈ cs, ∃ more : Array Value, s'.heap.get? p.2 = some { cls := .none, data := .fields more } := fun p hp => by
      obtain ⟨more, z⟩ := un.tbls p.2 #[] (B.tb p hp)
      exact ⟨_, hok' p.2 _ z⟩
    refine ⟨rfl, ⟨fun b o e => ?_, fun b o e => ?_⟩, os, bare⟩
    · by_cases nb : ∃ p ∈ cs, p.2 = b
      · obtain ⟨p, hp, rfl⟩ := nb
        obtain ⟨more, hm⟩ := grown p hp
        have tp := B.isT p hp
        rw [tp] at e
        cases e
        exact .inr (.inl ⟨((C p hp).tab tp).isCodeTable, rfl, #[], more, rfl, by rw [Array.empty_append]; exact hm⟩)
      · exact .inl (kept b o nb e)
    · by_cases nb : ∃ p ∈ cs, p.2 = b
      · obtain ⟨p, hp, rfl⟩ := nb
        obtain ⟨more, hm⟩ := grown p hp
        exact ⟨_, hm⟩
      · exact ⟨o, kept b o nb e⟩
/-- the tables, and the script where it is none of the written part -/
def scT (K : PySem.W.Frag) (a : Addr) (vs : List Value) (ns : List Int) (cs : List (Addr × Addr)) : Hp := fun b =>
  if b ∈ cs.map (·.2) then some (.tbl #[]) else if b = a ∧ K.lookup a = none then some (.frz { cls := .type "list", data := .seq vs.toArray } (.lst (ns.map V.int))) else none
theorem bareT (ha : s.heap.get? a = some { cls := .type "list", data := .seq vs.toArray }) (hi : IntsAre vs ns) (hl : ns.length ≤ sizeLine)
    (isT : ∀ p ∈ cs, s.heap.get? p.2 = some tabO) (nT : ∀ p ∈ cs, K.lookup p.2 = none) : BareT P w K s a cs (scT K a vs ns cs) ∧ (K.lookup a = none → Rd (scT K a vs ns cs) a (.lst (ns.map V.int))) := by
  have mem : ∀ {b : Addr}, b ∈ cs.map (·.2) ↔ ∃ p ∈ cs, p.2 = b := List.mem_map
  have na : a ∉ cs.map (·.2) := fun z => by
    obtain ⟨p, hp, e⟩ := mem.mp z
    have t := isT p hp
    rw [e, ha] at t
    have z' : Data.seq vs.toArray _ = Data.fields #[] := congrArg Obj.data (Option.some.inj t)
    cases z'
  have cases_ : ∀ {b : Addr} {u : HO}, scT K a vs ns cs b = some u → (b ∈ cs.map (·.2) ∧ u = .tbl #[]) ∨ (b = a ∧ K.lookup a = none ∧ u = .frz { cls := .type "list", data := .seq vs.toArray } (.lst (ns.map V.int))) := fun {b u} z => by
    unfold scT at z
    split at z
    · rename_i h
      exact .inl ⟨h, (Option.some.inj z).symm⟩
    · split at z
      · rename_i h
        exact .inr ⟨h.1, h.2, (Option.some.inj z).symm⟩
      · cases z
  refine ⟨⟨fun p hp => if_pos (mem.mpr ⟨p, hp, rfl⟩), fun b => ?_, fun b u z => ?_, fun b u z => ?_, fun u z => ?_, ⟨vs, ha⟩, isT, nT⟩, fun h => .inr ⟨_, (if_neg na).trans (if_pos ⟨rfl, h⟩)⟩⟩
  · cases e : scT K a vs ns cs b with
    | none => exact .inl rfl
    | some u =>
      rcases cases_ e with ⟨h, rfl⟩ | ⟨_, _, rfl⟩
      · exact .inr (.inl (mem.mp h))
      · exact .inr (.inr ⟨_, _, rfl⟩)
  · rcases cases_ z with ⟨h, rfl⟩ | ⟨rfl, _, rfl⟩
    · obtain ⟨p, hp, rfl⟩ := mem.mp h
      exact isT p hp
    · exact ⟨ha, by rw [List.length_map]; exact hl, vs, _, vals_ints hi, ha⟩
  · rcases cases_ z with ⟨h, _⟩ | ⟨h, _⟩
    · exact .inr (mem.mp h)
    · exact .inl h
  · rcases cases_ z with ⟨h, _⟩ | ⟨_, h, _⟩
    · exact absurd h na
    · exact h
end
theorem walkT {l : PySem.W.OpenLaw} {k : Nat} {q : Program} {loose : List Str} {XP : (Str → Option Value) → Heap → Prop} {YP : World → Heap → Prop} {d : DefRec}
    {K : Params → PySem.W.Frag} (hn : l.most = some 63) (hdf : d.params.defaults = []) (hr : Room k callerA)
    (hY : ∀ (w : World) (h : Heap), YP w h → (K w.params).In h)
    (F : ∀ (w : World) (mg : Str → Option Value) (fa : Addr) (h : Heap), YP w h → (K w.params).In h → h.Ns mainGlobals mg → mg d.name = some (.ref fa) →
      ∃ (fd : FuncData) (cs : List (Addr × Addr)) (T : List (Addr × Str)), (∀ p ∈ cs, h.get? p.2 = some tabO) ∧ (∀ p ∈ cs, (K w.params).lookup p.2 = none) ∧ (∀ p ∈ cs, PySem.W.CodeHd h p.1 p.2) ∧
        (∀ y ∈ T, ∃ p ∈ cs, p.2 = y.1) ∧ (∀ (s : Shared) (u : Value), BindsTo s fd ⟨[u], []⟩ [("_law_script", u)]) ∧
        ∀ base : Heap, (K w.params).In base → base.Ns mainGlobals mg → (∀ p ∈ cs, LamX.TabB base mg p.1 p.2) → FnG l.prog w (K w.params) mg base CX0 k fa fd ["_law_script"]
          (fun vs H Q _ => ∃ (a : Addr) (ns : List Int), vs = [.ref a] ∧ SqL (K w.params) H a (ns.map V.int) ∧ ns.length ≤ 63 ∧ (∀ n ∈ ns, Builtin.Int.intBits n ≤ 1048576) ∧ LamX.Tabs T H ∧ ∀ H', Q (.bl true) H')) :
    PySem.W.WalkO q loose XP YP l.row.toRowW d [] (fun f vs => PySem.call f vs) := by
  refine Att.attach_callB hn hdf fun w s₀ s mg mb fa o pm cd doc a vs ns G Y ho hd hcd hmg ha hi hlen hbits hg => ?_
  have KX := hY w _ Y
  obtain ⟨fd, cs, T, isT, nT, C, hT, hb, hF⟩ := F w mg fa _ Y KX G.T.g hmg
  have hl : ns.length ≤ sizeLine := Nat.le_trans hlen (by decide)
  obtain ⟨B, here⟩ := bareT (P := l.prog) (w := w) (K := K w.params) (cs := cs) ha hi hl isT nT
  refine told_ofT B KX G.T.g G.T.b G.T.builtins G.T.nolimit hg hr C G.T.bmain hF hb ⟨a, ns, rfl, ?_, hlen, hbits, fun y hy => ?_, fun _ => rfl⟩
  · cases hk : (K w.params).lookup a with
    | none => exact .inl (here hk)
    | some ob =>
      have e := KX a ob hk
      rw [ha] at e
      cases e
      refine .inr ⟨_, vs.toArray, _, hk, rfl, rfl, rfl, ?_, ?_⟩
      · rw [List.size_toArray, hi.length]; exact hl
      · simpa using vals_ints hi
  · obtain ⟨p, hp, e⟩ := hT y hy
    exact LamX.TabS.nil (by rw [← e]; exact B.tb p hp)
end Rm

set_option maxRecDepth 100000
set_option maxHeartbeats 4000000
namespace Rm
open PySem PySem.Spec L2
open PyProof.Rows hiding St

/-! ### for the closing theorems -/
def Ek.cn : Ek → Str
  | .ut => "UnknownTransaction" | .en => "Ended" | .pr => "Prepared" | .fp => "FirstPart" | .so => "StillOpen" | .tm => "TooMany" | .up => "UnknownPart"
theorem exc_mk {P : Program} {w : World} {K : PySem.W.Frag} {mg : Str → Option Value} {EE : EA} {M : Addr} (E : ∀ k : Ek, EF P w K mg (EE.c k) M k.cn k.f) (inj : ∀ k k' : Ek, EE.c k = EE.c k' → k = k')
    (nM : ∀ k : Ek, EE.c k ≠ M) : EXC K mg EE where
  xf := fun k => (E k).xf
  no := fun k => (E k).no
  em := fun k k' => by
    rw [(E k).exm (E k') (nM k')]
    congr 1
    by_cases h : k = k'
    · subst h
      simp
    · rw [decide_eq_false h, decide_eq_false fun q => h (inj _ _ q).symm]
  ut := (E .ut).g
  en := (E .en).g
  pr := (E .pr).g
  fp := (E .fp).g
  so := (E .so).g
  tm := (E .tm).g
  up := (E .up).g
section
variable {P : Program} {w : World} {K : PySem.W.Frag} {mg : Str → Option Value} {base : Heap} {CX : CXT} {k j : Nat} {C : Addr} {x m : Str} {ps : List Str} {sp : Sp}
theorem Ce.mono (D : Ce P w K mg base CX j x ps sp) (h : j ≤ k) : Ce P w K mg base CX k x ps sp :=
  let ⟨f, fd, a, b, c, F⟩ := D
  ⟨f, fd, a, b, c, F.mono h⟩
theorem Cm.mono (D : Cm P w K mg base CX j C m ps sp) (h : j ≤ k) : Cm P w K mg base CX k C m ps sp :=
  let ⟨f, fd, a, b, c, F⟩ := D
  ⟨f, fd, a, b, c, F.mono h⟩
theorem CmK.mono {y : Str} (D : CmK P w K mg base CX j C m ps y sp) (h : j ≤ k) : CmK P w K mg base CX k C m ps y sp :=
  let ⟨f, fd, a, b, c, F⟩ := D
  ⟨f, fd, a, b, c, F.mono h⟩
theorem Cn.mono (D : Cn P w K mg base CX j x C ps sp) (h : j ≤ k) : Cn P w K mg base CX k x C ps sp :=
  let ⟨f, fd, a, b, c, F⟩ := D
  ⟨f, fd, a, b, c, F.mono h⟩
theorem Cp.mono (D : Cp P w K mg base CX j C m sp) (h : j ≤ k) : Cp P w K mg base CX k C m sp :=
  let ⟨p, g, fd, a, b, c, F⟩ := D
  ⟨p, g, fd, a, b, c, F.mono h⟩
end
theorem mo_nil : MO [] := ⟨by decide, fun _ _ => rfl⟩
end Rm

set_option maxRecDepth 100000
set_option maxHeartbeats 4000000
namespace Rm
open PySem PySem.Spec L2
open PyProof.Rows hiding St

/-! ### a list beside an empty one -/
def rNeE (K : PySem.W.Frag) : R2 := fun x y H Q => ∃ a xs b, x = .ref a ∧ SqL K H a xs ∧ y = .ref b ∧ SqL K H b [] ∧ Q (.bl (!xs.isEmpty)) H
theorem op_neE {X : Cx} (hu : X.A.units < cLine) : OpR X (compareOp .NotEq) (rNeE X.K) := by
  intro pins s σ H x y v u Q I rx ry h
  obtain ⟨a, xs, b, rfl, ha, rfl, hb, q⟩ := h
  cases rx
  cases ry
  obtain ⟨its, rv, hl, _⟩ := I.list ha
  obtain ⟨its2, rv2, hl2, _⟩ := I.list hb
  have z2 : its2 = [] := by
    cases rv2
    rfl
  subst z2
  refine PySem.W.cmp_ofNotEq ?_
  cases rv with
  | nil =>
    refine PySem.SeqAt.RcNeAt.lists (e := fun _ => true) hl.isList hl2.isList rfl hu (fun j h1 _ => absurd h1 (by simp)) _ _ _ _ ?_
    exact ⟨.bl _, H, I, rfl, q⟩
  | cons r rs =>
    refine PySem.SeqAt.RcNeAt.lists_lengths hl.isList hl2.isList (by simp) hu _ _ _ _ ?_
    exact ⟨.bl _, H, I, rfl, q⟩
/-! ### data stay where tables grow -/
theorem rd_ext {H H' : Hp} {a : Addr} {u : HO} (e : LamX.ExtN H H') (n : ∀ ps, u ≠ .tbl ps) (h : Rd H a u) : Rd H' a u :=
  h.elim (fun h => .inl (e _ _ h n)) fun ⟨o, h⟩ => .inr ⟨o, e _ _ h fun ps q => by cases q⟩
theorem sq_ext {K : PySem.W.Frag} {H H' : Hp} {a : Addr} {xs : List V} (e : LamX.ExtN H H') (h : SqL K H a xs) : SqL K H' a xs := h.elim (fun h => .inl (rd_ext e (fun _ q => by cases q) h)) .inr
mutual
theorem Dx.ext {K : PySem.W.Frag} {H H' : Hp} (e : LamX.ExtN H H') : ∀ {v : V} {d : PyData}, Dx K H v d → Dx K H' v d
  | _, _, .non => .non
  | _, _, .bl b => .bl b
  | _, _, .int i => .int i
  | _, _, .str x => .str x
  | _, _, .lst h r => .lst (sq_ext e h) (DxAll.ext e r)
  | _, _, .tup h r => .tup (h.elim (fun h => .inl (rd_ext e (fun _ q => by cases q) h)) .inr) (DxAll.ext e r)
  | _, _, .dic h r => .dic (rd_ext e (fun _ q => by cases q) h) (DxKv.ext e r)
theorem DxAll.ext {K : PySem.W.Frag} {H H' : Hp} (e : LamX.ExtN H H') : ∀ {vs : List V} {ds : List PyData}, DxAll K H vs ds → DxAll K H' vs ds
  | _, _, .nil => .nil
  | _, _, .cons h r => .cons (Dx.ext e h) (DxAll.ext e r)
theorem DxKv.ext {K : PySem.W.Frag} {H H' : Hp} (e : LamX.ExtN H H') : ∀ {kvs : List (Key × V)} {es : List (PyData × PyData)}, DxKv K H kvs es → DxKv K H' kvs es
  | _, _, .nil => .nil
  | _, _, .cons h r => .cons (Dx.ext e h) (DxKv.ext e r)
end
/-- what a word hands to an error, as data -/
def Wd.kvD : Wd → Ek → PyData → PyData
  | .begin, _, _ => .int 8
  | _, .tm, _ => .int 5
  | _, _, d => d
theorem dx_kv {K : PySem.W.Frag} {H : Hp} {wd : Wd} {k : Ek} {x : V} {d : PyData} (h : Dx K H x d) : Dx K H (wd.kv k x) (wd.kvD k d) := by
  cases wd <;> cases k <;> first | exact h | exact .int _
theorem sv_kv {wd : Wd} {k : Ek} {d : PyData} (h : Sv d) : Sv (wd.kvD k d) := by
  cases wd <;> cases k <;> first | exact h | exact Sv.int (by decide) (by decide)
theorem sm_nm {z : Str} {d : PyData} (hz : Sv (.str z)) (h : Sv d) : Sm (.list [.str z, d]) :=
  (sm_seq (ds := [.str z, d]) (fun e he => by
    rcases List.mem_cons.mp he with rfl | he
    · exact hz
    · rw [List.mem_singleton.mp he]
      exact h) (show 2 ≤ 40 by decide)).1
theorem dx_nm {K : PySem.W.Frag} {H : Hp} {p : Addr} {z : Str} {x : V} {d : PyData} (h : H p = some (.lst [.str z, x])) (hx : Dx K H x d) : Dx K H (.ref p) (.list [.str z, d]) :=
  .lst (.inl (.inl h)) (.cons (.str _) (.cons hx .nil))
end Rm

set_option maxRecDepth 100000
set_option maxHeartbeats 4000000
namespace Rm
open PySem PySem.Spec L2
open PyProof.Rows hiding St

/-- all but the tape and the list -/
def D2 (H : Hp) (t p : Addr) : Hp := fun b => if b = t ∨ b = p then none else H b
theorem d2_t {H : Hp} {t p : Addr} {o : HO} : D2 (upd H t o) t p = D2 H t p := by
  funext b
  unfold D2
  by_cases h : b = t ∨ b = p
  · rw [if_pos h, if_pos h]
  · rw [if_neg h, if_neg h, upd_ne (fun e => h (.inl e))]
theorem d2_p {H : Hp} {t p : Addr} {o : HO} : D2 (upd H p o) t p = D2 H t p := by
  funext b
  unfold D2
  by_cases h : b = t ∨ b = p
  · rw [if_pos h, if_pos h]
  · rw [if_neg h, if_neg h, upd_ne (fun e => h (.inr e))]
theorem d2_nxt {H H' : Hp} {t p : Addr} (n : Nxt t H H') : Same (D2 H t p) (D2 H' t p) := fun b u h => by
  unfold D2 at h ⊢
  by_cases e : b = t ∨ b = p
  · rw [if_pos e] at h; cases h
  · rw [if_neg e] at h ⊢
    exact n.keep b u h fun z => e (.inl z)
theorem d2_same {H H' : Hp} {t p : Addr} (s : Same H H') : Same (D2 H t p) (D2 H' t p) := fun b u h => by
  unfold D2 at h ⊢
  by_cases e : b = t ∨ b = p
  · rw [if_pos e] at h; cases h
  · rw [if_neg e] at h ⊢
    exact s b u h
theorem d2_nw {H H' : Hp} {t p : Addr} {o u : HO} (ht : H t = some o) (hp : H p = some u) : Same (nw H H') (D2 H' t p) := fun b v h => by
  unfold D2
  have h1 : b ≠ t := fun e => by unfold nw at h; rw [e, ht] at h; cases h
  have h2 : b ≠ p := fun e => by unfold nw at h; rw [e, hp] at h; cases h
  rw [if_neg (fun e => e.elim h1 h2)]
  exact nw_same _ _ h
theorem d2_in {H : Hp} {t p : Addr} : Same (D2 H t p) H := fun b u h => by
  unfold D2 at h
  by_cases e : b = t ∨ b = p
  · rw [if_pos e] at h; cases h
  · rw [if_neg e] at h; exact h
section
variable {C CP : Addr} {T : List (Addr × Str)} {Hs H H' : Hp} {t a b : Addr} {S : FS} {F G : Addr → Prop} {n : Nat}
theorem Wk2.put {D : Addr} {o u : HO} (k : Wk2 C CP T Hs H t a b S F G n) (nF : ¬ F D) (nG : ¬ G D) (ne : D ≠ t) (hs : NewN Hs D) (hD : H D = some u) (hu : (∀ ps, u ≠ .tbl ps) ∧ ∀ g, u ≠ .ext g) : Wk2 C CP T Hs (upd H D o) t a b S F G n := by
  have fr : Fr (· = D) H (upd H D o) := fun x v hx h => (upd_ne h).trans hx
  refine ⟨{ k.k with fs := ?_, wd := ?_, tape := ?_, tabs := ?_, fr := ?_ }, k.tr, k.bn⟩
  · exact k.k.fs.frame fr fun x hx e => nF (by rw [← e]; exact hx)
  · exact k.k.wd.frame fr fun x hx e => nG (by rw [← e]; exact hx)
  · obtain ⟨o', h, r⟩ := k.k.tape
    exact ⟨o', (upd_ne (Ne.symm ne)).trans h, r⟩
  · refine tabs_fr k.k.tabs fr fun x v e hv => ?_
    subst e
    rw [hD] at hv
    obtain rfl := Option.some.inj hv
    exact hu
  · exact fun x v h n m => (upd_ne (hs.off h m)).trans (k.k.fr x v h n m)
theorem Wk2.ext (k : Wk2 C CP T Hs H t a b S F G n) (e : LamX.ExtN H H') (tb : LamX.Tabs T H') : Wk2 C CP T Hs H' t a b S F G n := by
  refine ⟨{ k.k with fs := k.k.fs.ext e, wd := k.k.wd.ext e, tape := ?_, tabs := tb, fr := fun x v h n m => e _ _ (k.k.fr x v h n m) m }, k.tr, k.bn⟩
  obtain ⟨o, h, r⟩ := id k.k.tape
  exact ⟨o, e _ _ h (tape_solid k.k.tape t o rfl h).1, r⟩
end
theorem off_none' {H : Hp} {F : Addr → Prop} {x : Addr} (on : ∀ y, F y → ∃ u, H y = some u) (n : H x = none) : ¬ F x := fun z => by
  obtain ⟨u, hu⟩ := on x z
  rw [n] at hu
  cases hu
theorem dxa_at {K : PySem.W.Frag} {H : Hp} : ∀ {xs : List V} {ds : List PyData}, DxAll K H xs ds → ∀ {i : Nat} {x : V}, xs[i]? = some x → ∃ d, ds[i]? = some d ∧ Dx K H x d
  | _, _, .nil, i, x, h => by cases h
  | _, _, .cons a r, 0, x, h => by cases h; exact ⟨_, rfl, a⟩
  | _, _, .cons a r, i + 1, x, h => dxa_at r h
end Rm

set_option maxRecDepth 100000
set_option maxHeartbeats 4000000
namespace Rm
open PySem PySem.Spec L2
open PyProof.Rows hiding St

/-! ### what is alive -/
def FS.at (S : FS) (q : Int) : Option PI := S.parts[(q - 1).toNat]?
def FS.sk0 (S : FS) (i : Nat) : List Int := S.stacks.getD i []
/-- the open parts of a transaction, and whose a part is -/
structure FS.Al (S : FS) : Prop where
  op : ∀ (i : Nat) (q : Int), q ∈ S.sk0 i → ∃ p, S.at q = some p ∧ p.released = none ∧ p.outcome = "open" ∧ p.holder = (i : Int) + 1
  hd : ∀ (i : Nat) (q : Int), (S.sk0 i)[0]? = some q → ∀ p, S.at q = some p → p.outer = none
  ho : ∀ (j : Nat) (p : PI) (o : Int), S.parts[j]? = some p → p.outer = some o → ∃ p', S.at o = some p' ∧ p'.holder = p.holder
theorem sk0_mem {S : FS} {i : Nat} {q : Int} (h : q ∈ S.sk0 i) : S.sk0 i ∈ S.stacks := by
  unfold FS.sk0 at h ⊢
  by_cases hi : i < S.stacks.length
  · rw [List.getD_eq_getElem?_getD, List.getElem?_eq_getElem hi]
    exact List.getElem_mem hi
  · rw [List.getD_eq_getElem?_getD, List.getElem?_eq_none (by omega)] at h
    cases h
section
variable {S S' : FS} {i : Nat} {q : Int}
theorem FS.Inv.rng (inv : S.Inv) (h : q ∈ S.sk0 i) : 1 ≤ q ∧ q ≤ (S.parts.length : Int) := inv.kp _ (sk0_mem h) q h
theorem at_nat {j : Nat} : S.at ((j : Int) + 1) = S.parts[j]? := by
  unfold FS.at
  rw [Int.add_sub_cancel, Int.toNat_natCast]
theorem root_open (h1 : 1 ≤ q) {p : PI} (h : S.at q = some p) (r : p.released = none) : S.root q = q := by
  obtain ⟨j, rfl⟩ : ∃ j : Nat, q = (j : Int) + 1 := ⟨(q - 1).toNat, by omega⟩
  rw [at_nat] at h
  exact root_here h r
theorem FS.Al.root (al : S.Al) (inv : S.Inv) (h : q ∈ S.sk0 i) : S.root q = q := by
  obtain ⟨p, hp, hr, _⟩ := al.op i q h
  exact root_open (inv.rng h).1 hp hr
theorem FS.Al.out (al : S.Al) (h : q ∈ S.sk0 i) : S.out q = "open" := by
  obtain ⟨p, hp, _, ho, _⟩ := al.op i q h
  unfold FS.out
  unfold FS.at at hp
  rw [hp]
  exact ho
/-- nobody's part is another's -/
theorem FS.Al.one (al : S.Al) {i' : Nat} (h : q ∈ S.sk0 i) (h' : q ∈ S.sk0 i') : i = i' := by
  obtain ⟨p, hp, _, _, e⟩ := al.op i q h
  obtain ⟨p', hp', _, _, e'⟩ := al.op i' q h'
  rw [hp] at hp'
  cases hp'
  omega
/-- inner parts are later ones -/
theorem FS.Inv.next (inv : S.Inv) (tr : S.Tree) {n : Nat} {q' : Int} (h : (S.sk0 i)[n]? = some q') (h1 : (S.sk0 i)[n + 1]? = some q) : q' < q := by
  have m1 := List.mem_of_getElem? h1
  obtain ⟨r1, r2⟩ := inv.rng m1
  have hl : (q - 1).toNat < S.parts.length := by omega
  have hp := List.getElem?_eq_getElem hl
  have := inv.ch _ (sk0_mem m1) n q q' h h1 _ hp
  have := (tr.up _ _ _ hp this).2
  omega
theorem sorted_of {l : List Int} (h : ∀ (n : Nat) (a b : Int), l[n]? = some a → l[n + 1]? = some b → a < b) : l.Pairwise (· < ·) := by
  induction l with
  | nil => exact .nil
  | cons x l ih =>
    have ih := ih fun n a b ha hb => h (n + 1) a b ha hb
    refine List.pairwise_cons.mpr ⟨?_, ih⟩
    cases l with
    | nil => intro y hy; cases hy
    | cons y l =>
      have xy := h 0 x y rfl rfl
      intro z hz
      rcases List.mem_cons.mp hz with rfl | hz
      · exact xy
      · have := (List.pairwise_cons.mp ih).1 z hz
        omega
theorem FS.Inv.srt (inv : S.Inv) (tr : S.Tree) : (S.sk0 i).Pairwise (· < ·) := sorted_of fun _ _ _ ha hb => inv.next tr ha hb
theorem root_nat (tr : S.Tree) {j : Nat} (hj : j < S.parts.length) : ∃ r : Nat, S.root ((j : Int) + 1) = (r : Int) + 1 ∧ r < S.parts.length := root_is tr (j + 1) j (Nat.lt_succ_self _) hj
/-- how a root is reached -/
theorem root_ind (tr : S.Tree) {R : Nat → Int → Prop} (here : ∀ j p, S.parts[j]? = some p → p.released = none → R j ((j : Int) + 1))
    (up : ∀ (j o : Nat) p r, S.parts[j]? = some p → p.released.isSome = true → p.outer = some ((o : Int) + 1) → o < j → R o r → R j r) : ∀ (n j : Nat), j < n → j < S.parts.length → R j (S.root ((j : Int) + 1))
  | 0, j, h, _ => absurd h (Nat.not_lt_zero _)
  | n + 1, j, h, hj => by
    have hp := List.getElem?_eq_getElem hj
    cases r : S.parts[j].released with
    | none => rw [root_here hp r]; exact here j _ hp r
    | some v =>
      have hr : S.parts[j].released.isSome = true := by rw [r]; rfl
      obtain ⟨o, ho⟩ := Option.isSome_iff_exists.mp (tr.rl _ _ hp hr)
      obtain ⟨u1, u2⟩ := tr.up _ _ _ hp ho
      obtain ⟨k, rfl⟩ : ∃ k : Nat, o = (k : Int) + 1 := ⟨(o - 1).toNat, by omega⟩
      rw [root_up tr hp hr ho]
      exact up j k _ _ hp hr ho (by omega) (root_ind tr here up n k (by omega) (by omega))
theorem root_le (tr : S.Tree) {j : Nat} (hj : j < S.parts.length) : S.root ((j : Int) + 1) ≤ (j : Int) + 1 :=
  root_ind (R := fun j r => r ≤ (j : Int) + 1) tr (fun _ _ _ _ => Int.le_refl _) (fun j o p r _ _ _ h ih => by omega) (j + 1) j (Nat.lt_succ_self _) hj
theorem root_rt (tr : S.Tree) {j : Nat} (hj : j < S.parts.length) : S.root (S.root ((j : Int) + 1)) = S.root ((j : Int) + 1) :=
  root_ind (R := fun _ r => S.root r = r) tr (fun j p h r => root_here h r) (fun _ _ _ _ _ _ _ _ ih => ih) (j + 1) j (Nat.lt_succ_self _) hj
theorem root_rel (tr : S.Tree) {j : Nat} (hj : j < S.parts.length) : ∃ p, S.at (S.root ((j : Int) + 1)) = some p ∧ p.released = none :=
  root_ind (R := fun _ r => ∃ p, S.at r = some p ∧ p.released = none) tr (fun j p h r => ⟨p, by rw [at_nat]; exact h, r⟩) (fun _ _ _ _ _ _ _ _ ih => ih) (j + 1) j (Nat.lt_succ_self _) hj
theorem root_ho (tr : S.Tree) (al : S.Al) {j : Nat} (hj : j < S.parts.length) : (S.at (S.root ((j : Int) + 1))).map PI.holder = (S.parts[j]?).map PI.holder := by
  refine root_ind (R := fun j r => (S.at r).map PI.holder = (S.parts[j]?).map PI.holder) tr (fun j p h r => by rw [at_nat]) (fun j o p r h hr ho lt ih => ?_) (j + 1) j (Nat.lt_succ_self _) hj
  obtain ⟨p', hp', e⟩ := al.ho j p _ h ho
  rw [at_nat] at hp'
  rw [ih, h, hp', Option.map_some, Option.map_some, e]
/-! ### what an operation makes of it -/
/-- ends: the last open parts of a transaction -/
structure EndS (S S' : FS) (i : Nat) (l1 l2 : List Int) (z : Str) (dn : Int) : Prop where
  sp : S.sk0 i = l1 ++ l2
  nw : S'.sk0 i = l1
  ot : ∀ i', i' ≠ i → S'.sk0 i' = S.sk0 i'
  ln : S'.parts.length = S.parts.length
  pt : ∀ (j : Nat) p, S.parts[j]? = some p → S'.parts[j]? = some (if (j : Int) + 1 ∈ l2 then { p with ended := some dn, outcome := z } else p)
  nz : z ≠ "open"
/-- a release -/
structure RelS (S S' : FS) (i : Nat) (l1 : List Int) (q0 q1 : Int) (dn : Int) : Prop where
  sp : S.sk0 i = l1 ++ [q1, q0]
  nw : S'.sk0 i = l1 ++ [q1]
  ot : ∀ i', i' ≠ i → S'.sk0 i' = S.sk0 i'
  ln : S'.parts.length = S.parts.length
  pt : ∀ (j : Nat) p, S.parts[j]? = some p → S'.parts[j]? = some (if (j : Int) + 1 = q0 then { p with released := some dn } else p)
/-- one part more -/
structure OpnS (S S' : FS) (i : Nat) (o : Option Int) : Prop where
  nw : S'.sk0 i = S.sk0 i ++ [(S.parts.length : Int) + 1]
  ot : ∀ i', i' ≠ i → S'.sk0 i' = S.sk0 i'
  pt : S'.parts = S.parts ++ [⟨(i : Int) + 1, o, none, none, "open"⟩]
  fs : o = none → S.sk0 i = []
  nx : ∀ q, o = some q → q ∈ S.sk0 i
end
end Rm

set_option maxRecDepth 100000
set_option maxHeartbeats 4000000
namespace Rm
open PySem PySem.Spec L2
open PyProof.Rows hiding St

section
variable {S S' : FS} {i : Nat} {q q0 q1 dn : Int} {l1 l2 : List Int} {z : Str} {o : Option Int}
theorem at_ix (h1 : 1 ≤ q) : ∃ j : Nat, q = (j : Int) + 1 ∧ S.at q = S.parts[j]? := by
  refine ⟨(q - 1).toNat, by omega, rfl⟩
theorem root_keep (tr : S.Tree) (tr' : S'.Tree) (h : ∀ (j : Nat) p, S.parts[j]? = some p → ∃ p', S'.parts[j]? = some p' ∧ p'.outer = p.outer ∧ p'.released = p.released) {j : Nat} (hj : j < S.parts.length) : S'.root ((j : Int) + 1) = S.root ((j : Int) + 1) := by
  refine root_ind (R := fun j r => S'.root ((j : Int) + 1) = r) tr (fun j p hp hr => ?_) (fun j o p r hp hr ho lt ih => ?_) (j + 1) j (Nat.lt_succ_self _) hj
  · obtain ⟨p', h', _, e⟩ := h j p hp
    exact root_here h' (e.trans hr)
  · obtain ⟨p', h', e1, e2⟩ := h j p hp
    rw [root_up tr' h' (by rw [e2]; exact hr) (e1.trans ho)]
    exact ih
theorem EndS.at (e : EndS S S' i l1 l2 z dn) {p : PI} (h1 : 1 ≤ q) (h : S.at q = some p) : S'.at q = some (if q ∈ l2 then { p with ended := some dn, outcome := z } else p) := by
  obtain ⟨j, rfl, _⟩ := at_ix (S := S) h1
  rw [at_nat] at h ⊢
  exact e.pt j p h
theorem EndS.root (e : EndS S S' i l1 l2 z dn) (tr : S.Tree) (tr' : S'.Tree) {j : Nat} (hj : j < S.parts.length) : S'.root ((j : Int) + 1) = S.root ((j : Int) + 1) :=
  root_keep tr tr' (fun j p hp => ⟨_, e.pt j p hp, by split <;> rfl, by split <;> rfl⟩) hj
theorem RelS.at (e : RelS S S' i l1 q0 q1 dn) {p : PI} (h1 : 1 ≤ q) (h : S.at q = some p) : S'.at q = some (if q = q0 then { p with released := some dn } else p) := by
  obtain ⟨j, rfl, _⟩ := at_ix (S := S) h1
  rw [at_nat] at h ⊢
  exact e.pt j p h
theorem nodup_of (inv : S.Inv) (tr : S.Tree) : (S.sk0 i).Nodup := (inv.srt tr).imp fun h => by omega
theorem RelS.ne (e : RelS S S' i l1 q0 q1 dn) (inv : S.Inv) (tr : S.Tree) : q1 ≠ q0 ∧ q0 ∉ l1 := by
  have nd := nodup_of (i := i) inv tr
  rw [e.sp, List.nodup_append] at nd
  obtain ⟨_, h2, h3⟩ := nd
  refine ⟨fun q => ?_, fun hm => h3 _ hm q0 (by simp) rfl⟩
  rw [q] at h2
  simp at h2
theorem RelS.mem (e : RelS S S' i l1 q0 q1 dn) : q0 ∈ S.sk0 i ∧ q1 ∈ S.sk0 i := by
  rw [e.sp]
  simp
theorem RelS.outer (e : RelS S S' i l1 q0 q1 dn) (inv : S.Inv) {p : PI} (h : S.at q0 = some p) : p.outer = some q1 := by
  refine inv.ch _ (sk0_mem e.mem.1) l1.length q0 q1 ?_ ?_ p h
  · rw [e.sp, List.getElem?_append_right (Nat.le_refl _), Nat.sub_self]; rfl
  · rw [e.sp, List.getElem?_append_right (by omega), Nat.add_sub_cancel_left]; rfl
theorem RelS.root (e : RelS S S' i l1 q0 q1 dn) (inv : S.Inv) (tr : S.Tree) (tr' : S'.Tree) (al : S.Al) {j : Nat} (hj : j < S.parts.length) :
    S'.root ((j : Int) + 1) = if S.root ((j : Int) + 1) = q0 then q1 else S.root ((j : Int) + 1) := by
  obtain ⟨p0, hp0, r0, _, _⟩ := al.op i q0 e.mem.1
  obtain ⟨p1, hp1, r1, _, _⟩ := al.op i q1 e.mem.2
  have b1 := inv.rng e.mem.2
  refine root_ind (R := fun j r => S'.root ((j : Int) + 1) = if r = q0 then q1 else r) tr (fun j p hp hr => ?_) (fun j o p r hp hr ho lt ih => ?_) (j + 1) j (Nat.lt_succ_self _) hj
  · have h' := e.pt j p hp
    by_cases c : (j : Int) + 1 = q0
    · rw [if_pos c] at h' ⊢
      have ho : p.outer = some q1 := e.outer inv (by rw [← c, at_nat]; exact hp)
      rw [root_up tr' h' rfl ho]
      have := e.at b1.1 hp1
      rw [if_neg (e.ne inv tr).1] at this
      exact root_open b1.1 this r1
    · rw [if_neg c] at h' ⊢
      exact root_here h' hr
  · have h' := e.pt j p hp
    have c : ¬ (j : Int) + 1 = q0 := fun c => by
      rw [← c, at_nat, hp] at hp0
      cases hp0
      rw [r0] at hr
      cases hr
    rw [if_neg c] at h'
    rw [root_up tr' h' hr ho]
    exact ih
theorem OpnS.pat (e : OpnS S S' i o) {j : Nat} {p : PI} (h : S.parts[j]? = some p) : S'.parts[j]? = some p := by
  rw [e.pt, List.getElem?_append_left (List.getElem?_eq_some_iff.mp h).1]
  exact h
theorem OpnS.at (e : OpnS S S' i o) {p : PI} (h : S.at q = some p) : S'.at q = some p := e.pat h
theorem OpnS.root (e : OpnS S S' i o) (tr : S.Tree) (tr' : S'.Tree) {j : Nat} (hj : j < S.parts.length) : S'.root ((j : Int) + 1) = S.root ((j : Int) + 1) :=
  root_keep tr tr' (fun j p hp => ⟨_, e.pat hp, rfl, rfl⟩) hj
/-- one move -/
inductive Mv (S S' : FS) : Prop
  | no (h1 : ∀ k, S'.sk0 k = S.sk0 k) (h2 : S'.parts = S.parts)
  | en (k : Nat) (m1 m2 : List Int) (y : Str) (d : Int) (h : EndS S S' k m1 m2 y d)
  | re (k : Nat) (m1 : List Int) (x0 x1 d : Int) (h : RelS S S' k m1 x0 x1 d)
  | op (k : Nat) (x : Option Int) (h : OpnS S S' k x)
theorem Mv.len (s : Mv S S') : S.parts.length ≤ S'.parts.length := by
  cases s with
  | no h1 h2 => rw [h2]; exact Nat.le_refl _
  | en _ _ _ _ _ h => rw [h.ln]; exact Nat.le_refl _
  | re _ _ _ _ _ h => rw [h.ln]; exact Nat.le_refl _
  | op _ _ h => rw [h.pt, List.length_append]; omega
theorem root_cong (h : S'.parts = S.parts) : ∀ (n : Nat) (q : Int), rootN S' n q = rootN S n q
  | 0, _ => rfl
  | n + 1, q => by
    unfold rootN
    rw [h]
    cases S.parts[(q - 1).toNat]? with
    | none => rfl
    | some p =>
      dsimp only
      split
      · exact root_cong h n _
      · rfl
theorem al_step (inv : S.Inv) (tr : S.Tree) (al : S.Al) (s : Mv S S') : S'.Al := by
  cases s with
  | no h1 h2 =>
    have ha : ∀ q, S'.at q = S.at q := fun q => by unfold FS.at; rw [h2]
    exact ⟨fun i q h => by rw [ha]; exact al.op i q (h1 i ▸ h), fun i q h p hp => al.hd i q (h1 i ▸ h) p (ha q ▸ hp), fun j p o h e => by rw [ha]; exact al.ho j p o (h2 ▸ h) e⟩
  | en i l1 l2 z dn e =>
    have nd := nodup_of (i := i) inv tr
    rw [e.sp, List.nodup_append] at nd
    have bk : ∀ (j : Nat) p', S'.parts[j]? = some p' → ∃ p, S.parts[j]? = some p ∧ p'.outer = p.outer ∧ p'.holder = p.holder := fun j p' h => by
      have hl : j < S.parts.length := by rw [← e.ln]; exact (List.getElem?_eq_some_iff.mp h).1
      have hp := List.getElem?_eq_getElem hl
      have := (e.pt j _ hp).symm.trans h
      cases this
      exact ⟨_, hp, by split <;> rfl, by split <;> rfl⟩
    have off : ∀ i' q, q ∈ S'.sk0 i' → q ∈ S.sk0 i' ∧ q ∉ l2 := fun i' q h => by
      by_cases c : i' = i
      · subst c
        rw [e.nw] at h
        exact ⟨by rw [e.sp]; exact List.mem_append_left _ h, fun h2 => nd.2.2 _ h _ h2 rfl⟩
      · rw [e.ot _ c] at h
        exact ⟨h, fun h2 => c (al.one h (by rw [e.sp]; exact List.mem_append_right _ h2))⟩
    refine ⟨fun i' q h => ?_, fun i' q h p hp => ?_, fun j p o h ho => ?_⟩
    · obtain ⟨h0, n⟩ := off i' q h
      obtain ⟨p, hp, r⟩ := al.op i' q h0
      have := e.at (inv.rng h0).1 hp
      rw [if_neg n] at this
      exact ⟨p, this, r⟩
    · have m := off i' q (List.mem_of_getElem? h)
      obtain ⟨p0, hp0, ho, _⟩ := bk _ _ hp
      rw [ho]
      refine al.hd i' q ?_ p0 hp0
      by_cases c : i' = i
      · subst c
        rw [e.nw] at h
        rw [e.sp, List.getElem?_append_left (List.getElem?_eq_some_iff.mp h).1]
        exact h
      · rw [← e.ot _ c]
        exact h
    · obtain ⟨p0, hp0, e1, e2⟩ := bk _ _ h
      obtain ⟨p', hp', e3⟩ := al.ho j p0 o hp0 (e1 ▸ ho)
      have b := tr.up j p0 o hp0 (e1 ▸ ho)
      refine ⟨_, e.at b.1 hp', ?_⟩
      rw [e2, ← e3]
      split <;> rfl
  | re i l1 q0 q1 dn e =>
    have ne := e.ne inv tr
    have bk : ∀ (j : Nat) p', S'.parts[j]? = some p' → ∃ p, S.parts[j]? = some p ∧ p'.outer = p.outer ∧ p'.holder = p.holder := fun j p' h => by
      have hl : j < S.parts.length := by rw [← e.ln]; exact (List.getElem?_eq_some_iff.mp h).1
      have hp := List.getElem?_eq_getElem hl
      have := (e.pt j _ hp).symm.trans h
      cases this
      exact ⟨_, hp, by split <;> rfl, by split <;> rfl⟩
    have off : ∀ i' q, q ∈ S'.sk0 i' → q ∈ S.sk0 i' ∧ q ≠ q0 := fun i' q h => by
      by_cases c : i' = i
      · subst c
        rw [e.nw] at h
        refine ⟨by
          rw [e.sp]
          rcases List.mem_append.mp h with h | h
          · exact List.mem_append_left _ h
          · rw [List.mem_singleton.mp h]; simp, fun h2 => ?_⟩
        subst h2
        rcases List.mem_append.mp h with h | h
        · exact ne.2 h
        · exact ne.1 (List.mem_singleton.mp h).symm
      · rw [e.ot _ c] at h
        exact ⟨h, fun h2 => c (al.one (h2 ▸ h) e.mem.1)⟩
    refine ⟨fun i' q h => ?_, fun i' q h p hp => ?_, fun j p o h ho => ?_⟩
    · obtain ⟨h0, n⟩ := off i' q h
      obtain ⟨p, hp, r⟩ := al.op i' q h0
      have := e.at (inv.rng h0).1 hp
      rw [if_neg n] at this
      exact ⟨p, this, r⟩
    · obtain ⟨p0, hp0, ho, _⟩ := bk _ _ hp
      rw [ho]
      refine al.hd i' q ?_ p0 hp0
      by_cases c : i' = i
      · subst c
        rw [e.nw] at h
        rw [e.sp, show l1 ++ [q1, q0] = (l1 ++ [q1]) ++ [q0] by simp, List.getElem?_append_left (List.getElem?_eq_some_iff.mp h).1]
        exact h
      · rw [← e.ot _ c]
        exact h
    · obtain ⟨p0, hp0, e1, e2⟩ := bk _ _ h
      obtain ⟨p', hp', e3⟩ := al.ho j p0 o hp0 (e1 ▸ ho)
      have b := tr.up j p0 o hp0 (e1 ▸ ho)
      refine ⟨_, e.at b.1 hp', ?_⟩
      rw [e2, ← e3]
      split <;> rfl
  | op i o e =>
    refine ⟨fun i' q h => ?_, fun i' q h p hp => ?_, fun j p q h ho => ?_⟩
    · by_cases c : i' = i
      · subst c
        rw [e.nw] at h
        rcases List.mem_append.mp h with h | h
        · obtain ⟨p, hp, r⟩ := al.op i' q h
          exact ⟨p, e.at hp, r⟩
        · rw [List.mem_singleton.mp h]
          exact ⟨_, by rw [at_nat, e.pt, List.getElem?_append_right (Nat.le_refl _), Nat.sub_self]; rfl, rfl, rfl, rfl⟩
      · rw [e.ot _ c] at h
        obtain ⟨p, hp, r⟩ := al.op i' q h
        exact ⟨p, e.at hp, r⟩
    · have old : ∀ q', q' ∈ S.sk0 i' → (S.sk0 i')[0]? = some q' → q' = q → p.outer = none := fun q' m h0 e' => by
        subst e'
        obtain ⟨p1, hp1, _⟩ := al.op i' q' m
        have := (e.at hp1).symm.trans hp
        cases this
        exact al.hd i' q' h0 _ hp1
      by_cases c : i' = i
      · subst c
        rw [e.nw] at h
        cases hs : S.sk0 i' with
        | nil =>
          rw [hs] at h
          cases h
          rw [at_nat, e.pt, List.getElem?_append_right (Nat.le_refl _), Nat.sub_self] at hp
          cases hp
          show o = none
          cases ho : o with
          | none => rfl
          | some x =>
            have := e.nx x ho
            rw [hs] at this
            cases this
        | cons x l =>
          rw [hs] at h
          refine old x (by rw [hs]; exact .head _) (by rw [hs]; rfl) ?_
          have h : some x = some q := h
          exact Option.some.inj h
      · rw [e.ot _ c] at h
        exact old q (List.mem_of_getElem? h) h rfl
    · rw [e.pt] at h
      by_cases lt : j < S.parts.length
      · rw [List.getElem?_append_left lt] at h
        obtain ⟨p', hp', e'⟩ := al.ho j p q h ho
        exact ⟨p', e.at hp', e'⟩
      · have lj := (List.getElem?_eq_some_iff.mp h).1
        rw [List.length_append, List.length_singleton] at lj
        have : j = S.parts.length := by omega
        subst this
        rw [List.getElem?_append_right (Nat.le_refl _), Nat.sub_self] at h
        cases h
        obtain ⟨p', hp', _, _, e'⟩ := al.op i q (e.nx q ho)
        exact ⟨p', e.at hp', e'⟩
end
end Rm

set_option maxRecDepth 100000
set_option maxHeartbeats 4000000
namespace Rm
open PySem PySem.Spec L2
open PyProof.Rows hiding St

/-- a part that is no longer alive -/
structure Gone (S : FS) (q : Int) (f : Str) (e : Option Int) : Prop where
  rng : 1 ≤ q ∧ q ≤ (S.parts.length : Int)
  no : S.out (S.root q) ≠ "open"
  fa : S.out (S.root q) = f
  en : (S.at (S.root q)).bind PI.ended = e
/-- what became of a chain of open parts: the first stay open, the next are the last open one's, the rest is over -/
structure ChI (S : FS) (i : Nat) (c : List Int) (j l : Nat) : Prop where
  jl : j ≤ l
  lc : l ≤ c.length
  pos : j < l → 1 ≤ j
  pre : ∀ n, n < j → c[n]? = (S.sk0 i)[n]?
  mid : ∀ (n : Nat) q, c[n]? = some q → j ≤ n → n < l → c[j - 1]? = some (S.root q)
  en : ∀ (n : Nat) q, c[n]? = some q → l ≤ n → S.out (S.root q) ≠ "open"
  rng : ∀ q ∈ c, 1 ≤ q ∧ q ≤ (S.parts.length : Int)
  srt : c.Pairwise (· < ·)
def ChE (S : FS) (c : List Int) : Prop := ∃ i j l, ChI S i c j l
section
variable {S S' : FS} {i : Nat} {q q0 q1 dn : Int} {l1 l2 c : List Int} {z f : Str} {o e : Option Int}
theorem out_of_at (h : S'.at q = S.at q) : S'.out q = S.out q := by
  unfold FS.out
  unfold FS.at at h
  rw [h]
theorem gone_same (g : Gone S q f e) (ln : S.parts.length ≤ S'.parts.length) (hr : S'.root q = S.root q) (ha : S'.at (S.root q) = S.at (S.root q)) : Gone S' q f e :=
  ⟨⟨g.rng.1, by have := g.rng.2; omega⟩, by rw [hr, out_of_at ha]; exact g.no, by rw [hr, out_of_at ha]; exact g.fa, by rw [hr, ha]; exact g.en⟩
theorem root_at (tr : S.Tree) (h1 : 1 ≤ q) (h2 : q ≤ (S.parts.length : Int)) : ∃ j r : Nat, q = (j : Int) + 1 ∧ j < S.parts.length ∧ S.root q = (r : Int) + 1 ∧ r < S.parts.length ∧ ∃ p, S.at (S.root q) = some p := by
  obtain ⟨j, rfl⟩ : ∃ j : Nat, q = (j : Int) + 1 := ⟨(q - 1).toNat, by omega⟩
  obtain ⟨r, er, hr⟩ := root_nat tr (j := j) (by omega)
  exact ⟨j, r, rfl, by omega, er, hr, _, by rw [er, at_nat]; exact List.getElem?_eq_getElem hr⟩
theorem gone_step (inv : S.Inv) (tr : S.Tree) (tr' : S'.Tree) (al : S.Al) (g : Gone S q f e) (s : Mv S S') : Gone S' q f e := by
  obtain ⟨j, r, rfl, hj, er, hr, p, hp⟩ := root_at tr g.rng.1 g.rng.2
  have ln := s.len
  have r1 : 1 ≤ S.root ((j : Int) + 1) := by omega
  cases s with
  | no h1 h2 => exact gone_same g ln (root_cong h2 _ _) (by unfold FS.at; rw [h2])
  | en k m1 m2 y d h =>
    have n : S.root ((j : Int) + 1) ∉ m2 := fun m => g.no (al.out (i := k) (by rw [h.sp]; exact List.mem_append_right _ m))
    have a := h.at r1 hp
    rw [if_neg n] at a
    exact gone_same g ln (h.root tr tr' hj) (a.trans hp.symm)
  | re k m1 x0 x1 d h =>
    have n : S.root ((j : Int) + 1) ≠ x0 := fun m => g.no (al.out (i := k) (by rw [m]; exact h.mem.1))
    have a := h.at r1 hp
    rw [if_neg n] at a
    have rt := h.root inv tr tr' al hj
    rw [if_neg n] at rt
    exact gone_same g ln rt (a.trans hp.symm)
  | op k x h => exact gone_same g ln (h.root tr tr' hj) ((h.at hp).trans hp.symm)
theorem ChI.gone {j l n : Nat} (k : ChI S i c j l) (h : c[n]? = some q) (hn : l ≤ n) : Gone S q (S.out (S.root q)) ((S.at (S.root q)).bind PI.ended) := ⟨k.rng q (List.mem_of_getElem? h), k.en n q h hn, rfl, rfl⟩
/-- those that are alive have an open root -/
theorem ChI.here {j l n : Nat} (inv : S.Inv) (al : S.Al) (k : ChI S i c j l) (h : c[n]? = some q) (hn : n < l) : ∃ m, m < j ∧ (m = n ∧ n < j ∨ m = j - 1 ∧ j ≤ n) ∧ (S.sk0 i)[m]? = some (S.root q) ∧ c[m]? = some (S.root q) := by
  by_cases hj : n < j
  · have e := k.pre n hj
    rw [h] at e
    have m := List.mem_of_getElem? e.symm
    have := al.root inv m
    exact ⟨n, hj, .inl ⟨rfl, hj⟩, by rw [this]; exact e.symm, by rw [this]; exact h⟩
  · have p := k.pos (by omega)
    have m := k.mid n q h (by omega) hn
    have e := k.pre (j - 1) (by omega)
    rw [m] at e
    exact ⟨j - 1, by omega, .inr ⟨rfl, by omega⟩, e.symm, m⟩
theorem ChI.keep {j l : Nat} (inv : S.Inv) (tr : S.Tree) (tr' : S'.Tree) (al : S.Al) (k : ChI S i c j l) (s : Mv S S') (hp : ∀ n, n < j → ∀ q, (S.sk0 i)[n]? = some q → (S'.sk0 i)[n]? = some q) (hr : ∀ n q, n < l → c[n]? = some q → S'.root q = S.root q) : ChI S' i c j l where
  jl := k.jl
  lc := k.lc
  pos := k.pos
  pre := fun n hn => by
    have hc : n < c.length := by have := k.jl; have := k.lc; omega
    have e := k.pre n hn
    rw [List.getElem?_eq_getElem hc] at e ⊢
    exact (hp n hn _ e.symm).symm
  mid := fun n q h h1 h2 => by rw [hr n q h2 h]; exact k.mid n q h h1 h2
  en := fun n q h h1 => (gone_step inv tr tr' al (k.gone h h1) s).no
  rng := fun q h => ⟨(k.rng q h).1, by have := (k.rng q h).2; have := s.len; omega⟩
  srt := k.srt
theorem ce_step (inv : S.Inv) (tr : S.Tree) (tr' : S'.Tree) (al : S.Al) (g : ChE S c) (s : Mv S S') : ChE S' c := by
  obtain ⟨i, j, l, k⟩ := g
  have jn : ∀ {n q}, n < l → c[n]? = some q → ∃ a : Nat, q = (a : Int) + 1 ∧ a < S.parts.length := fun {n q} _ h => by
    obtain ⟨b1, b2⟩ := k.rng q (List.mem_of_getElem? h)
    exact ⟨(q - 1).toNat, by omega, by omega⟩
  cases s with
  | no h1 h2 => exact ⟨i, j, l, k.keep inv tr tr' al (.no h1 h2) (fun n _ q h => by rw [h1]; exact h) fun n q _ _ => root_cong h2 _ _⟩
  | en a m1 m2 y d h =>
    have hr : ∀ n q, n < l → c[n]? = some q → S'.root q = S.root q := fun n q hn hc => by
      obtain ⟨x, rfl, hx⟩ := jn hn hc
      exact h.root tr tr' hx
    by_cases ca : a = i
    · subst ca
      by_cases lt : j ≤ m1.length
      · exact ⟨a, j, l, k.keep inv tr tr' al (.en _ _ _ _ _ h) (fun n hn q hq => by
          rw [h.sp, List.getElem?_append_left (by omega)] at hq
          rw [h.nw]; exact hq) hr⟩
      · refine ⟨a, m1.length, m1.length, Nat.le_refl _, by have := k.jl; have := k.lc; omega, (fun h => absurd h (Nat.lt_irrefl _)), fun n hn => ?_, fun n q _ h1 h2 => by omega, fun n q hc hn => ?_, fun q hq => ⟨(k.rng q hq).1, by have := (k.rng q hq).2; rw [h.ln]; exact this⟩, k.srt⟩
        · rw [k.pre n (by omega), h.sp, List.getElem?_append_left hn, h.nw]
        · by_cases ll : l ≤ n
          · exact (gone_step inv tr tr' al (k.gone hc ll) (.en _ _ _ _ _ h)).no
          · obtain ⟨m, mj, mm, ms, _⟩ := k.here inv al hc (by omega)
            have mg : m1.length ≤ m := by omega
            rw [h.sp, List.getElem?_append_right mg] at ms
            have m2m := List.mem_of_getElem? ms
            rw [hr n q (by omega) hc]
            obtain ⟨_, r, _, _, er, _, p, hp⟩ := root_at tr (k.rng q (List.mem_of_getElem? hc)).1 (k.rng q (List.mem_of_getElem? hc)).2
            have ha := h.at (by omega) hp
            rw [if_pos m2m] at ha
            have : S'.out (S.root q) = y := by
              unfold FS.out
              unfold FS.at at ha
              rw [ha]
              rfl
            rw [this]
            exact h.nz
    · exact ⟨i, j, l, k.keep inv tr tr' al (.en _ _ _ _ _ h) (fun n hn q hq => by rw [h.ot i (Ne.symm ca)]; exact hq) hr⟩
  | re a m1 x0 x1 d h =>
    have rr : ∀ n q, n < l → c[n]? = some q → S'.root q = if S.root q = x0 then x1 else S.root q := fun n q hn hc => by
      obtain ⟨x, rfl, hx⟩ := jn hn hc
      exact h.root inv tr tr' al hx
    have ne := h.ne inv tr
    by_cases ca : a = i
    · subst ca
      by_cases lt : j ≤ m1.length + 1
      · have sub : ∀ n, n < j → ∀ q, (S.sk0 a)[n]? = some q → (S'.sk0 a)[n]? = some q ∧ q ≠ x0 := fun n hn q hq => by
          rw [h.sp, show m1 ++ [x1, x0] = (m1 ++ [x1]) ++ [x0] by simp, List.getElem?_append_left (by rw [List.length_append, List.length_singleton]; omega)] at hq
          refine ⟨by rw [h.nw]; exact hq, fun e => ?_⟩
          rcases List.mem_append.mp (List.mem_of_getElem? hq) with m | m
          · exact ne.2 (e ▸ m)
          · exact ne.1 (by rw [← List.mem_singleton.mp m]; exact e)
        exact ⟨a, j, l, k.keep inv tr tr' al (.re _ _ _ _ _ h) (fun n hn q hq => (sub n hn q hq).1) fun n q hn hc => by
          obtain ⟨m, mj, _, ms, _⟩ := k.here inv al hc hn
          rw [rr n q hn hc, if_neg (sub m mj _ ms).2]⟩
      · have jc : j ≤ c.length := Nat.le_trans k.jl k.lc
        have sl : (S.sk0 a).length = m1.length + 2 := by rw [h.sp, List.length_append]; rfl
        have j2 : j = m1.length + 2 := by
          have e := k.pre (j - 1) (by omega)
          rw [List.getElem?_eq_getElem (by omega)] at e
          have := (List.getElem?_eq_some_iff.mp e.symm).1
          omega
        have s1 : (S.sk0 a)[m1.length]? = some x1 := by
          rw [h.sp, List.getElem?_append_right (Nat.le_refl _), Nat.sub_self]; rfl
        have s0 : (S.sk0 a)[m1.length + 1]? = some x0 := by
          rw [h.sp, List.getElem?_append_right (by omega), Nat.add_sub_cancel_left]; rfl
        refine ⟨a, m1.length + 1, l, by have := k.jl; omega, k.lc, (fun _ => by omega), fun n hn => ?_, fun n q hc h1 h2 => ?_, fun n q hc hn => (gone_step inv tr tr' al (k.gone hc hn) (.re _ _ _ _ _ h)).no, fun q hq => ⟨(k.rng q hq).1, by have := (k.rng q hq).2; rw [h.ln]; exact this⟩, k.srt⟩
        · rw [k.pre n (by omega), h.sp, show m1 ++ [x1, x0] = (m1 ++ [x1]) ++ [x0] by simp, List.getElem?_append_left (by rw [List.length_append, List.length_singleton]; omega), h.nw]
        · obtain ⟨m, mj, mm, ms, _⟩ := k.here inv al hc h2
          have : m = m1.length + 1 := by omega
          rw [this, s0] at ms
          rw [rr n q h2 hc, if_pos (Option.some.inj ms).symm, Nat.add_sub_cancel, k.pre _ (by omega)]
          exact s1
    · have rt : ∀ n q, n < l → c[n]? = some q → S'.root q = S.root q := fun n q hn hc => by
        obtain ⟨m, mj, _, ms, _⟩ := k.here inv al hc hn
        have nx : S.root q ≠ x0 := fun e => ca (al.one h.mem.1 (by rw [← e]; exact List.mem_of_getElem? ms))
        rw [rr n q hn hc, if_neg nx]
      exact ⟨i, j, l, k.keep inv tr tr' al (.re _ _ _ _ _ h) (fun n hn q hq => by rw [h.ot i (Ne.symm ca)]; exact hq) rt⟩
  | op a x h =>
    refine ⟨i, j, l, k.keep inv tr tr' al (.op _ _ h) (fun n hn q hq => ?_) fun n q hn hc => ?_⟩
    · by_cases ca : i = a
      · subst ca
        rw [h.nw, List.getElem?_append_left (List.getElem?_eq_some_iff.mp hq).1]
        exact hq
      · rw [h.ot i ca]; exact hq
    · obtain ⟨y, rfl, hy⟩ := jn hn hc
      exact h.root tr tr' hy
theorem ch_new (inv : S.Inv) (tr : S.Tree) (i : Nat) : ChE S (S.sk0 i) :=
  ⟨i, (S.sk0 i).length, (S.sk0 i).length, Nat.le_refl _, Nat.le_refl _, (fun h => absurd h (Nat.lt_irrefl _)), fun _ _ => rfl, fun n q _ h1 h2 => by omega, fun n q h hn => by
    have := (List.getElem?_eq_some_iff.mp h).1
    omega, fun q h => inv.rng h, inv.srt tr⟩
/-! ### every operation is made of such moves -/
def Cls (R : FS → Prop) : Prop := ∀ S S', S.Inv → S.Tree → S'.Tree → S.Al → R S → Mv S S' → R S'
theorem endAll_at {z : Str} : ∀ (l : List Int) (S : FS), (∀ q ∈ l, 1 ≤ q) → ∀ (j : Nat) p, S.parts[j]? = some p → (S.endAll z l).parts[j]? = some (if (j : Int) + 1 ∈ l then { p with ended := some S.done, outcome := z } else p)
  | [], S, _, j, p, h => by simpa [FS.endAll] using h
  | q :: l, S, hl, j, p, h => by
    have h1 := hl q (.head _)
    have e : (S.endP q z).parts[j]? = some (if (j : Int) + 1 = q then { p with ended := some S.done, outcome := z } else p) := by
      show (S.parts.modify (q - 1).toNat fun p => { p with ended := some S.done, outcome := z })[j]? = _
      rw [List.getElem?_modify, h]
      simp only [Option.map_eq_map, Option.map_some]
      by_cases c : (j : Int) + 1 = q
      · rw [if_pos c, if_pos (show (q - 1).toNat = j by omega)]
      · rw [if_neg c, if_neg (show ¬ (q - 1).toNat = j by omega)]
    have := endAll_at (z := z) l (S.endP q z) (fun q' h' => hl q' (.tail _ h')) j _ e
    show ((S.endP q z).endAll z l).parts[j]? = _
    rw [this]
    congr 1
    show (if (j : Int) + 1 ∈ l then { (if (j : Int) + 1 = q then { p with ended := some S.done, outcome := z } else p) with ended := some S.done, outcome := z } else (if (j : Int) + 1 = q then { p with ended := some S.done, outcome := z } else p)) = _
    by_cases c : (j : Int) + 1 = q
    · simp [c]
    · by_cases d : (j : Int) + 1 ∈ l
      · simp [c, d]
      · simp [c, d]
theorem set_sk {l : List Int} {k : Nat} (hk : k < S.stacks.length) : (S.stacks.set k l).getD k [] = l := by
  rw [List.getD_eq_getElem?_getD, List.getElem?_set_self hk]
  rfl
theorem set_sk_ne {l : List Int} {k k' : Nat} (hk : k' ≠ k) : (S.stacks.set k l).getD k' [] = S.stacks.getD k' [] := by
  rw [List.getD_eq_getElem?_getD, List.getElem?_set_ne (Ne.symm hk), ← List.getD_eq_getElem?_getD]
theorem endT_mv (inv : S.Inv) {k : Nat} (hk : k < S.states.length) {st z : Str} (hz : z ≠ "open") : Mv S (S.endT k st z) := by
  have hk' : k < S.stacks.length := by rw [inv.ls]; exact hk
  refine .en k [] (S.sk0 k) z S.done ⟨rfl, set_sk hk', fun k' h => set_sk_ne h, (endT_keeps S k st z).2.2.1, fun j p h => endAll_at (S.stacks.getD k []) S (fun q hq => (inv.rng (i := k) hq).1) j p h, hz⟩
theorem z_rb : ("rolled back" : Str) ≠ "open" := by decide +kernel
theorem z_co : ("committed" : Str) ≠ "open" := by decide +kernel
theorem crF_mv {R : FS → Prop} (hR : Cls R) : ∀ (l : List Int) {S : FS}, S.Inv → S.Tree → S.Al → R S → (∀ k ∈ l, 1 ≤ k ∧ k ≤ (S.states.length : Int)) → (crF S l).Al ∧ R (crF S l)
  | [], _, _, _, a, r, _ => ⟨a, r⟩
  | k :: l, S, inv, tr, a, r, hk => by
    obtain ⟨h1, h2⟩ := hk k (.head _)
    have hi : (k - 1).toNat < S.states.length := by omega
    have m := endT_mv inv hi (st := "aborted") z_rb
    refine crF_mv hR l (S := S.endT (k - 1).toNat "aborted" "rolled back") (inv.endT hi (.inr rfl)) tr.endT (al_step inv tr a m) (hR _ _ inv tr tr.endT a r m) fun k' hk' => ?_
    rw [(endT_keeps S (k - 1).toNat "aborted" "rolled back").1]
    exact hk k' (.tail _ hk')
end
end Rm

set_option maxRecDepth 100000
set_option maxHeartbeats 4000000
namespace Rm
open PySem PySem.Spec L2
open PyProof.Rows hiding St

section
variable {S S' : FS} {i : Nat} {q q0 q1 dn : Int} {l1 l2 c : List Int} {z f : Str} {o e : Option Int}
theorem cls_gone {q : Int} {f : Str} {e : Option Int} : Cls fun S => Gone S q f e := fun _ _ inv tr tr' al g s => gone_step inv tr tr' al g s
theorem cls_ce {c : List Int} : Cls fun S => ChE S c := fun _ _ inv tr tr' al g s => ce_step inv tr tr' al g s
theorem al_zero : FS.zero.Al := ⟨fun i q h => by simp [FS.sk0, FS.zero] at h, fun i q h => by simp [FS.sk0, FS.zero] at h, fun j p o h => by simp [FS.zero] at h⟩
theorem cnt_mv : Mv S S.cnt := .no (fun _ => rfl) rfl
/-- the last two of an open transaction -/
theorem last_two {l : List Int} (h : l ≠ []) (h1 : l.length ≠ 1) : ∃ l1 q1, l = l1 ++ [q1, lastI l] ∧ l.dropLast = l1 ++ [q1] := by
  have a := List.dropLast_concat_getLast h
  have hd : l.dropLast ≠ [] := fun e => by
    have := congrArg List.length e
    rw [List.length_dropLast, List.length_nil] at this
    have := List.length_pos_iff.mpr h
    omega
  have b := List.dropLast_concat_getLast hd
  have c : lastI l = l.getLast h := by unfold lastI; rw [List.getLast?_eq_getLast h]; rfl
  refine ⟨l.dropLast.dropLast, l.dropLast.getLast hd, ?_, b.symm⟩
  rw [c]
  refine a.symm.trans ?_
  conv => lhs; rw [← b]
  simp
theorem op_mv {R : FS → Prop} (hR : Cls R) {wd : Wd} (inv : S.Inv) (tr : S.Tree) (al : S.Al) (r : R S) (c : wd.can S i) : (wd.op S i).Al ∧ R (wd.op S i) := by
  have one : Mv S (wd.op S i) → (wd.op S i).Al ∧ R (wd.op S i) := fun m => ⟨al_step inv tr al m, hR _ _ inv tr (op_tree inv tr c) al r m⟩
  have sk : (S.stacks.getD i []) = S.sk0 i := rfl
  have nel : (wd = .save ∨ wd = .release ∨ wd = .back) → i < S.states.length ∧ S.sk0 i ≠ [] := fun hw => by
    have hi : i < S.states.length := c.2 (by rcases hw with rfl | rfl | rfl <;> rfl)
    have hl : i < S.stacks.length := by rw [inv.ls]; exact hi
    have fr : S.fr (.int ((i : Int) + 1)) = none := Wd.can_fr (by rcases hw with rfl | rfl | rfl <;> simp) c
    refine ⟨hi, inv.ne i _ _ (FS.st_at hi) (FS.ru_none (FS.fr_none fr).1).2 ?_⟩
    show S.stacks[i]? = some (S.stacks.getD i [])
    rw [List.getD_eq_getElem?_getD, List.getElem?_eq_getElem hl]
    rfl
  have two : S.tkE (.int ((i : Int) + 1)) = none → (S.sk0 i).length ≠ 1 := fun h e => by
    have := len_of_tk h
    rw [sk_at] at this
    exact this e
  cases wd with
  | begin =>
    refine one (.op S.states.length none ⟨?_, fun k hk => ?_, rfl, fun _ => ?_, fun q h => by cases h⟩)
    · show ((S.stacks ++ [[]]).set S.states.length ((S.stacks ++ [[]]).getD S.states.length [] ++ [(S.parts.length : Int) + 1])).getD S.states.length [] = S.sk0 S.states.length ++ [(S.parts.length : Int) + 1]
      have e1 : (S.stacks ++ [[]]).getD S.states.length [] = [] := by
        rw [← inv.ls, List.getD_eq_getElem?_getD, List.getElem?_append_right (Nat.le_refl _), Nat.sub_self]; rfl
      have e2 : S.sk0 S.states.length = [] := by
        unfold FS.sk0
        rw [← inv.ls, List.getD_eq_getElem?_getD, List.getElem?_eq_none (Nat.le_refl _)]; rfl
      rw [e1, e2, List.getD_eq_getElem?_getD, List.getElem?_set_self (by rw [List.length_append, inv.ls]; simp)]
      rfl
    · show ((S.stacks ++ [[]]).set S.states.length ((S.stacks ++ [[]]).getD S.states.length [] ++ [(S.parts.length : Int) + 1])).getD k [] = S.stacks.getD k []
      rw [List.getD_eq_getElem?_getD, List.getElem?_set_ne (Ne.symm hk), List.getD_eq_getElem?_getD]
      by_cases lt : k < S.stacks.length
      · rw [List.getElem?_append_left lt]
      · rw [List.getElem?_eq_none (show S.stacks.length ≤ k by omega), List.getElem?_eq_none]
        rw [List.length_append, List.length_singleton]
        have := inv.ls
        omega
    · unfold FS.sk0
      rw [← inv.ls, List.getD_eq_getElem?_getD, List.getElem?_eq_none (Nat.le_refl _)]
      rfl
  | crash =>
    have a1 := al_step inv tr al (cnt_mv (S := S))
    have t1 : S.cnt.Tree := tr.of rfl
    exact crF_mv hR _ (S := S.cnt) inv.cnt t1 a1 (hR _ _ inv tr t1 al r cnt_mv) fun k hk => by
      have hk := (List.mem_filter.mp hk).1
      rw [inv.ws, aliveL_mem] at hk
      obtain ⟨j, rfl, hj, _⟩ := hk
      show 1 ≤ (j : Int) + 1 ∧ (j : Int) + 1 ≤ (S.states.length : Int)
      omega
  | save =>
    obtain ⟨hi, ne⟩ := nel (.inl rfl)
    have hl : i < S.stacks.length := by rw [inv.ls]; exact hi
    exact one (.op i (some (lastI (S.sk0 i))) ⟨set_sk hl, fun k hk => set_sk_ne hk, rfl, (fun h => by cases h), (fun q h => by
      cases h
      exact lastI_mem ne)⟩)
  | release =>
    obtain ⟨hi, ne⟩ := nel (.inr (.inl rfl))
    have hl : i < S.stacks.length := by rw [inv.ls]; exact hi
    obtain ⟨l1, q1, e1, e2⟩ := last_two ne (two c.1)
    have b := (inv.rng (i := i) (lastI_mem ne)).1
    refine one (.re i l1 (lastI (S.sk0 i)) q1 (S.done + 1) ⟨e1, (set_sk hl).trans e2, fun k hk => set_sk_ne hk, List.length_modify .., fun j p h => ?_⟩)
    show (S.parts.modify (lastI (S.sk0 i) - 1).toNat fun p => { p with released := some (S.done + 1) })[j]? = _
    rw [List.getElem?_modify, h]
    simp only [Option.map_eq_map, Option.map_some]
    by_cases d : (j : Int) + 1 = lastI (S.sk0 i)
    · rw [if_pos d, if_pos (show (lastI (S.sk0 i) - 1).toNat = j by omega)]
    · rw [if_neg d, if_neg (show ¬ (lastI (S.sk0 i) - 1).toNat = j by omega)]
  | back =>
    obtain ⟨hi, ne⟩ := nel (.inr (.inr rfl))
    have hl : i < S.stacks.length := by rw [inv.ls]; exact hi
    obtain ⟨l1, q1, e1, e2⟩ := last_two ne (two c.1)
    have b := (inv.rng (i := i) (lastI_mem ne)).1
    refine one (.en i (l1 ++ [q1]) [lastI (S.sk0 i)] "rolled back" (S.done + 1) ⟨by rw [List.append_assoc]; exact e1, (set_sk hl).trans e2, fun k hk => set_sk_ne hk, List.length_modify .., fun j p h => ?_, z_rb⟩)
    show (S.parts.modify (lastI (S.sk0 i) - 1).toNat fun p => { p with ended := some (S.done + 1), outcome := "rolled back" })[j]? = _
    rw [List.getElem?_modify, h]
    simp only [Option.map_eq_map, Option.map_some, List.mem_singleton]
    by_cases d : (j : Int) + 1 = lastI (S.sk0 i)
    · rw [if_pos d, if_pos (show (lastI (S.sk0 i) - 1).toNat = j by omega)]
    · rw [if_neg d, if_neg (show ¬ (lastI (S.sk0 i) - 1).toNat = j by omega)]
  | commit =>
    have t1 : ({ S.cnt with moment := S.moment + 1 } : FS).Tree := tr.of rfl
    have i1 : ({ S.cnt with moment := S.moment + 1 } : FS).Inv := ⟨inv.ls, inv.ne, inv.kp, inv.ws, inv.sw, inv.ch⟩
    have m1 : Mv S ({ S.cnt with moment := S.moment + 1 } : FS) := .no (fun _ => rfl) rfl
    have a1 := al_step inv tr al m1
    have m2 := endT_mv i1 (k := i) (c.2 rfl) (st := "committed") z_co
    exact ⟨al_step i1 t1 a1 m2, hR _ _ i1 t1 t1.endT a1 (hR _ _ inv tr t1 al r m1) m2⟩
  | abort =>
    have t1 : S.cnt.Tree := tr.of rfl
    have a1 := al_step inv tr al (cnt_mv (S := S))
    have m2 := endT_mv inv.cnt (k := i) (c.2 rfl) (st := "aborted") z_rb
    exact ⟨al_step inv.cnt t1 a1 m2, hR _ _ inv.cnt t1 t1.endT a1 (hR _ _ inv tr t1 al r cnt_mv) m2⟩
  | prepare => exact one (.no (fun _ => rfl) rfl)
/-- the others stay as they were -/
theorem op_apart {wd : Wd} {k : Nat} (inv : S.Inv) (hk : k < S.states.length) (nc : wd ≠ .crash) (ne : wd ≠ .begin → k ≠ i) : (wd.op S i).states.getD k "" = S.states.getD k "" ∧ (wd.op S i).sk0 k = S.sk0 k := by
  have hk' : k < S.stacks.length := by rw [inv.ls]; exact hk
  have st : ∀ z : Str, k ≠ i → (S.states.set i z).getD k "" = S.states.getD k "" := fun z h => by
    rw [List.getD_eq_getElem?_getD, List.getElem?_set_ne (Ne.symm h), ← List.getD_eq_getElem?_getD]
  cases wd with
  | begin =>
    constructor
    · show (S.states ++ [("running" : Str)]).getD k "" = _
      rw [List.getD_eq_getElem?_getD, List.getElem?_append_left hk, ← List.getD_eq_getElem?_getD]
    · show ((S.stacks ++ [[]]).set S.states.length ((S.stacks ++ [[]]).getD S.states.length [] ++ [(S.parts.length : Int) + 1])).getD k [] = S.stacks.getD k []
      rw [List.getD_eq_getElem?_getD, List.getElem?_set_ne (by omega), List.getElem?_append_left hk', ← List.getD_eq_getElem?_getD]
  | crash => exact absurd rfl nc
  | save => exact ⟨rfl, set_sk_ne (ne (by decide))⟩
  | release => exact ⟨rfl, set_sk_ne (ne (by decide))⟩
  | back => exact ⟨rfl, set_sk_ne (ne (by decide))⟩
  | commit =>
    refine ⟨?_, set_sk_ne (ne (by decide))⟩
    exact st _ (ne (by decide))
  | abort =>
    refine ⟨?_, set_sk_ne (ne (by decide))⟩
    exact st _ (ne (by decide))
  | prepare => exact ⟨st _ (ne (by decide)), rfl⟩
end
end Rm

set_option maxRecDepth 100000
set_option maxHeartbeats 4000000
namespace Rm
open PySem PySem.Spec L2
open PyProof.Rows hiding St

section
variable {S : FS} {i m : Nat} {q q' : Int} {C CP : Addr} {more : List (Str × V)} {EE : EA} {K : PySem.W.Frag} {H : Hp} {a : Addr} {F : Addr → Prop} {Q : VK} {E : XK}
def ownV (S : FS) (q : Int) : V := if S.out (S.root q) = "open" then .int (S.root q) else .non
def gOw : FS → Int → V := fun S q => if S.out (S.root q) = "open" then .int (S.root q) else .non
def gRt : FS → Int → V := fun S q => .int (S.root q)
def gFa : FS → Int → V := fun S q => .str (S.out (S.root q))
def gTx : FS → Int → V := fun S q => .int (((S.parts[(q - 1).toNat]?).map PI.holder).getD 0)
def gAr : FS → Int → V := fun S q => oI ((S.parts[(q - 1).toNat]?).bind PI.outer)
def gEn : FS → Int → V := fun S q => oI ((S.parts[(S.root q - 1).toNat]?).bind PI.ended)
theorem kp_z (h1 : 1 ≤ q) (h2 : q ≤ (S.parts.length : Int)) : S.kp (.int q) = none := by
  obtain ⟨j, rfl⟩ : ∃ j : Nat, q = (j : Int) + 1 := ⟨(q - 1).toNat, by omega⟩
  exact kp_in (by omega)
/-- a question about a part that there is -/
theorem askP {g : FS → Int → V} (hA : FsA C CP more H a S F) (wf : S.Wf) (tr : S.Tree) (h1 : 1 ≤ q) (h2 : q ≤ (S.parts.length : Int)) (h : ∀ H', Same H H' → Q (g S q) H') : spPt K C CP more EE g [.ref a, .int q] H Q E :=
  ⟨a, _, .int q, S, F, rfl, hA, .int _, wf, tr, (fun k hk => by rw [kp_z h1 h2] at hk; cases hk), fun j hj hjn H' s => by
    have : q = (j : Int) + 1 := PyData.int.inj hj
    rw [← this]
    exact h H' s⟩
/-- .. and about a transaction -/
theorem askN {p : FS → Nat → VK → Hp → Prop} (hA : FsA C CP more H a S F) (wf : S.Wf) (hi : i < S.states.length) (h : ∀ H', Same H H' → p S i Q H') : spGetN K C CP more EE p [.ref a, .int ((i : Int) + 1)] H Q E :=
  ⟨a, _, .int ((i : Int) + 1), S, F, rfl, hA, .int _, wf, (fun k hk => by rw [kn_in hi] at hk; cases hk), fun j hj hjn H' s => by
    obtain rfl : i = j := by
      have := PyData.int.inj hj
      omega
    exact h H' s⟩
theorem st_tx (al : S.Al) (h : q ∈ S.sk0 i) : gTx S q = .int ((i : Int) + 1) := by
  unfold gTx
  refine congrArg V.int ?_
  obtain ⟨p, hp, _, _, e⟩ := al.op i q h
  unfold FS.at at hp
  rw [hp]
  exact e
theorem st_ow (inv : S.Inv) (al : S.Al) (h : q ∈ S.sk0 i) : gOw S q = .int q := by
  unfold gOw
  rw [al.root inv h, al.out h, if_pos rfl]
theorem st_rt (inv : S.Inv) (al : S.Al) (h : q ∈ S.sk0 i) : gRt S q = .int q := by
  unfold gRt
  rw [al.root inv h]
theorem st_fst (al : S.Al) (h : (S.sk0 i)[0]? = some q) : gAr S q = .non := by
  unfold gAr
  obtain ⟨p, hp, _⟩ := al.op i q (List.mem_of_getElem? h)
  have := al.hd i q h p hp
  unfold FS.at at hp
  rw [hp]
  show oI p.outer = .non
  rw [this]
  rfl
theorem st_nxt (inv : S.Inv) (al : S.Al) (h : (S.sk0 i)[m + 1]? = some q) : ∃ q', (S.sk0 i)[m]? = some q' ∧ gAr S q = .int q' := by
  unfold gAr
  have hl := (List.getElem?_eq_some_iff.mp h).1
  have hm : (S.sk0 i)[m]? = some (S.sk0 i)[m] := List.getElem?_eq_getElem (by omega)
  refine ⟨_, hm, ?_⟩
  obtain ⟨p, hp, _⟩ := al.op i q (List.mem_of_getElem? h)
  have := inv.ch _ (sk0_mem (List.mem_of_getElem? h)) m q _ hm h p hp
  unfold FS.at at hp
  rw [hp]
  show oI p.outer = _
  rw [this]
  rfl
end
end Rm

set_option maxRecDepth 100000
set_option maxHeartbeats 4000000
namespace Rm
open PySem PySem.Spec L2
open PyProof.Rows hiding St

def nsL (l : Nat) : List Int := (List.range l).map fun n : Nat => (n : Int)
theorem nsL_succ {l : Nat} : nsL (l + 1) = nsL l ++ [(l : Int)] := by
  unfold nsL
  rw [List.range_succ, List.map_append]
  rfl
theorem nsL_len {l : Nat} : (nsL l).length = l := by unfold nsL; rw [List.length_map, List.length_range]
theorem nsL_at {l n : Nat} (h : n < l) : (nsL l)[n]? = some (n : Int) := by
  unfold nsL
  rw [List.getElem?_map, List.getElem?_range h]
  rfl
theorem rgV_nsL {l : Nat} : rgV 0 (l : Int) = (nsL l).map V.int := by
  unfold rgV nsL
  rw [Int.sub_zero, Int.toNat_natCast, List.map_map]
  refine List.map_congr_left fun n _ => ?_
  show V.int (0 + (n : Int)) = V.int (n : Int)
  rw [Int.zero_add]
theorem cut_from {xs : List V} {j : Nat} (h : j ≤ xs.length) : cutV xs (some (j : Int)) none = xs.drop j := by
  unfold cutV
  rw [HT.sIx_nat, HT.sIx_none, Nat.min_eq_left h, List.take_of_length_le (by rw [List.length_drop]; exact Nat.le_refl _)]
theorem eqv_nil {ns : List Int} (h : ns ≠ []) : PyData.eqv (.list (ns.map PyData.int)) (.list []) = false := by
  cases ns with
  | nil => exact absurd rfl h
  | cons n ns => simp [PyData.eqv, PyData.eqvAll]
theorem scal_oI : ∀ o : Option Int, scal (oI o) (oI o) = true
  | none => rfl
  | some _ => rfl
theorem gTx_rt {S : FS} (tr : S.Tree) (al : S.Al) {j : Nat} (hj : j < S.parts.length) : gTx S (S.root ((j : Int) + 1)) = gTx S ((j : Int) + 1) := by
  have := root_ho tr al hj
  unfold gTx
  unfold FS.at at this
  rw [this, Int.add_sub_cancel, Int.toNat_natCast]
theorem gFa_rt {S : FS} (tr : S.Tree) {j : Nat} (hj : j < S.parts.length) : gFa S (S.root ((j : Int) + 1)) = gFa S ((j : Int) + 1) := by
  unfold gFa
  rw [root_rt tr hj]
theorem gEn_rt {S : FS} (tr : S.Tree) {j : Nat} (hj : j < S.parts.length) : gEn S (S.root ((j : Int) + 1)) = gEn S ((j : Int) + 1) := by
  unfold gEn
  rw [root_rt tr hj]
section
variable {S : FS} {i j l n : Nat} {q : Int} {c : List Int}
theorem ce_gone (k : ChI S i c j l) (h : c[n]? = some q) (hn : l ≤ n) : gOw S q = .non := by
  unfold gOw
  rw [if_neg (k.en n q h hn)]
theorem ce_own (inv : S.Inv) (al : S.Al) (k : ChI S i c j l) (h : c[n]? = some q) (hn : n < l) : ∃ r, gOw S q = .int r ∧ (n < j → r = q) ∧ (j ≤ n → c[j - 1]? = some r ∧ r ≠ q) := by
  obtain ⟨m, mj, mm, ms, mc⟩ := k.here inv al h hn
  have o := al.out (List.mem_of_getElem? ms)
  refine ⟨S.root q, by unfold gOw; rw [if_pos o], fun hj => ?_, fun hj => ?_⟩
  · have : m = n := by omega
    rw [this, h] at mc
    exact (Option.some.inj mc).symm
  · have e : m = j - 1 := by omega
    refine ⟨by rw [← e]; exact mc, fun ne => ?_⟩
    obtain ⟨h1, e1⟩ := List.getElem?_eq_some_iff.mp mc
    obtain ⟨h2, e2⟩ := List.getElem?_eq_some_iff.mp h
    have := List.pairwise_iff_getElem.mp k.srt m n h1 h2 (by omega)
    omega
end
end Rm

set_option maxRecDepth 100000
set_option maxHeartbeats 4000000
namespace Rm
open PySem PySem.Spec L2
open PyProof.Rows hiding St

/-! ### what the law keeps beside the program and its own record -/
theorem valV_mem {kvs : List (Key × V)} {k : Key} {v : V} (h : (k, v) ∈ kvs) : ∃ v', valV kvs k = some v' ∧ (k, v') ∈ kvs := by
  unfold valV
  cases e : kvs.find? fun kv => decide (kv.1 = k) with
  | none => exact absurd (decide_eq_true rfl) (List.find?_eq_none.mp e _ h)
  | some kv =>
    have h1 := List.find?_some e
    have h2 := List.mem_of_find?_eq_some e
    obtain ⟨k', v'⟩ := kv
    obtain rfl : k' = k := of_decide_eq_true h1
    exact ⟨v', rfl, h2⟩
theorem put_mem {kvs : List (Key × V)} {k : Key} {v : V} {x : Key × V} (h : x ∈ putK kvs k v) : x ∈ kvs ∨ x = (k, v) := by
  unfold putK at h
  split at h
  · obtain ⟨y, hy, e⟩ := List.mem_map.mp h
    by_cases c : y.1 = k
    · rw [if_pos c] at e
      exact .inr (by rw [← e, c])
    · rw [if_neg c] at e
      exact .inl (e ▸ hy)
  · rcases List.mem_append.mp h with h | h
    · exact .inl h
    · exact .inr (List.mem_singleton.mp h)
def toldZ (S : FS) (i : Nat) : Str := (PyData.list [.str (S.st (.int ((i : Int) + 1))), .list ((S.sk0 i).map PyData.int)]).shown
def tkv (S : FS) (n : Nat) : List (Key × V) := (List.range n).map fun i : Nat => ((.inl ((i : Int) + 1) : Key), V.str (toldZ S i))
theorem tkv_succ {S : FS} {n : Nat} : tkv S (n + 1) = tkv S n ++ [(.inl ((n : Int) + 1), .str (toldZ S n))] := by
  unfold tkv
  rw [List.range_succ, List.map_append]
  rfl
theorem tkv_len {S : FS} {n : Nat} : (tkv S n).length = n := by unfold tkv; rw [List.length_map, List.length_range]
theorem tkv_get {S : FS} {n i : Nat} {k : Key} {v : V} (h : (tkv S n)[i]? = some (k, v)) : i < n ∧ k = .inl ((i : Int) + 1) := by
  have hl := (List.getElem?_eq_some_iff.mp h).1
  rw [tkv_len] at hl
  unfold tkv at h
  rw [List.getElem?_map, List.getElem?_range hl] at h
  cases h
  exact ⟨hl, rfl⟩
theorem tkv_none {S : FS} {n m : Nat} (h : n ≤ m) : valV (tkv S n) (.inl ((m : Int) + 1)) = none := by
  cases e : valV (tkv S n) (.inl ((m : Int) + 1)) with
  | none => rfl
  | some v =>
    have := valV_in e
    unfold tkv at this
    rw [List.map_map] at this
    obtain ⟨i, hi, e2⟩ := List.mem_map.mp this
    have := List.mem_range.mp hi
    have e2 : (Sum.inl ((i : Int) + 1) : Key) = .inl ((m : Int) + 1) := e2
    have := Sum.inl.inj e2
    omega
theorem tkv_at {S : FS} : ∀ {n m : Nat}, m < n → valV (tkv S n) (.inl ((m : Int) + 1)) = some (.str (toldZ S m))
  | n + 1, m, h => by
    rw [tkv_succ, valV_snoc _ _ _ _ (tkv_none (Nat.le_refl n))]
    by_cases c : m = n
    · rw [if_pos (by rw [c]), c]
    · rw [if_neg (fun e => c (by have := Sum.inl.inj e; omega))]
      exact tkv_at (by omega)
theorem tkv_merge {S : FS} : ∀ {n : Nat}, mergeK [] (tkv S n) = tkv S n
  | 0 => rfl
  | n + 1 => by
    rw [tkv_succ]
    unfold mergeK
    rw [List.foldl_append]
    show putK (mergeK [] (tkv S n)) (.inl ((n : Int) + 1)) (.str (toldZ S n)) = _
    rw [tkv_merge, putK_new _ (tkv_none (Nat.le_refl n))]
theorem st_ge {wd : Wd} {S : FS} {i : Nat} : S.states.length ≤ (wd.op S i).states.length := by
  cases wd with
  | begin => show S.states.length ≤ (S.states ++ [("running" : Str)]).length; rw [List.length_append]; omega
  | crash => show S.states.length ≤ (crF S.cnt _).states.length; rw [crF_states]; exact Nat.le_refl _
  | save => exact Nat.le_refl _
  | release => exact Nat.le_refl _
  | back => exact Nat.le_refl _
  | commit => show S.states.length ≤ (S.states.set i _).length; rw [List.length_set]; exact Nat.le_refl _
  | abort => show S.states.length ≤ (S.states.set i _).length; rw [List.length_set]; exact Nat.le_refl _
  | prepare => show S.states.length ≤ (S.states.set i _).length; rw [List.length_set]; exact Nat.le_refl _
/-- what a turn makes of the state -/
def Turn1 (S S' : FS) (wd : Wd) (o : Option Int) : Prop := S' = S ∨ ∃ i : Nat, (wd.num = true → o = some ((i : Int) + 1)) ∧ wd.can S i ∧ S' = wd.op S i
section
variable {S S' : FS} {wd : Wd} {o : Option Int}
theorem Turn1.ge (h : Turn1 S S' wd o) : S.states.length ≤ S'.states.length := by
  rcases h with rfl | ⟨i, _, _, rfl⟩
  · exact Nat.le_refl _
  · exact st_ge
theorem Turn1.al {R : FS → Prop} (hR : Cls R) (h : Turn1 S S' wd o) (inv : S.Inv) (tr : S.Tree) (al : S.Al) (r : R S) : R S' := by
  rcases h with rfl | ⟨i, _, c, rfl⟩
  · exact r
  · exact (op_mv hR inv tr al r c).2
theorem Turn1.al0 (h : Turn1 S S' wd o) (inv : S.Inv) (tr : S.Tree) (al : S.Al) : S'.Al := by
  rcases h with rfl | ⟨i, _, c, rfl⟩
  · exact al
  · exact (op_mv (R := fun _ => True) (fun _ _ _ _ _ _ _ _ => trivial) inv tr al trivial c).1
theorem st_getD {S : FS} {m : Nat} : S.st (.int ((m : Int) + 1)) = S.states.getD m "" := by
  unfold FS.st
  simp only [Int.add_sub_cancel, Int.toNat_natCast]
/-- the others stay as they were -/
theorem Turn1.apart (h : Turn1 S S' wd o) (inv : S.Inv) {m : Nat} (hm : m < S.states.length) (nc : wd ≠ .crash) (ne : wd ≠ .begin → o ≠ some ((m : Int) + 1)) : toldZ S' m = toldZ S m := by
  rcases h with rfl | ⟨i, hn, c, rfl⟩
  · rfl
  · have := op_apart (wd := wd) (i := i) inv hm nc fun nb e => ne nb (by
      rw [e]
      exact hn (by cases wd <;> first | rfl | exact absurd rfl nc | exact absurd rfl nb))
    unfold toldZ
    rw [st_getD, st_getD, this.1, this.2]
end
theorem paired_of {α β : Type} {R : α → β → Prop} : ∀ (xs : List α) (ys : List β), xs.length = ys.length → (∀ (i : Nat) x y, xs[i]? = some x → ys[i]? = some y → R x y) → Paired R xs ys
  | [], [], _, _ => .nil
  | [], _ :: _, h, _ => by simp at h
  | _ :: _, [], h, _ => by simp at h
  | x :: xs, y :: ys, h, f => .cons (f 0 x y rfl rfl) (paired_of xs ys (by simpa using h) fun i a b ha hb => f (i + 1) a b ha hb)
def Told1 (H : Hp) (S : FS) (qs : List Addr) : Prop := ∀ (i : Nat) q, qs[i]? = some q → H q = some (.tup [.int ((i : Int) + 1), .str (toldZ S i)])
theorem Told1.same {H H' : Hp} {S : FS} {qs : List Addr} (h : Told1 H S qs) (s : Same H H') : Told1 H' S qs := fun i q e => s _ _ (h i q e)
theorem Told1.put {H : Hp} {S : FS} {qs : List Addr} {D : Addr} {xs ys : List V} (h : Told1 H S qs) (hD : H D = some (.lst xs)) : Told1 (upd H D (.lst ys)) S qs := fun i q e => (upd_ne fun z => by
  have := h i q e
  rw [z, hD] at this
  cases this).trans (h i q e)
theorem Told1.snoc {H : Hp} {S : FS} {qs : List Addr} {p : Addr} (h : Told1 H S qs) (hp : H p = some (.tup [.int ((qs.length : Int) + 1), .str (toldZ S qs.length)])) : Told1 H S (qs ++ [p]) := fun i q e => by
  by_cases lt : i < qs.length
  · rw [List.getElem?_append_left lt] at e
    exact h i q e
  · have hl := (List.getElem?_eq_some_iff.mp e).1
    rw [List.length_append, List.length_singleton] at hl
    have ei : i = qs.length := by omega
    subst ei
    rw [List.getElem?_append_right (Nat.le_refl _), Nat.sub_self] at e
    cases e
    exact hp
theorem Told1.paired {K : PySem.W.Frag} {H : Hp} {S : FS} {qs : List Addr} (h : Told1 H S qs) : Paired (fun p kv => SqT K H p [kV kv.1, kv.2]) qs (tkv S qs.length) :=
  paired_of _ _ tkv_len.symm fun i q kv e1 e2 => by
    have hl := (List.getElem?_eq_some_iff.mp e1).1
    unfold tkv at e2
    rw [List.getElem?_map, List.getElem?_range hl] at e2
    cases e2
    exact .inl (.inl (h i q e1))
structure Kc (Hs H : Hp) (F G : Addr → Prop) (S : FS) (t ch en : Addr) (ps : List Addr) (kvs : List (Key × V)) (m1 m2 : Nat) : Prop where
  och : Outs H F G ch (.lst (ps.map V.ref))
  oen : Outs H F G en (.dK kvs)
  tc : ch ≠ t
  te : en ≠ t
  sc : NewN Hs ch
  se : NewN Hs en
  np : ∀ p ∈ ps, p ≠ t ∧ p ≠ ch ∧ ∃ c, Outs H F G p (.lst (c.map V.int)) ∧ ChE S c ∧ c.length ≤ 800
  nk : ∀ kv ∈ kvs, ∃ q p f e, kv = (.inl q, .ref p) ∧ p ≠ t ∧ p ≠ ch ∧ Outs H F G p (.lst [.str f, oI e]) ∧ Gone S q f e
  lp : ps.length ≤ m1
  lk : kvs.length ≤ m2
section
variable {C CP : Addr} {T : List (Addr × Str)} {Hs H H' : Hp} {t a b ch en : Addr} {S S' : FS} {F G F' G' : Addr → Prop} {n m1 m2 : Nat} {ps : List Addr} {kvs : List (Key × V)} {wd : Wd} {o : Option Int}
theorem Kc.move (k : Kc Hs H F G S t ch en ps kvs m1 m2) (hO : ∀ x u, x ≠ t → Outs H F G x u → Outs H' F' G' x u) (hc : ∀ c, ChE S c → ChE S' c) (hg : ∀ q f e, Gone S q f e → Gone S' q f e) : Kc Hs H' F' G' S' t ch en ps kvs m1 m2 :=
  ⟨hO _ _ k.tc k.och, hO _ _ k.te k.oen, k.tc, k.te, k.sc, k.se, fun p hp => by
    obtain ⟨h1, h2, c, h3, h4, h5⟩ := k.np p hp
    exact ⟨h1, h2, c, hO _ _ h1 h3, hc _ h4, h5⟩, fun kv hk => by
    obtain ⟨q, p, f, e, h1, h2, h3, h4, h5⟩ := k.nk kv hk
    exact ⟨q, p, f, e, h1, h2, h3, hO _ _ h2 h4, hg _ _ _ h5⟩, k.lp, k.lk⟩
theorem Kc.same (k : Kc Hs H F G S t ch en ps kvs m1 m2) (s : Same H H') : Kc Hs H' F G S t ch en ps kvs m1 m2 := k.move (fun _ _ _ h => h.same s) (fun _ h => h) fun _ _ _ h => h
theorem Kc.nxt (k : Kc Hs H F G S t ch en ps kvs m1 m2) (N : Nxt t H H') : Kc Hs H' F G S t ch en ps kvs m1 m2 := k.move (fun _ _ ne h => h.nxt N ne) (fun _ h => h) fun _ _ _ h => h
theorem Kc.both (k : Kc Hs H F G S t ch en ps kvs m1 m2) (h : Turn1 S S' wd o) (inv : S.Inv) (tr : S.Tree) (al : S.Al) (fr : FrN (fun y => F y ∨ G y) H H') (gr : ∀ y, F' y ∨ G' y → (F y ∨ G y) ∨ NewN H y) : Kc Hs H' F' G' S' t ch en ps kvs m1 m2 :=
  k.move (fun _ _ _ h => h.both fr gr) (fun _ x => h.al cls_ce inv tr al x) fun _ _ _ x => h.al cls_gone inv tr al x
theorem Kc.mono (k : Kc Hs H F G S t ch en ps kvs m1 m2) {n1 n2 : Nat} (h1 : m1 ≤ n1) (h2 : m2 ≤ n2) : Kc Hs H F G S t ch en ps kvs n1 n2 := { k with lp := Nat.le_trans k.lp h1, lk := Nat.le_trans k.lk h2 }
theorem lst_tbl {xs : List V} : ∀ ps, HO.lst xs ≠ .tbl ps := fun _ q => by cases q
/-- one chain more -/
theorem Kc.app (k : Kc Hs H F G S t ch en ps kvs m1 m2) {p : Addr} {c : List Int} (pt : p ≠ t) (pc : p ≠ ch) (hp : Outs H F G p (.lst (c.map V.int))) (he : ChE S c) (hl : c.length ≤ 800) :
    Kc Hs (upd H ch (.lst (ps.map V.ref ++ [.ref p]))) F G S t ch en (ps ++ [p]) kvs (m1 + 1) m2 := by
  have st : ∀ {x u}, x ≠ ch → Outs H F G x u → Outs (upd H ch (.lst (ps.map V.ref ++ [.ref p]))) F G x u := fun ne h => ⟨(upd_ne ne).trans h.at_, h.nt, h.nF, h.nG⟩
  have nec : en ≠ ch := fun e => by
    have h1 := k.oen.at_
    rw [e, k.och.at_] at h1
    cases h1
  refine ⟨⟨by rw [upd_same, List.map_append]; rfl, lst_tbl, k.och.nF, k.och.nG⟩, st nec k.oen, k.tc, k.te, k.sc, k.se, fun x hx => ?_, fun kv hk => ?_, by rw [List.length_append, List.length_singleton]; exact Nat.succ_le_succ k.lp, k.lk⟩
  · rcases List.mem_append.mp hx with hx | hx
    · obtain ⟨h1, h2, c, h3, h4⟩ := k.np x hx
      exact ⟨h1, h2, c, st h2 h3, h4⟩
    · rw [List.mem_singleton.mp hx]
      exact ⟨pt, pc, c, st pc hp, he, hl⟩
  · obtain ⟨q, x, f, e, h1, h2, h3, h4, h5⟩ := k.nk kv hk
    exact ⟨q, x, f, e, h1, h2, h3, st h3 h4, h5⟩
/-- one part more that is no longer alive -/
theorem Kc.put (k : Kc Hs H F G S t ch en ps kvs m1 m2) {p : Addr} {q : Int} {f : Str} {e : Option Int} (pt : p ≠ t) (pc : p ≠ ch) (hp : Outs H F G p (.lst [.str f, oI e])) (hg : Gone S q f e) :
    Kc Hs (upd H en (.dK (putK kvs (.inl q) (.ref p)))) F G S t ch en ps (putK kvs (.inl q) (.ref p)) m1 (m2 + 1) := by
  have ne : ∀ {x xs}, Outs H F G x (.lst xs) → x ≠ en := fun h e => by
    have h1 := h.at_
    rw [e, k.oen.at_] at h1
    cases h1
  have st : ∀ {x xs}, Outs H F G x (.lst xs) → Outs (upd H en (.dK (putK kvs (.inl q) (.ref p)))) F G x (.lst xs) := fun h => ⟨(upd_ne (ne h)).trans h.at_, h.nt, h.nF, h.nG⟩
  refine ⟨st k.och, ⟨upd_same, (fun _ q => by cases q), k.oen.nF, k.oen.nG⟩, k.tc, k.te, k.sc, k.se, fun x hx => ?_, fun kv hk => ?_, k.lp, Nat.le_trans (length_putK _ _ _) (Nat.succ_le_succ k.lk)⟩
  · obtain ⟨h1, h2, c, h3, h4⟩ := k.np x hx
    exact ⟨h1, h2, c, st h3, h4⟩
  · rcases put_mem hk with hk | rfl
    · obtain ⟨q, x, f, e, h1, h2, h3, h4, h5⟩ := k.nk kv hk
      exact ⟨q, x, f, e, h1, h2, h3, st h4, h5⟩
    · exact ⟨q, p, f, e, rfl, pt, pc, st hp, hg⟩
theorem Kc.neq (k : Kc Hs H F G S t ch en ps kvs m1 m2) : en ≠ ch := fun e => by
  have h1 := k.oen.at_
  rw [e, k.och.at_] at h1
  cases h1
end
end Rm

set_option maxRecDepth 100000
set_option maxHeartbeats 4000000
namespace Rm
open PySem PySem.Spec L2
open PyProof.Rows hiding St

section
variable {C CP : Addr} {T : List (Addr × Str)} {Hs H H' : Hp} {t a b : Addr} {S : FS} {F G : Addr → Prop} {n : Nat} {q : Int} {f z : Str} {e o : Option Int}
theorem Wk2.frm {D : Addr} {u : HO} (k : Wk2 C CP T Hs H t a b S F G n) (fr : Fr (· = D) H H') (nF : ¬ F D) (nG : ¬ G D) (ne : D ≠ t) (hs : NewN Hs D) (hD : H D = some u) (hu : (∀ ps, u ≠ .tbl ps) ∧ ∀ g, u ≠ .ext g) : Wk2 C CP T Hs H' t a b S F G n := by
  refine ⟨{ k.k with fs := ?_, wd := ?_, tape := ?_, tabs := ?_, fr := ?_ }, k.tr, k.bn⟩
  · exact k.k.fs.frame fr fun x hx e => nF (by rw [← e]; exact hx)
  · exact k.k.wd.frame fr fun x hx e => nG (by rw [← e]; exact hx)
  · obtain ⟨o', h, r⟩ := k.k.tape
    exact ⟨o', fr _ _ h (Ne.symm ne), r⟩
  · refine tabs_fr k.k.tabs fr fun x v e hv => ?_
    subst e
    rw [hD] at hv
    obtain rfl := Option.some.inj hv
    exact hu
  · exact fun x v h n m => fr _ _ (k.k.fr x v h n m) (hs.off h m)
theorem fate_ok (h : z = "open" ∨ z = "rolled back" ∨ z = "committed") : PyData.strOk z = true := by
  rcases h with rfl | rfl | rfl <;> decide +kernel
theorem out_z (bn : S.Bnd n) (tr : S.Tree) (h1 : 1 ≤ q) (h2 : q ≤ (S.parts.length : Int)) : PyData.strOk (S.out (S.root q)) = true := by
  obtain ⟨j, r, rfl, hj, er, hr, _⟩ := root_at tr h1 h2
  rw [er, out_at hr]
  exact fate_ok (bn.p _ (List.getElem_mem hr)).z
theorem dp_oI1 {K : PySem.W.Frag} (o : Option Int) : Dp K H (oI o) (oD o) := by
  cases o with
  | none => exact .non
  | some i => exact .int i
theorem dp_three {K : PySem.W.Frag} {p : Addr} (h : H p = some (.lst [.str z, oI o, .non])) : Dp K H (.ref p) (.list [.str z, oD o, .none]) :=
  .lst (.inl (.inl h)) (.cons (.str _) (.cons (dp_oI1 o) (.cons .non .nil)))
theorem shaped_three (hz : PyData.strOk z = true) (o : Option Int) : SeqAt.shaped (.list [.str z, oD o, .none]) = true := by
  unfold SeqAt.shaped
  cases o <;> simp [oD, hz, PyData.canLay0, PyData.canLayAll0, PyData.depth, PyData.depthAll]
theorem eqv_three : PyData.eqv (.list [.str z, oD o, .none]) (.list [.str z, oD o, .none]) = true := by
  cases o <;> simp [oD, PyData.eqv, PyData.eqvAll]
theorem gone_fa (g : Gone S q f e) : gFa S q = .str f := by unfold gFa; rw [g.fa]
theorem gone_en (g : Gone S q f e) : gEn S q = oI e := by
  unfold gEn
  exact congrArg oI g.en
theorem gone_ow (g : Gone S q f e) : gOw S q = .non := by unfold gOw; rw [if_neg g.no]
theorem gone_of (h1 : 1 ≤ q) (h2 : q ≤ (S.parts.length : Int)) (h : gOw S q = .non) : Gone S q (S.out (S.root q)) ((S.at (S.root q)).bind PI.ended) := by
  refine ⟨⟨h1, h2⟩, fun c => ?_, rfl, rfl⟩
  unfold gOw at h
  rw [if_pos c] at h
  cases h
end
end Rm

set_option maxRecDepth 100000
set_option maxHeartbeats 4000000
namespace K08
open PySem PySem.Spec L2 Rm
open PyProof.Rows hiding St
section
variable {P : Program} {w : World} {K : PySem.W.Frag} {mg : Str → Option Value} {base : Heap} {C CP : Addr} {more : List (Str × V)} {EE : EA}
theorem sc__law_chain_right : FnScope ["_law_fates", "_law_number", "_law_parts", "_law_at", "_law_part", "_law_outer"] ["_law_fates", "_law_number"] (defScope s__law_chain_right) :=
  ⟨rfl, rfl, rfl, by decide +kernel, rfl, by decide +kernel, by decide +kernel⟩
def spChain (C CP : Addr) (more : List (Str × V)) : Sp := fun vs H Q _ => ∃ a i S F, vs = [.ref a, .int ((i : Nat) + 1)] ∧ FsA C CP more H a S F ∧ S.Inv ∧ S.Few 800 ∧ S.Tree ∧ S.Al ∧ i < S.states.length ∧ ∀ H', Same H H' → Q (.bl true) H'
theorem ok_chain {f : Addr} {fd : FuncData} (F0 : Fun K "_law_chain_right" "_law_chain_right" s__law_chain_right f fd) (B : Bl mg) (mo : MO more)
    (M_Fates_parts : Cm P w K mg base (L2.CX P w) 7 C "parts" ["self", "number"] (spGetN K C CP more EE qPt))
    (M_Fates_root : Cm P w K mg base (L2.CX P w) 7 C "root" ["self", "part"] (spPt K C CP more EE fun S q => .int (S.root q)))
    (M_Fates_owner : Cm P w K mg base (L2.CX P w) 7 C "owner" ["self", "part"] (spPt K C CP more EE fun S q => if S.out (S.root q) = "open" then .int (S.root q) else .non))
    (M_Fates_transaction : Cm P w K mg base (L2.CX P w) 7 C "transaction" ["self", "part"] (spPt K C CP more EE fun S q => .int ((S.parts[(q - 1).toNat]?).map PI.holder |>.getD 0)))
    (M_Fates_around : Cm P w K mg base (L2.CX P w) 7 C "around" ["self", "part"] (spPt K C CP more EE fun S q => oI ((S.parts[(q - 1).toNat]?).bind PI.outer))) :
    FnG P w K mg base CX0 9 f fd ["_law_fates", "_law_number"] (spChain C CP more) := by
  refine fn_q F0 sc__law_chain_right (fun vs H Q E h => ?_) (fun cdv A outer s H vs Q E hr hG h => ?_)
  · obtain ⟨a, i, S, F, rfl, _⟩ := h
    rfl
  · obtain ⟨a, i, S, F, rfl, hA, inv, few, tr, al, hi, q⟩ := h
    have hu := hu_of hr
    refine ⟨_, (pss_cons (ps_set (i := 2) sc__law_chain_right.nd rfl (Or.inl rfl) (pe_cm M_Fates_parts (hr.mono (by decide)) hG (pv 0) (pa_cons (pv 1) pa_nil) passL))
      (pss_cons (ps_for PassesOwn.never rfl (pi_enum (by rfl) B.n_enumerate (pa_cons (pv 2) pa_nil)) (pg_tup rfl (pgs_cons (pg_name (i := 3) sc__law_chain_right.nd rfl (Or.inl rfl)) (pgs_cons (pg_name (i := 4) sc__law_chain_right.nd rfl (Or.inl rfl)) pgs_nil))) (pss_cons (ps_if (PW.pt (pw_or (pt_cmpR op_ne (pe_cm M_Fates_transaction (hr.mono (by decide)) hG (pv 0) (pa_cons (pv 4) pa_nil) passL) (pv 1) (nomark _)) (pw_or1 (pt_cmpR op_ne (pe_cm M_Fates_owner (hr.mono (by decide)) hG (pv 0) (pa_cons (pv 4) pa_nil) passL) (pv 4) (nomark _))))) (pss_one (ps_ret pe_bl)) pss_nil)
      (pss_cons (ps_set (i := 5) sc__law_chain_right.nd rfl (Or.inl rfl) (pe_cm M_Fates_around (hr.mono (by decide)) hG (pv 0) (pa_cons (pv 4) pa_nil) passL))
      (pss_cons (ps_if (PW.pt (pw_or (pt_cmpR op_ne (pe_cm M_Fates_root (hr.mono (by decide)) hG (pv 0) (pa_cons (pv 4) pa_nil) passL) (pv 4) (nomark _)) (pw_or1 (PW.pt (pw_and (pt_cmpR op_eq (pv 3) pe_int (nomark _)) (pw_and1 (pt_cmpR op_notN (pv 5) pe_non (nomark _)))))))) (pss_one (ps_ret pe_bl)) pss_nil)
      (pss_cons (ps_if (PW.pt (pw_and (pt_cmpR op_gt (pv 3) pe_int (nomark _)) (pw_and1 (PW.pt (pw_or (pt_cmpR op_isN (pv 5) pe_non (nomark _)) (pw_or1 (pt_cmpR op_ge (pv 5) (pv 4) (nomark _)))))))) (pss_one (ps_ret pe_bl)) pss_nil)
      (pss_one (ps_if (PW.pt (pw_and (pt_cmpR op_gt (pv 3) pe_int (nomark _)) (pw_and1 (pt_cmpR op_ne (pe_cm M_Fates_owner (hr.mono (by decide)) hG (pv 0) (pa_cons (pv 5) pa_nil) passL) (pe_ix ix_list (pv 2) (pe_op op_sub (pv 3) pe_int) (fun _ _ => rfl)) (nomark _))))) (pss_one (ps_ret pe_bl)) pss_nil)))))))
      (pss_one (ps_ret pe_bl)))), ?_⟩
    have wf := inv.wf few (by decide)
    obtain ⟨ad, hf, hF⟩ := id hA
    obtain ⟨dx, lk⟩ := hf.look
    have lk0 := lk.o
    refine ⟨_, rfl, a, dx, _, rfl, lk0, mo.free (by decide +kernel), _, rfl, ?_⟩
    dsimp only [tNil]
    refine askN hA wf hi fun H1 s1 p np => ?_
    have s2 := s1.trans (same_new (o := .lst ((S.stacks.getD i []).map V.int)) np)
    have hp := upd_same (H := H1) (a := p) (o := .lst ((S.stacks.getD i []).map V.int))
    generalize upd H1 p (.lst ((S.stacks.getD i []).map V.int)) = H2 at s2 hp ⊢
    have hq : SqL K H2 p ((S.stacks.getD i []).map V.int) := .inl (.inl hp)
    refine ⟨_, rfl, p, _, rfl, hq, for_enum (xs := (S.stacks.getD i []).map V.int) (fun m σ H' => (∃ c3 c4 c5, σ = [some (.ref a), some (.int ((i : Nat) + 1)), some (.ref p), c3, c4, c5]) ∧ Same H2 H')
      ⟨⟨_, _, _, rfl⟩, .refl _⟩ (fun m σ H' _ e => .inl (.inl (e.2 _ _ hp))) ?_ ?_⟩
    · rintro m x T σ Hx hx ⟨⟨c3, c4, c5, rfl⟩, s3⟩ nT
      obtain ⟨z, hz, rfl⟩ : ∃ z, (S.sk0 i)[m]? = some z ∧ x = .int z := by
        rw [List.getElem?_map] at hx
        cases e : (S.stacks.getD i [])[m]? with
        | none => rw [e] at hx; cases hx
        | some z =>
          rw [e] at hx
          exact ⟨z, e, (Option.some.inj hx).symm⟩
      have hm := List.mem_of_getElem? hz
      obtain ⟨z1, z2⟩ := inv.rng hm
      have s4 := s3.trans (same_new (o := .tup [V.int (m : Nat), .int z]) nT)
      refine ⟨_, _, rfl, .inl (.inl upd_same), rfl, _, _, rfl, _, _, rfl, rfl, ?_⟩
      generalize upd Hx T (.tup [V.int (m : Nat), .int z]) = H4 at s4 ⊢
      have t4 := s2.trans s4
      refine ⟨_, rfl, a, dx, _, rfl, t4 _ _ lk0, mo.free (by decide +kernel), _, rfl, ?_⟩
      dsimp only [tNil]
      refine askP (g := gTx) (hA.same t4) wf tr z1 z2 fun H5 s5 => ?_
      rw [st_tx al hm]
      refine ⟨_, rfl, rfl, _, rfl, ite2 (fun c => ?_) fun _ => ?_⟩
      · simp at c
      have t5 := t4.trans s5
      refine ⟨_, rfl, a, dx, _, rfl, t5 _ _ lk0, mo.free (by decide +kernel), _, rfl, ?_⟩
      dsimp only [tNil]
      refine askP (g := gOw) (hA.same t5) wf tr z1 z2 fun H6 s6 => ?_
      rw [st_ow inv al hm]
      refine ⟨_, rfl, rfl, _, rfl, ite2 (fun c => ?_) fun _ => ?_⟩
      · simp at c
      have t6 := t5.trans s6
      refine ⟨_, rfl, a, dx, _, rfl, t6 _ _ lk0, mo.free (by decide +kernel), _, rfl, ?_⟩
      dsimp only [tNil]
      refine askP (g := gAr) (hA.same t6) wf tr z1 z2 fun H7 s7 => ?_
      have t7 := t6.trans s7
      refine ⟨_, rfl, a, dx, _, rfl, t7 _ _ lk0, mo.free (by decide +kernel), _, rfl, ?_⟩
      dsimp only [tNil]
      refine askP (g := gRt) (hA.same t7) wf tr z1 z2 fun H8 s8 => ?_
      rw [st_rt inv al hm]
      refine ⟨_, rfl, rfl, _, rfl, ite2 (fun c => ?_) fun _ => ?_⟩
      · simp at c
      have t8 := t7.trans s8
      have u8 : Same H2 H8 := s4.trans (s5.trans (s6.trans (s7.trans s8)))
      cases m with
      | zero =>
        rw [st_fst al hz]
        refine ⟨_, rfl, rfl, _, rfl, ite2 (fun _ => ?_) fun c => absurd rfl c⟩
        refine ⟨_, rfl, rfl, _, rfl, ite2 (fun c => ?_) fun _ => ?_⟩
        · simp at c
        refine ⟨_, rfl, _, _, rfl, rfl, _, rfl, ite2 (fun c => ?_) fun _ => ?_⟩
        · simp at c
        refine ⟨_, rfl, _, _, rfl, rfl, _, rfl, ite2 (fun c => ?_) fun _ => ?_⟩
        · simp at c
        exact ⟨⟨_, _, _, rfl⟩, u8⟩
      | succ m =>
        obtain ⟨z', hz', ea⟩ := st_nxt inv al hz
        have hm' := List.mem_of_getElem? hz'
        obtain ⟨w1, w2⟩ := inv.rng hm'
        have lt := inv.next tr hz' hz
        rw [ea]
        refine ⟨_, rfl, rfl, _, rfl, ite2 (fun c => ?_) fun _ => ?_⟩
        · simp at c
          omega
        refine ⟨_, rfl, _, _, rfl, rfl, _, rfl, ite2 (fun _ => ?_) fun c => ?_⟩
        rotate_left
        · simp at c
        refine ⟨_, rfl, rfl, _, rfl, ite2 (fun c => ?_) fun _ => ?_⟩
        · simp at c
        refine ⟨_, rfl, _, rfl, _, _, rfl, rfl, _, rfl, ite2 (fun c => ?_) fun _ => ?_⟩
        · simp at c
          omega
        refine ⟨_, rfl, _, _, rfl, rfl, _, rfl, ite2 (fun _ => ?_) fun c => ?_⟩
        rotate_left
        · simp at c
        refine ⟨_, rfl, a, dx, _, rfl, t8 _ _ lk0, mo.free (by decide +kernel), _, rfl, ?_⟩
        dsimp only [tNil]
        refine askP (g := gOw) (hA.same t8) wf tr w1 w2 fun H9 s9 => ?_
        rw [st_ow inv al hm']
        have u9 := u8.trans s9
        have ix : atI ((S.stacks.getD i []).map V.int) (((m + 1 : Nat) : Int) - 1) = some (.int z') := by
          rw [show (((m + 1 : Nat) : Int) - 1) = ((m : Nat) : Int) by omega]
          refine atI_nat ?_
          rw [List.getElem?_map]
          exact congrArg (Option.map V.int) hz'
        refine ⟨_, rfl, _, rfl, _, _, rfl, rfl, _, _, _, _, rfl, rfl, .inl (.inl (u9 _ _ hp)), ix, rfl, _, rfl, ite2 (fun c => ?_) fun _ => ?_⟩
        · simp at c
        exact ⟨⟨_, _, _, rfl⟩, u9⟩
    · rintro σ H' ⟨_, s3⟩
      exact q _ (s2.trans s3)
end
end K08

set_option maxRecDepth 100000
set_option maxHeartbeats 4000000
namespace K08
open PySem PySem.Spec L2 Rm
open PyProof.Rows hiding St
section
variable {P : Program} {w : World} {K : PySem.W.Frag} {mg : Str → Option Value} {base : Heap} {C CP : Addr} {more : List (Str × V)} {EE : EA}
theorem sc__law_alive_right : FnScope ["_law_fates", "_law_chain", "_law_owners", "_law_alive", "_law_opened_here", "_law_rest", "_law_holder", "_law_part", "_law_at"] ["_law_fates", "_law_chain"] (defScope s__law_alive_right) :=
  ⟨rfl, rfl, rfl, by decide +kernel, rfl, by decide +kernel, by decide +kernel⟩
def spAlive (C CP : Addr) (more : List (Str × V)) : Sp := fun vs H Q _ => ∃ a p c S F, vs = [.ref a, .ref p] ∧ FsA C CP more H a S F ∧ H p = some (.lst (c.map V.int)) ∧ S.Inv ∧ S.Few 800 ∧ S.Tree ∧ S.Al ∧ ChE S c ∧ c.length ≤ 800 ∧ ∀ H', Same H H' → Q (.bl true) H'
theorem ok_alive {f : Addr} {fd : FuncData} (F0 : Fun K "_law_alive_right" "_law_alive_right" s__law_alive_right f fd) (B : Bl mg) (mo : MO more)
    (M_Fates_owner : Cm P w K mg base (L2.CX P w) 7 C "owner" ["self", "part"] (spPt K C CP more EE fun S q => if S.out (S.root q) = "open" then .int (S.root q) else .non)) :
    FnG P w K mg base CX0 9 f fd ["_law_fates", "_law_chain"] (spAlive C CP more) := by
  refine fn_q F0 sc__law_alive_right (fun vs H Q E h => ?_) (fun cdv A outer s H vs Q E hr hG h => ?_)
  · obtain ⟨a, p, c, S, F, rfl, _⟩ := h
    rfl
  · obtain ⟨a, p, c, S, F, rfl, hA, hp, inv, few, tr, al, ce, lc, q⟩ := h
    have hu := hu_of hr
    refine ⟨_, (pss_cons (ps_set (i := 2) sc__law_alive_right.nd rfl (Or.inr rfl) (pe_lc (own := [("_law_part", 7)]) (by rfl) sc__law_alive_right.nd (pi_list (pv 1)) (blkOk_by (own := [("_law_part", 7)]) (N := ["_law_fates", "_law_chain", "_law_owners", "_law_alive", "_law_opened_here", "_law_rest", "_law_holder", "_law_part", "_law_at"]) (sc := defScope s__law_alive_right) (by decide +kernel))
        (fun _ _ _ _ _ => (pg_name (i := 7) sc__law_alive_right.nd rfl (Or.inl rfl))) (fun _ _ _ _ _ => pts_nil) (fun _ _ _ _ _ => (pe_cm M_Fates_owner (hr.mono (by decide)) hG (pv 0) (pa_cons (pv 7) pa_nil) passL))))
      (pss_cons (ps_setLc (i := 3) (own := [("_law_at", 8)]) (g := gName 8) rfl sc__law_alive_right.nd rfl rfl (sw_true rfl rfl rfl (by decide +kernel)) (pi_range1 (by rfl) B.n_range (pa_cons (pe_callB call_len_seq (by rfl) B.n_len (by decide +kernel) (pa_cons (pv 1) pa_nil)) pa_nil)) (blkOk_by (own := [("_law_at", 8)]) (N := ["_law_fates", "_law_chain", "_law_owners", "_law_alive", "_law_opened_here", "_law_rest", "_law_holder", "_law_part", "_law_at"]) (sc := defScope s__law_alive_right) (by decide +kernel))
        (fun _ _ _ _ _ => pg_name (i := 8) sc__law_alive_right.nd rfl (Or.inl rfl)) (fun _ _ _ _ _ => (pts_one (pt_cmpR op_notN (pe_ix (show IxR _ (rIxL K) from ix_list) (pv 2) (pv 8) (fun _ _ => rfl)) pe_non (nomark _)))) (fun _ _ _ _ _ => (pv 8)))
      (pss_cons (ps_if (pt_cmpR (op_neD hr.units) (pv 3) (pe_listRg rfl (by rfl) B.n_list (prg_1 (by rfl) B.n_range (pe_callB call_len_seq (by rfl) B.n_len (by decide +kernel) (pa_cons (pv 3) pa_nil)))) (nomark _)) (pss_one (ps_ret pe_bl)) pss_nil)
      (pss_cons (ps_setLc (i := 4) (own := [("_law_at", 8)]) (g := gName 8) rfl sc__law_alive_right.nd rfl rfl (sw_true rfl rfl rfl (by decide +kernel)) (pi_list (pv 3)) (blkOk_by (own := [("_law_at", 8)]) (N := ["_law_fates", "_law_chain", "_law_owners", "_law_alive", "_law_opened_here", "_law_rest", "_law_holder", "_law_part", "_law_at"]) (sc := defScope s__law_alive_right) (by decide +kernel))
        (fun _ _ _ _ _ => pg_name (i := 8) sc__law_alive_right.nd rfl (Or.inl rfl)) (fun _ _ _ _ _ => (pts_one (pt_cmpR op_eq (pe_ix (show IxR _ (rIxL K) from ix_list) (pv 2) (pv 8) (fun _ _ => rfl)) (pe_ix (show IxR _ (rIxL K) from ix_list) (pv 1) (pv 8) (fun _ _ => rfl)) (nomark _)))) (fun _ _ _ _ _ => (pv 8)))
      (pss_cons (ps_if (pt_cmpR (op_neD hr.units) (pv 4) (pe_listRg rfl (by rfl) B.n_list (prg_1 (by rfl) B.n_range (pe_callB call_len_seq (by rfl) B.n_len (by decide +kernel) (pa_cons (pv 4) pa_nil)))) (nomark _)) (pss_one (ps_ret pe_bl)) pss_nil)
      (pss_cons (ps_set (i := 5) sc__law_alive_right.nd rfl (Or.inl rfl) (pe_slice sl_list (pv 3) (po_some (pe_callB call_len_seq (by rfl) B.n_len (by decide +kernel) (pa_cons (pv 4) pa_nil))) po_none))
      (pss_cons (ps_if (pt_cmpR (op_eqD hr.units) (pv 5) (pe_lst pa_nil) (nomark _)) (pss_one (ps_ret pe_bl)) pss_nil)
      (pss_cons (ps_set (i := 6) sc__law_alive_right.nd rfl (Or.inr rfl) (pe_ix ix_list (pv 1) (pe_op op_sub (pe_callB call_len_seq (by rfl) B.n_len (by decide +kernel) (pa_cons (pv 4) pa_nil)) pe_int) (fun _ _ => rfl)))
      (pss_one (ps_ret (pe_cmpR (op_eqD hr.units) (pe_lc (own := [("_law_at", 8)]) (by rfl) sc__law_alive_right.nd (pi_list (pv 5)) (blkOk_by (own := [("_law_at", 8)]) (N := ["_law_fates", "_law_chain", "_law_owners", "_law_alive", "_law_opened_here", "_law_rest", "_law_holder", "_law_part", "_law_at"]) (sc := defScope s__law_alive_right) (by decide +kernel))
        (fun _ _ _ _ _ => (pg_name (i := 8) sc__law_alive_right.nd rfl (Or.inl rfl))) (fun _ _ _ _ _ => (pts_one (pt_cmpR op_ne (pe_ix (show IxR _ (rIxL K) from ix_list) (pv 2) (pv 8) (fun _ _ => rfl)) (pv 6) (nomark _)))) (fun _ _ _ _ _ => (pv 8))) (pe_lst pa_nil) (nomark _)))))))))))), ?_⟩
    have wf := inv.wf few (by decide)
    obtain ⟨ad, hf, hF⟩ := id hA
    obtain ⟨dx, lk⟩ := hf.look
    have lk0 := lk.o
    obtain ⟨i, j, l, k⟩ := ce
    have jl := k.jl
    have ll := k.lc
    have hq : ∀ {H'}, Same H H' → SqL K H' p (c.map V.int) := fun s => .inl (.inl (s _ _ hp))
    have clen : (c.map V.int).length = c.length := List.length_map ..
    have cAt : ∀ {m : Nat} {x : V}, (c.map V.int)[m]? = some x → ∃ z, c[m]? = some z ∧ x = .int z := fun {m x} hx => by
      rw [List.getElem?_map] at hx
      cases e : c[m]? with
      | none => rw [e] at hx; cases hx
      | some z =>
        rw [e] at hx
        exact ⟨z, rfl, (Option.some.inj hx).symm⟩
    have cTo : ∀ {m : Nat} {z : Int}, c[m]? = some z → atI (c.map V.int) (m : Int) = some (.int z) := fun {m z} h => atI_nat (by rw [List.getElem?_map, h]; rfl)
    have oTo : ∀ {m : Nat} {z : Int}, c[m]? = some z → atI (c.map (gOw S)) (m : Int) = some (gOw S z) := fun {m z} h => atI_nat (by rw [List.getElem?_map, h]; rfl)
    have cHas : ∀ {m : Nat}, m < c.length → ∃ z, c[m]? = some z := fun h => ⟨_, List.getElem?_eq_getElem h⟩
    -- whose they are
    refine ⟨_, rfl, p, rfl, ⟨_, hq (.refl _)⟩, fun D nD => lc_list (xs := c.map V.int) (fun m H' => Same H H' ∧ H' D = some (.lst ((c.take m).map (gOw S)))) ⟨same_new nD, upd_same⟩ (fun m H' _ e => hq e.1) ?_ ?_⟩
    · rintro m x Hx hx ⟨s1, hD⟩
      obtain ⟨z, hz, rfl⟩ := cAt hx
      obtain ⟨z1, z2⟩ := k.rng z (List.mem_of_getElem? hz)
      refine ⟨rfl, _, rfl, a, dx, _, rfl, s1 _ _ lk0, mo.free (by decide +kernel), _, rfl, ?_⟩
      dsimp only [tNil]
      refine askP (g := gOw) (hA.same s1) wf tr z1 z2 fun H2 s2 => ?_
      refine ⟨_, s2 _ _ hD, ?_, same_tape nD (s1.trans s2), ?_⟩
      · rw [List.length_map, List.length_take]
        exact sz1000 (by omega)
      · rw [upd_same, List.take_succ, hz, List.map_append]
        rfl
    rintro H1 ⟨s1, hD⟩
    rw [clen, List.take_of_length_le (Nat.le_refl _)] at hD
    have oq : ∀ {H'}, Same H1 H' → SqL K H' D (c.map (gOw S)) := fun s => .inl (.inl (s _ _ hD))
    have cq : ∀ {H'}, Same H1 H' → SqL K H' p (c.map V.int) := fun s => hq (s1.trans s)
    -- those that are alive
    refine ⟨_, rfl, _, _, rfl, .inl (cq (.refl _)), _, rfl, by rw [clen]; omega, by rw [clen]; omega, fun D2 nD2 => Rm.lc_range (fun m H' => Same H1 H' ∧ H' D2 = some (.lst ((nsL (min m l)).map V.int))) ⟨same_new nD2, by rw [Nat.zero_min]; exact upd_same⟩ ?_ ?_⟩
    · rintro m Hx hm ⟨s2, hD2⟩
      obtain ⟨z, hz⟩ := cHas (m := m) (by rw [clen] at hm; omega)
      rw [Int.zero_add]
      refine ⟨rfl, _, rfl, _, rfl, _, _, _, _, rfl, rfl, oq s2, oTo hz, rfl, _, rfl, ite2 (fun c1 => ?_) fun c1 => ?_⟩
      · have lt : m < l := by
          rcases Nat.lt_or_ge m l with h | h
          · exact h
          · rw [ce_gone k hz h] at c1
            cases c1
        refine ⟨_, rfl, _, hD2, ?_, same_tape nD2 s2, ?_⟩
        · rw [List.length_map, nsL_len]
          exact sz1000 (by omega)
        · rw [upd_same, Nat.min_eq_left (show m ≤ l by omega), Nat.min_eq_left (show m + 1 ≤ l by omega), nsL_succ, List.map_append]
          rfl
      · have ge : l ≤ m := by
          rcases Nat.lt_or_ge m l with h | h
          · obtain ⟨r, e, _⟩ := ce_own inv al k hz h
            rw [e] at c1
            exact absurd rfl c1
          · exact h
        refine ⟨s2, ?_⟩
        rw [hD2, Nat.min_eq_right ge, Nat.min_eq_right (show l ≤ m + 1 by omega)]
    rintro H2 ⟨s2, hD2⟩
    rw [show min ((c.map V.int).length : Int).toNat l = l by rw [clen]; omega] at hD2
    have aq : ∀ {H'}, Same H2 H' → SqL K H' D2 ((nsL l).map V.int) := fun s => .inl (.inl (s _ _ hD2))
    -- alive are the first ones
    refine ⟨_, rfl, _, rfl, _, _, rfl, .inl (aq (.refl _)), _, rfl, ?_⟩
    have nl : ∀ m : Nat, (((nsL m).map V.int).length : Int) = (m : Int) := fun m => by rw [List.length_map, nsL_len]
    refine ⟨RgOk.of_le (Int.le_refl _) (by rw [nl]; omega) (by decide) (by omega), fun D3 nD3 => ?_⟩
    dsimp only
    rw [nl, rgV_nsL]
    have s3 := same_new (o := .lst ((nsL l).map V.int)) nD3
    have hD3 := upd_same (H := H2) (a := D3) (o := .lst ((nsL l).map V.int))
    generalize upd H2 D3 (.lst ((nsL l).map V.int)) = H3 at s3 hD3 ⊢
    refine ⟨_, _, dp_ints (s3 _ _ hD2), dp_ints hD3, shaped_ints _, shaped_ints _, _, rfl, ite2 (fun c => ?_) fun _ => ?_⟩
    · rw [eqv_ints] at c
      cases c
    -- those that are open
    refine ⟨_, rfl, D2, rfl, ⟨_, aq s3⟩, fun D4 nD4 => lc_list (xs := (nsL l).map V.int) (fun m H' => Same H3 H' ∧ H' D4 = some (.lst ((nsL (min m j)).map V.int))) ⟨same_new nD4, by rw [Nat.zero_min]; exact upd_same⟩ (fun m H' _ e => aq (s3.trans e.1)) ?_ ?_⟩
    · rintro m x Hx hx ⟨s4, hD4⟩
      have ml : m < l := by
        have := (List.getElem?_eq_some_iff.mp hx).1
        rwa [List.length_map, nsL_len] at this
      obtain ⟨z, hz⟩ := cHas (m := m) (by omega)
      obtain rfl : x = .int (m : Nat) := by
        rw [List.getElem?_map, nsL_at ml] at hx
        exact (Option.some.inj hx).symm
      obtain ⟨r, er, e1, e2⟩ := ce_own inv al k hz ml
      have t4 := s2.trans (s3.trans s4)
      refine ⟨rfl, _, rfl, _, rfl, _, _, _, _, rfl, rfl, oq t4, (oTo hz).trans (congrArg some er), _, rfl, _, rfl, _, _, _, _, rfl, rfl, cq t4, cTo hz, rfl, _, rfl, ite2 (fun c1 => ?_) fun c1 => ?_⟩
      · have ez : r = z := V.int.inj (of_decide_eq_true c1)
        have lt : m < j := by
          rcases Nat.lt_or_ge m j with h | h
          · exact h
          · exact absurd ez (e2 h).2
        refine ⟨_, rfl, _, hD4, ?_, same_tape nD4 s4, ?_⟩
        · rw [List.length_map, nsL_len]
          exact sz1000 (by omega)
        · rw [upd_same, Nat.min_eq_left (show m ≤ j by omega), Nat.min_eq_left (show m + 1 ≤ j by omega), nsL_succ, List.map_append]
          rfl
      · have ge : j ≤ m := by
          rcases Nat.lt_or_ge m j with h | h
          · exact absurd (decide_eq_true (congrArg V.int (e1 h))) c1
          · exact h
        refine ⟨s4, ?_⟩
        rw [hD4, Nat.min_eq_right ge, Nat.min_eq_right (show j ≤ m + 1 by omega)]
    rintro H4 ⟨s4, hD4⟩
    rw [show min ((nsL l).map V.int).length j = j by rw [List.length_map, nsL_len]; omega] at hD4
    have pq : ∀ {H'}, Same H4 H' → SqL K H' D4 ((nsL j).map V.int) := fun s => .inl (.inl (s _ _ hD4))
    refine ⟨_, rfl, _, rfl, _, _, rfl, .inl (pq (.refl _)), _, rfl, ?_⟩
    refine ⟨RgOk.of_le (Int.le_refl _) (by rw [nl]; omega) (by decide) (by omega), fun D5 nD5 => ?_⟩
    dsimp only
    rw [nl, rgV_nsL]
    have s5 := same_new (o := .lst ((nsL j).map V.int)) nD5
    have hD5 := upd_same (H := H4) (a := D5) (o := .lst ((nsL j).map V.int))
    generalize upd H4 D5 (.lst ((nsL j).map V.int)) = H5 at s5 hD5 ⊢
    refine ⟨_, _, dp_ints (s5 _ _ hD4), dp_ints hD5, shaped_ints _, shaped_ints _, _, rfl, ite2 (fun c => ?_) fun _ => ?_⟩
    · rw [eqv_ints] at c
      cases c
    -- the rest
    have t5 := s3.trans (s4.trans s5)
    refine ⟨_, rfl, _, rfl, _, _, rfl, .inl (pq s5), _, rfl, D2, _, rfl, aq t5, fun D6 nD6 => ?_⟩
    rw [nl, cut_from (by rw [List.length_map, nsL_len]; exact jl), ← List.map_drop]
    have s6 := same_new (o := .lst (((nsL l).drop j).map V.int)) nD6
    have hD6 := upd_same (H := H5) (a := D6) (o := .lst (((nsL l).drop j).map V.int))
    generalize upd H5 D6 (.lst (((nsL l).drop j).map V.int)) = H6 at s6 hD6 ⊢
    have rlen : ((nsL l).drop j).length = l - j := by rw [List.length_drop, nsL_len]
    refine ⟨_, rfl, (show 0 ≤ sizeLine by decide), fun e1 n1 => ?_⟩
    have s7 := same_new (o := .lst []) n1
    have he1 := upd_same (H := H6) (a := e1) (o := .lst [])
    generalize upd H6 e1 (.lst []) = H7 at s7 he1 ⊢
    have t7 : Same H1 H7 := s2.trans (t5.trans (s6.trans s7))
    refine ⟨_, .list [], dp_ints (s7 _ _ hD6), .lst (.inl (.inl he1)) .nil, shaped_ints _, shaped_ints [], _, rfl, ite2 (fun _ => ?_) fun cr => ?_⟩
    · exact q _ (s1.trans t7)
    have jlt : j < l := by
      rcases Nat.lt_or_ge j l with h | h
      · exact h
      · rw [List.length_eq_zero_iff.mp (show ((nsL l).drop j).length = 0 by omega)] at cr
        exact absurd rfl cr
    have j1 := k.pos jlt
    obtain ⟨h, hh⟩ := cHas (m := j - 1) (by omega)
    have hat : atI (c.map V.int) ((j : Int) - 1) = some (.int h) := by
      rw [show (j : Int) - 1 = ((j - 1 : Nat) : Int) by omega]
      exact cTo hh
    refine ⟨_, rfl, _, rfl, _, _, rfl, .inl (pq (s5.trans (s6.trans s7))), _, _, rfl, rfl, p, _, _, _, rfl, rfl, cq t7, (by rw [nl]; exact hat), ?_⟩
    refine ⟨_, rfl, D6, rfl, ⟨_, .inl (.inl (s7 _ _ hD6))⟩, fun D7 nD7 => lc_list (xs := ((nsL l).drop j).map V.int) (fun m H' => Same H7 H' ∧ H' D7 = some (.lst [])) ⟨same_new nD7, upd_same⟩ (fun m H' _ e => .inl (.inl (e.1 _ _ (s7 _ _ hD6)))) ?_ ?_⟩
    · rintro m x Hx hx ⟨s8, hD7⟩
      have ml : m < l - j := by
        have := (List.getElem?_eq_some_iff.mp hx).1
        rwa [List.length_map, rlen] at this
      obtain ⟨z, hz⟩ := cHas (m := j + m) (by omega)
      obtain rfl : x = .int ((j + m : Nat) : Int) := by
        rw [List.getElem?_map, List.getElem?_drop, nsL_at (by omega)] at hx
        exact (Option.some.inj hx).symm
      obtain ⟨r, er, _, e2⟩ := ce_own inv al k hz (by omega)
      have eh : r = h := by
        have := (e2 (by omega)).1
        rw [hh] at this
        exact (Option.some.inj this).symm
      refine ⟨rfl, _, rfl, _, rfl, _, _, _, _, rfl, rfl, oq (t7.trans s8), (oTo hz).trans (congrArg some er), _, rfl, rfl, _, rfl, ite2 (fun c1 => ?_) fun _ => ⟨s8, hD7⟩⟩
      rw [eh] at c1
      simp at c1
    rintro H8 ⟨s8, hD7⟩
    refine ⟨(show 0 ≤ sizeLine by decide), fun e2 n2 => ?_⟩
    refine ⟨.list [], .list [], .lst (.inl (.inl (same_new n2 _ _ hD7))) .nil, .lst (.inl (.inl upd_same)) .nil, shaped_ints [], shaped_ints [], ?_⟩
    exact q _ (s1.trans (t7.trans (s8.trans (same_new n2))))
end
end K08

set_option maxRecDepth 100000
set_option maxHeartbeats 4000000
namespace K08
open PySem PySem.Spec L2 Rm
open PyProof.Rows hiding St
section
variable {P : Program} {w : World} {K : PySem.W.Frag} {mg : Str → Option Value} {base : Heap} {C CP : Addr} {more : List (Str × V)} {EE : EA}
theorem sc__law_roots_right : FnScope ["_law_fates", "_law_many", "_law_part", "_law_root_here"] ["_law_fates", "_law_many"] (defScope s__law_roots_right) :=
  ⟨rfl, rfl, rfl, by decide +kernel, rfl, by decide +kernel, by decide +kernel⟩
def spRoots (C CP : Addr) (more : List (Str × V)) : Sp := fun vs H Q _ => ∃ a S F, vs = [.ref a, .int (S.parts.length : Nat)] ∧ FsA C CP more H a S F ∧ S.Inv ∧ S.Few 800 ∧ S.Tree ∧ S.Al ∧ ∀ H', Same H H' → Q (.bl true) H'
theorem ok_roots {f : Addr} {fd : FuncData} (F0 : Fun K "_law_roots_right" "_law_roots_right" s__law_roots_right f fd) (B : Bl mg) (mo : MO more)
    (M_Fates_root : Cm P w K mg base (L2.CX P w) 7 C "root" ["self", "part"] (spPt K C CP more EE fun S q => .int (S.root q)))
    (M_Fates_fate : Cm P w K mg base (L2.CX P w) 7 C "fate" ["self", "part"] (spPt K C CP more EE fun S q => .str (S.out (S.root q))))
    (M_Fates_transaction : Cm P w K mg base (L2.CX P w) 7 C "transaction" ["self", "part"] (spPt K C CP more EE fun S q => .int ((S.parts[(q - 1).toNat]?).map PI.holder |>.getD 0)))
    (M_Fates_ended_at : Cm P w K mg base (L2.CX P w) 7 C "ended_at" ["self", "part"] (spPt K C CP more EE fun S q => oI ((S.parts[(S.root q - 1).toNat]?).bind PI.ended))) :
    FnG P w K mg base CX0 9 f fd ["_law_fates", "_law_many"] (spRoots C CP more) := by
  refine fn_q F0 sc__law_roots_right (fun vs H Q E h => ?_) (fun cdv A outer s H vs Q E hr hG h => ?_)
  · obtain ⟨a, S, F, rfl, _⟩ := h
    rfl
  · obtain ⟨a, S, F, rfl, hA, inv, few, tr, al, q⟩ := h
    have hu := hu_of hr
    refine ⟨_, (pss_cons (ps_for PassesOwn.never rfl (pi_range2 (by rfl) B.n_range (pa_cons pe_int (pa_cons (pe_op op_add (pv 1) pe_int) pa_nil))) (pg_name (i := 2) sc__law_roots_right.nd rfl (Or.inl rfl)) (pss_cons (ps_set (i := 3) sc__law_roots_right.nd rfl (Or.inl rfl) (pe_cm M_Fates_root (hr.mono (by decide)) hG (pv 0) (pa_cons (pv 2) pa_nil) passL))
      (pss_cons (ps_if (PW.pt (pw_or (pt_cmpR op_gt (pv 3) (pv 2) (nomark _)) (pw_or1 (pt_cmpR op_ne (pe_cm M_Fates_root (hr.mono (by decide)) hG (pv 0) (pa_cons (pv 3) pa_nil) passL) (pv 3) (nomark _))))) (pss_one (ps_ret pe_bl)) pss_nil)
      (pss_cons (ps_if (pt_cmpR op_ne (pe_cm M_Fates_transaction (hr.mono (by decide)) hG (pv 0) (pa_cons (pv 3) pa_nil) passL) (pe_cm M_Fates_transaction (hr.mono (by decide)) hG (pv 0) (pa_cons (pv 2) pa_nil) passL) (nomark _)) (pss_one (ps_ret pe_bl)) pss_nil)
      (pss_cons (ps_if (pt_cmpR op_ne (pe_cm M_Fates_fate (hr.mono (by decide)) hG (pv 0) (pa_cons (pv 3) pa_nil) passL) (pe_cm M_Fates_fate (hr.mono (by decide)) hG (pv 0) (pa_cons (pv 2) pa_nil) passL) (nomark _)) (pss_one (ps_ret pe_bl)) pss_nil)
      (pss_one (ps_if (pt_cmpR op_ne (pe_cm M_Fates_ended_at (hr.mono (by decide)) hG (pv 0) (pa_cons (pv 3) pa_nil) passL) (pe_cm M_Fates_ended_at (hr.mono (by decide)) hG (pv 0) (pa_cons (pv 2) pa_nil) passL) (nomark _)) (pss_one (ps_ret pe_bl)) pss_nil)))))))
      (pss_one (ps_ret pe_bl))), ?_⟩
    have wf := inv.wf few (by decide)
    obtain ⟨ad, hf, hF⟩ := id hA
    obtain ⟨dx, lk⟩ := hf.look
    have lk0 := lk.o
    have hp := few.p
    refine ⟨_, rfl, _, _, rfl, rfl, _, _, rfl, ⟨by decide, by decide, by omega, by omega⟩, for_range (fun j σ H' => (∃ c2 c3, σ = [some (.ref a), some (.int (S.parts.length : Nat)), c2, c3]) ∧ Same H H') ⟨⟨_, _, rfl⟩, .refl _⟩ ?_ ?_⟩
    · rintro j σ H1 hj ⟨⟨c2, c3, rfl⟩, s1⟩
      have hl : j < S.parts.length := by omega
      rw [Int.add_comm 1 (j : Int)]
      obtain ⟨r, er, hr'⟩ := root_nat tr hl
      have le := root_le tr hl
      have r1 : 1 ≤ S.root ((j : Int) + 1) := by omega
      have r2 : S.root ((j : Int) + 1) ≤ (S.parts.length : Int) := by omega
      have p1 : 1 ≤ (j : Int) + 1 := by omega
      have p2 : (j : Int) + 1 ≤ (S.parts.length : Int) := by omega
      refine ⟨_, rfl, a, dx, _, rfl, s1 _ _ lk0, mo.free (by decide +kernel), _, rfl, ?_⟩
      dsimp only [tNil]
      refine askP (g := gRt) (hA.same s1) wf tr p1 p2 fun H2 s2' => ?_
      have s2 := s1.trans s2'
      refine ⟨_, rfl, _, rfl, _, _, rfl, rfl, _, rfl, ite2 (fun c => ?_) fun _ => ?_⟩
      · have := of_decide_eq_true c
        omega
      refine ⟨_, rfl, a, dx, _, rfl, s2 _ _ lk0, mo.free (by decide +kernel), _, rfl, ?_⟩
      dsimp only [tNil]
      refine askP (g := gRt) (hA.same s2) wf tr r1 r2 fun H3 s3' => ?_
      have s3 := s2.trans s3'
      have eR : gRt S (S.root ((j : Int) + 1)) = .int (S.root ((j : Int) + 1)) := by
        unfold gRt
        rw [root_rt tr hl]
      rw [eR]
      refine ⟨_, rfl, rfl, _, rfl, ite2 (fun c => ?_) fun _ => ?_⟩
      · simp [gRt] at c
      refine ⟨_, rfl, a, dx, _, rfl, s3 _ _ lk0, mo.free (by decide +kernel), _, rfl, ?_⟩
      dsimp only [tNil]
      refine askP (g := gTx) (hA.same s3) wf tr r1 r2 fun H4 s4' => ?_
      have s4 := s3.trans s4'
      refine ⟨_, rfl, a, dx, _, rfl, s4 _ _ lk0, mo.free (by decide +kernel), _, rfl, ?_⟩
      dsimp only [tNil]
      refine askP (g := gTx) (hA.same s4) wf tr p1 p2 fun H5 s5' => ?_
      have s5 := s4.trans s5'
      rw [gTx_rt tr al hl]
      refine ⟨rfl, _, rfl, ite2 (fun c => ?_) fun _ => ?_⟩
      · simp at c
      refine ⟨_, rfl, a, dx, _, rfl, s5 _ _ lk0, mo.free (by decide +kernel), _, rfl, ?_⟩
      dsimp only [tNil]
      refine askP (g := gFa) (hA.same s5) wf tr r1 r2 fun H6 s6' => ?_
      have s6 := s5.trans s6'
      refine ⟨_, rfl, a, dx, _, rfl, s6 _ _ lk0, mo.free (by decide +kernel), _, rfl, ?_⟩
      dsimp only [tNil]
      refine askP (g := gFa) (hA.same s6) wf tr p1 p2 fun H7 s7' => ?_
      have s7 := s6.trans s7'
      rw [gFa_rt tr hl]
      refine ⟨rfl, _, rfl, ite2 (fun c => ?_) fun _ => ?_⟩
      · simp at c
      refine ⟨_, rfl, a, dx, _, rfl, s7 _ _ lk0, mo.free (by decide +kernel), _, rfl, ?_⟩
      dsimp only [tNil]
      refine askP (g := gEn) (hA.same s7) wf tr r1 r2 fun H8 s8' => ?_
      have s8 := s7.trans s8'
      refine ⟨_, rfl, a, dx, _, rfl, s8 _ _ lk0, mo.free (by decide +kernel), _, rfl, ?_⟩
      dsimp only [tNil]
      refine askP (g := gEn) (hA.same s8) wf tr p1 p2 fun H9 s9' => ?_
      rw [gEn_rt tr hl]
      refine ⟨scal_oI _, _, rfl, ite2 (fun c => ?_) fun _ => ?_⟩
      · simp at c
      exact ⟨⟨_, _, rfl⟩, s8.trans s9'⟩
    · rintro σ H' ⟨_, s1⟩
      exact q _ s1
end
section
variable {P : Program} {w : World} {K : PySem.W.Frag} {mg : Str → Option Value} {base : Heap} {C CP : Addr} {more : List (Str × V)} {EE : EA}
theorem sc__law_told_of : FnScope ["_law_fates", "_law_number"] ["_law_fates", "_law_number"] (defScope s__law_told_of) :=
  ⟨rfl, rfl, rfl, by decide +kernel, rfl, by decide +kernel, by decide +kernel⟩
def spToldOf (C CP : Addr) (more : List (Str × V)) : Sp := fun vs H Q _ => ∃ a i S F, vs = [.ref a, .int ((i : Nat) + 1)] ∧ FsA C CP more H a S F ∧ S.Inv ∧ S.Few 800 ∧ i < S.states.length ∧ ∀ H', Same H H' → Q (.str (toldZ S i)) H'
theorem ok_toldOf {f : Addr} {fd : FuncData} (F0 : Fun K "_law_told_of" "_law_told_of" s__law_told_of f fd) (B : Bl mg) (mo : MO more)
    (M_Fates_state : Cm P w K mg base (L2.CX P w) 7 C "state" ["self", "number"] (spGetN K C CP more EE qSt)) (M_Fates_parts : Cm P w K mg base (L2.CX P w) 7 C "parts" ["self", "number"] (spGetN K C CP more EE qPt)) :
    FnG P w K mg base CX0 9 f fd ["_law_fates", "_law_number"] (spToldOf C CP more) := by
  refine fn_q F0 sc__law_told_of (fun vs H Q E h => ?_) (fun cdv A outer s H vs Q E hr hG h => ?_)
  · obtain ⟨a, i, S, F, rfl, _⟩ := h
    rfl
  · obtain ⟨a, i, S, F, rfl, hA, inv, few, hi, q⟩ := h
    have hu := hu_of hr
    refine ⟨_, (pss_one (ps_ret (pe_callB (call_rep hG hr.units) (by rfl) B.n_repr (by decide +kernel) (pa_cons (pe_lst (pa_cons (pe_cm M_Fates_state (hr.mono (by decide)) hG (pv 0) (pa_cons (pv 1) pa_nil) passL) (pa_cons (pe_cm M_Fates_parts (hr.mono (by decide)) hG (pv 0) (pa_cons (pv 1) pa_nil) passL) pa_nil))) pa_nil)))), ?_⟩
    have wf := inv.wf few (by decide)
    obtain ⟨ad, hf, hF⟩ := id hA
    obtain ⟨dx, lk⟩ := hf.look
    have lk0 := lk.o
    have hst : S.st (.int ((i : Int) + 1)) ∈ S.states := by
      unfold FS.st
      simp only [Int.add_sub_cancel, Int.toNat_natCast]
      rw [List.getD_eq_getElem?_getD, List.getElem?_eq_getElem hi]
      exact List.getElem_mem hi
    have hrng : ∀ n ∈ S.stacks.getD i [], 0 ≤ n ∧ n < 1000 := fun n hn => by
      have := inv.rng (i := i) hn
      have := few.p
      omega
    have hlen : (S.stacks.getD i []).length ≤ 800 := few_getD few
    have sp := sm_pair (inv.sw _ hst) hrng (Nat.le_trans hlen (by decide))
    refine ⟨_, rfl, a, dx, _, rfl, lk0, mo.free (by decide +kernel), _, rfl, ?_⟩
    dsimp only [tNil]
    refine askN (p := qSt) hA wf hi fun H1 s1 => ?_
    refine ⟨_, rfl, a, dx, _, rfl, s1 _ _ lk0, mo.free (by decide +kernel), _, rfl, ?_⟩
    dsimp only [tNil]
    refine askN (p := qPt) (hA.same s1) wf hi fun H2 s2 p np => ?_
    have s3 := same_new (o := .lst ((S.stacks.getD i []).map V.int)) np
    have hp := upd_same (H := H2) (a := p) (o := .lst ((S.stacks.getD i []).map V.int))
    generalize upd H2 p (.lst ((S.stacks.getD i []).map V.int)) = H3 at s3 hp ⊢
    refine ⟨(show 2 ≤ sizeLine by decide), fun p2 np2 => ?_⟩
    have s4 := same_new (o := .lst [V.str (S.st (.int ((i : Int) + 1))), .ref p]) np2
    exact ⟨.ref p2, _, rfl, dx_pair upd_same (s4 _ _ hp), sp, q _ (s1.trans (s2.trans (s3.trans s4)))⟩
end
end K08

set_option maxRecDepth 100000
set_option maxHeartbeats 4000000
namespace K08
open PySem PySem.Spec L2 Rm
open PyProof.Rows hiding St
section
variable {P : Program} {w : World} {K : PySem.W.Frag} {mg : Str → Option Value} {base : Heap} {C CP : Addr} {EE : EA}
theorem sc_law : FnScope ["_law_script", "_law_start", "_law_tape_here", "_law_fates", "_law_world_here", "_law_chains", "_law_ended", "_law_turn", "_law_word", "_law_number", "_law_one", "_law_before", "_law_is_apart", "_law_part", "_law_chain"] ["_law_script"] (defScope s_law) :=
  ⟨rfl, rfl, rfl, by decide +kernel, rfl, by decide +kernel, by decide +kernel⟩
theorem ok_law {T : List (Addr × Str)} {f : Addr} {fd : FuncData} (F0 : Fun K "law" "law" s_law f fd) (B : Bl mg)
    (D__law_tape : Ce P w K mg base CX0 1 "_law_tape" ["_law_script", "_law_start"] (spTape K))
    (D_Fates : Cn P w K mg base CX0 1 "Fates" C ["self"] (spFInit C CP))
    (D__law_world : Ce P w K mg base CX0 1 "_law_world" [] spWorld)
    (D__law_step : Ce P w K mg base CX0 3 "_law_step" ["_law_tape_here", "_law_world_here"] spStep)
    (D__law_both : Ce P w K mg base CX0 12 "_law_both" ["_law_fates", "_law_world_here", "_law_word", "_law_number"] (spBoth K C CP [] T))
    (D__law_told_of : Ce P w K mg base CX0 9 "_law_told_of" ["_law_fates", "_law_number"] (spToldOf C CP []))
    (D__law_chain_right : Ce P w K mg base CX0 9 "_law_chain_right" ["_law_fates", "_law_number"] (spChain C CP []))
    (D__law_alive_right : Ce P w K mg base CX0 9 "_law_alive_right" ["_law_fates", "_law_chain"] (spAlive C CP []))
    (D__law_roots_right : Ce P w K mg base CX0 9 "_law_roots_right" ["_law_fates", "_law_many"] (spRoots C CP []))
    (M_Fates_running : Cm P w K mg base CX0 1 C "running" ["self"] (spGetL C CP [] fun S => S.work))
    (M_Fates_parts : Cm P w K mg base (L2.CX P w) 7 C "parts" ["self", "number"] (spGetN K C CP [] EE qPt))
    (M_Fates_owner : Cm P w K mg base (L2.CX P w) 7 C "owner" ["self", "part"] (spPt K C CP [] EE fun S q => if S.out (S.root q) = "open" then .int (S.root q) else .non))
    (M_Fates_fate : Cm P w K mg base (L2.CX P w) 7 C "fate" ["self", "part"] (spPt K C CP [] EE fun S q => .str (S.out (S.root q))))
    (M_Fates_ended_at : Cm P w K mg base (L2.CX P w) 7 C "ended_at" ["self", "part"] (spPt K C CP [] EE fun S q => oI ((S.parts[(S.root q - 1).toNat]?).bind PI.ended))) :
    FnG P w K mg base CX0 13 f fd ["_law_script"] (spLawT K T) := by
  refine fn_q F0 sc_law (fun vs H Q E h => ?_) (fun cdv A outer s H vs Q E hr hG h => ?_)
  · obtain ⟨a, ns, rfl, _⟩ := h
    rfl
  · obtain ⟨a, ns, rfl, ha, hn, hb, tabs, q⟩ := h
    have hu := hu_of hr
    refine ⟨_, (pss_cons (ps_for PassesOwn.never rfl (pi_range1 (by rfl) B.n_range (pa_cons (pe_callB (call_max2 rfl) (by rfl) B.n_max (by decide +kernel) (pa_cons pe_int (pa_cons (pe_callB (call_min2 rfl) (by rfl) B.n_min (by decide +kernel) (pa_cons pe_int (pa_cons (pe_callB call_len_seq (by rfl) B.n_len (by decide +kernel) (pa_cons (pv 0) pa_nil)) pa_nil))) pa_nil))) pa_nil)) (pg_name (i := 1) sc_law.nd rfl (Or.inl rfl)) (pss_cons (ps_set (i := 2) sc_law.nd rfl (Or.inl rfl) (pe_ce D__law_tape (hr.mono (by decide)) hG (pa_cons (pv 0) (pa_cons (pv 1) pa_nil)) pass0))
      (pss_cons (ps_asg (pe_tup (pa_cons (pe_cn0 D_Fates (hr.mono (by decide)) hG pass0) (pa_cons (pe_ce0 D__law_world (hr.mono (by decide)) hG pass0) (pa_cons (pe_lst pa_nil) (pa_cons pe_dnewK pa_nil))))) (pg_tup rfl (pgs_cons (pg_name (i := 3) sc_law.nd rfl (Or.inr rfl)) (pgs_cons (pg_name (i := 4) sc_law.nd rfl (Or.inl rfl)) (pgs_cons (pg_name (i := 5) sc_law.nd rfl (Or.inl rfl)) (pgs_cons (pg_name (i := 6) sc_law.nd rfl (Or.inl rfl)) pgs_nil))))))
      (pss_one (ps_for PassesOwn.never rfl (pi_range1 (by rfl) B.n_range (pa_cons pe_int pa_nil)) (pg_name (i := 7) sc_law.nd rfl (Or.inl rfl)) (pss_cons (ps_asg (pe_ce D__law_step (hr.mono (by decide)) hG (pa_cons (pv 2) (pa_cons (pv 4) pa_nil)) pass0) (pg_tup rfl (pgs_cons (pg_name (i := 8) sc_law.nd rfl (Or.inl rfl)) (pgs_cons (pg_name (i := 9) sc_law.nd rfl (Or.inl rfl)) pgs_nil))))
      (pss_cons (ps_lock (ps_set (i := 11) sc_law.nd rfl (Or.inl rfl) (pe_callTy (call_dictP rfl) (by rfl) B.n_dict (by decide +kernel) (pa_cons (pe_lc (own := [("_law_one", 10)]) (by rfl) sc_law.nd (pi_keys (pe_dget hu (pv 4) pe_str (fun _ _ => rfl))) (blkOk_by (own := [("_law_one", 10)]) (N := ["_law_script", "_law_start", "_law_tape_here", "_law_fates", "_law_world_here", "_law_chains", "_law_ended", "_law_turn", "_law_word", "_law_number", "_law_one", "_law_before", "_law_is_apart", "_law_part", "_law_chain"]) (sc := defScope s_law) (by decide +kernel))
        (fun _ _ _ _ _ => (pg_name (i := 10) sc_law.nd rfl (Or.inl rfl))) (fun _ _ _ _ _ => pts_nil) (fun _ _ _ _ _ => (pe_tup (pa_cons (pv 10) (pa_cons (pe_ce D__law_told_of (hr.mono (by decide)) hG (pa_cons (pv 3) (pa_cons (pv 10) pa_nil)) pass0) pa_nil))))) pa_nil))))
      (pss_cons (ps_if (pt_not (pt_val (pe_ce D__law_both (hr.mono (by decide)) hG (pa_cons (pv 3) (pa_cons (pv 4) (pa_cons (pv 8) (pa_cons (pv 9) pa_nil)))) pass0))) (pss_one (ps_ret pe_bl)) pss_nil)
      (pss_cons (ps_lock (ps_for PassesOwn.never rfl (pi_keys (pv 11)) (pg_name (i := 10) sc_law.nd rfl (Or.inl rfl)) (pss_cons (ps_set (i := 12) sc_law.nd rfl (Or.inl rfl) (pe_or (pe_and (pe_cmpR op_notIn_seq (pv 8) (pe_tup (pa_cons pe_str (pa_cons pe_str pa_nil))) (by rfl)) (pe_one (pe_cmpR op_ne (pv 10) (pv 9) (nomark _)))) (pe_one (pe_cmpR op_eq (pv 8) pe_str (nomark _)))))
      (pss_one (ps_if (PW.pt (pw_and (pt_val (pv 12)) (pw_and1 (pt_cmpR op_ne (pe_ce D__law_told_of (hr.mono (by decide)) hG (pa_cons (pv 3) (pa_cons (pv 10) pa_nil)) pass0) (pe_dget hu (pv 11) (pv 10) (fun _ _ => rfl)) (nomark _))))) (pss_one (ps_ret pe_bl)) pss_nil)))))
      (pss_cons (ps_for PassesOwn.never rfl (pi_list (pe_cm0 M_Fates_running (hr.mono (by decide)) hG (pv 3) pass0)) (pg_name (i := 10) sc_law.nd rfl (Or.inl rfl)) (pss_cons (ps_if (pt_cmpR op_eq (pv 10) (pv 9) (nomark _)) (pss_one (ps_expr (pe_bm PySem.F.plainAttrs_list PySem.F.slot_list_append PySem.F.type_list_append mt_append (pv 5) (pa_cons (pe_cm M_Fates_parts (hr.mono (by decide)) hG (pv 3) (pa_cons (pv 10) pa_nil) passL) pa_nil)))) pss_nil)
      (pss_one (ps_if (pt_not (pt_val (pe_ce D__law_chain_right (hr.mono (by decide)) hG (pa_cons (pv 3) (pa_cons (pv 10) pa_nil)) pass0))) (pss_one (ps_ret pe_bl)) pss_nil))))
      (pss_cons (ps_if (pt_cmpR (op_neD hr.units) (pe_lc (own := [("_law_chain", 14)]) (by rfl) sc_law.nd (pi_list (pv 5)) (blkOk_by (own := [("_law_chain", 14)]) (N := ["_law_script", "_law_start", "_law_tape_here", "_law_fates", "_law_world_here", "_law_chains", "_law_ended", "_law_turn", "_law_word", "_law_number", "_law_one", "_law_before", "_law_is_apart", "_law_part", "_law_chain"]) (sc := defScope s_law) (by decide +kernel))
        (fun _ _ _ _ _ => (pg_name (i := 14) sc_law.nd rfl (Or.inl rfl))) (fun _ _ _ _ _ => (pts_one (pt_not (pt_val (pe_ce D__law_alive_right (hr.mono (by decide)) hG (pa_cons (pv 3) (pa_cons (pv 14) pa_nil)) pass0))))) (fun _ _ _ _ _ => (pv 14))) (pe_lst pa_nil) (nomark _)) (pss_one (ps_ret pe_bl)) pss_nil)
      (pss_cons (ps_if (pt_not (pt_val (pe_ce D__law_roots_right (hr.mono (by decide)) hG (pa_cons (pv 3) (pa_cons (pe_callB call_lenD (by rfl) B.n_len (by decide +kernel) (pa_cons (pe_dget hu (pv 4) pe_str (fun _ _ => rfl)) pa_nil)) pa_nil)) pass0))) (pss_one (ps_ret pe_bl)) pss_nil)
      (pss_cons (ps_lock (ps_for PassesOwn.never rfl (pi_keys (pv 6)) (pg_name (i := 13) sc_law.nd rfl (Or.inl rfl)) (pss_one (ps_if (pt_cmpR (op_neD hr.units) (pe_lst (pa_cons (pe_cm M_Fates_fate (hr.mono (by decide)) hG (pv 3) (pa_cons (pv 13) pa_nil) passL) (pa_cons (pe_cm M_Fates_ended_at (hr.mono (by decide)) hG (pv 3) (pa_cons (pv 13) pa_nil) passL) (pa_cons (pe_cm M_Fates_owner (hr.mono (by decide)) hG (pv 3) (pa_cons (pv 13) pa_nil) passL) pa_nil)))) (pe_op op_cat (pe_dget hu (pv 6) (pv 13) (fun _ _ => rfl)) (pe_lst (pa_cons pe_non pa_nil))) (nomark _)) (pss_one (ps_ret pe_bl)) pss_nil))))
      (pss_one (ps_lock (ps_for PassesOwn.never rfl (pi_keys (pe_dget hu (pv 4) pe_str (fun _ _ => rfl))) (pg_name (i := 13) sc_law.nd rfl (Or.inl rfl)) (pss_one (ps_if (pt_cmpR op_isN (pe_cm M_Fates_owner (hr.mono (by decide)) hG (pv 3) (pa_cons (pv 13) pa_nil) passL) pe_non (nomark _)) (pss_one (ps_dput hu (pv 6) (pv 13) (pe_lst (pa_cons (pe_cm M_Fates_fate (hr.mono (by decide)) hG (pv 3) (pa_cons (pv 13) pa_nil) passL) (pa_cons (pe_cm M_Fates_ended_at (hr.mono (by decide)) hG (pv 3) (pa_cons (pv 13) pa_nil) passL) pa_nil))) rfl)) pss_nil))))))))))))))))))
      (pss_one (ps_ret pe_bl))), ?_⟩
    have hlen : (ns.map V.int).length = ns.length := List.length_map ..
    let Sg (c1 c2 c3 c4 c5 c6 c7 c8 c9 c10 c11 c12 c13 c14 : Option V) : L2.St := [some (.ref a), c1, c2, c3, c4, c5, c6, c7, c8, c9, c10, c11, c12, c13, c14]
    refine ⟨_, rfl, _, _, rfl, .inl ha, 3, _, rfl, 1, _, rfl, _, rfl, ?_, ?_, for_range (fun i σ H' => (∃ c1 c2 c3 c4 c5 c6 c7 c8 c9 c10 c11 c12 c13 c14, σ = Sg c1 c2 c3 c4 c5 c6 c7 c8 c9 c10 c11 c12 c13 c14) ∧ FrN noneF H H' ∧ LamX.Tabs T H')
      ⟨⟨_, _, _, _, _, _, _, _, _, _, _, _, _, _, rfl⟩, (fun _ _ h _ _ => h), tabs⟩ ?_ ?_⟩
    · split <;> split <;> omega
    · split <;> split <;> omega
    · rintro i σ Hs hi ⟨⟨c1, c2, c3, c4, c5, c6, c7, c8, c9, c10, c11, c12, c13, c14, rfl⟩, f1, tb1⟩
      have hi3 : (i : Int) ≤ 3 := by
        have h2 : (i : Int) < ((if (if ((ns.map V.int).length : Int) < 3 then ((ns.map V.int).length : Int) else 3) > 1 then (if ((ns.map V.int).length : Int) < 3 then ((ns.map V.int).length : Int) else 3) else 1) : Int) := by
          have := hi
          omega
        split at h2 <;> (try split at h2) <;> omega
      refine ⟨_, rfl, _, rfl, a, ns, _, rfl, sq_frn f1 ha, hn, hb, by omega, by omega, fun t o nt ho => ?_⟩
      have st := same_new (o := o) nt
      have ht : upd Hs t o t = some o := upd_same
      have tb2 := tb1.ext st
      generalize upd Hs t o = Ht at st ht tb2 ⊢
      refine fun y dx ny nd ne => ⟨y, dx, rfl, upd_same, fun H1 F hA fr gr => ⟨rfl, rfl, fun b H2 G hB newG s2 => ?_⟩⟩
      have wk := wk_new nt st ht ho tb2 ny (same_two (o := .own y) (o' := .ins C dx []) nd ny ne) upd_same hA fr gr hB newG s2
      refine ⟨(show 0 ≤ sizeLine by decide), fun ch nch en nen => ?_⟩
      have offt : ∀ {H' : Hp} {x : Addr} {F G : Addr → Prop} {S : FS} {n : Nat}, Wk2 C CP T Hs H' t y b S F G n → H' x = none → x ≠ t := fun k nx e => by
        obtain ⟨o, h, _⟩ := k.k.tape
        rw [← e, nx] at h
        cases h
      have ch0 : NewN Hs ch := NewN.back wk.k.fr (fun z => z) (NewN.of nch)
      have tch := offt wk nch
      have chO := Outs.new (u := .lst []) wk.k.fs.on wk.k.wd.on nch lst_tbl
      have wk := wk.same (same_new (o := .lst []) nch)
      have en0 : NewN Hs en := NewN.back wk.k.fr (fun z => z) (NewN.of nen)
      have ten := offt wk nen
      have enO := Outs.new (u := .dK []) wk.k.fs.on wk.k.wd.on nen (fun _ q => by cases q)
      have wk := wk.same (same_new (o := .dK []) nen)
      have chO := chO.same (same_new (o := .dK []) nen)
      have kc : Kc Hs _ F G FS.zero t ch en [] [] 0 0 := ⟨chO, enO, tch, ten, ch0, en0, (fun _ h => by cases h), (fun _ h => by cases h), Nat.le_refl _, Nat.le_refl _⟩
      refine ⟨(show 4 ≤ sizeLine by decide), fun p np => ⟨_, _, rfl, .inl (.inl upd_same), rfl, _, _, rfl, _, _, rfl, _, _, rfl, _, _, rfl, rfl, ?_⟩⟩
      have wk := wk.same (same_new (o := .tup [V.ref y, .ref b, .ref ch, .ref en]) np)
      have kc := kc.same (same_new (o := .tup [V.ref y, .ref b, .ref ch, .ref en]) np)
      dsimp only
      refine ⟨20, rfl, by decide, by decide, for_range (n := 20) (fun j σ H' => (∃ c7 c8 c9 c10 c11 c12 c13 c14, σ = Sg (some (.int (0 + (i : Nat)))) (some (.ref t)) (some (.ref y)) (some (.ref b)) (some (.ref ch)) (some (.ref en)) c7 c8 c9 c10 c11 c12 c13 c14) ∧
        ∃ S F G ps kvs, Wk2 C CP T Hs H' t y b S F G j ∧ S.Al ∧ Kc Hs H' F G S t ch en ps kvs (8 * j) (20 * j))
        ⟨⟨_, _, _, _, _, _, _, _, rfl⟩, _, _, _, _, _, wk, al_zero, kc⟩ ?_ ?_⟩
      rotate_left
      · rintro σ H' ⟨⟨c7, c8, c9, c10, c11, c12, c13, c14, rfl⟩, S, F, G, ps, kvs, k, _, _⟩
        exact ⟨⟨_, _, _, _, _, _, _, _, _, _, _, _, _, _, rfl⟩, f1.trans (F' := noneF) (fun _ z => z.elim) k.k.fr, k.k.tabs⟩
      rintro j σ Hx hj ⟨⟨c7, c8, c9, c10, c11, c12, c13, c14, rfl⟩, S, F, G, ps, kvs, k, al, kc⟩
      obtain ⟨o1, ho1, ht1⟩ := k.k.tape
      have few := k.k.few
      have h63 : S.states.length < 63 := by
        have := few.n
        omega
      refine ⟨_, rfl, _, rfl, t, b, o1, S, G, rfl, ho1, ht1, k.k.wd, k.k.nG, k.k.inv, by omega, fun Tp H4 wd n hn nT hT' N => ?_⟩
      have k4 := k.nxt N
      have kc4 := kc.nxt N
      refine ⟨_, _, rfl, .inl (.inl hT'), rfl, _, _, rfl, _, _, rfl, rfl, ?_⟩
      have so : SvO (some n) := fun i e => by
        cases e
        exact hn
      have inv := k.k.inv
      have wf := inv.wf few (by omega)
      clear k kc N ho1 ht1 hT' nT
      dsimp only
      -- what is told before the turn
      refine Rm.seq_mid (fun σ' H' => ∃ bf c10 c13, σ' = Sg (some (.int (0 + (i : Nat)))) (some (.ref t)) (some (.ref y)) (some (.ref b)) (some (.ref ch)) (some (.ref en)) (some (.int (0 + (j : Nat)))) (some (.str wd.s)) (some (.int n)) c10 (some (.ref bf)) c12 c13 c14 ∧
        Wk2 C CP T Hs H' t y b S F G j ∧ Kc Hs H' F G S t ch en ps kvs (8 * j) (20 * j) ∧ Outs H' F G bf (.dK (tkv S S.states.length)) ∧ bf ≠ t ∧ bf ≠ ch ∧ bf ≠ en) ?_ (fun M hM => ?_)
      rotate_left
      · obtain ⟨ad, hw, hG'⟩ := id k4.k.wd
        have hrn := hw.ex .runs trivial
        have nb : b ≠ ad .runs := (hw.obne (r := .runs) trivial (by simp)).symm
        have bG : G (ad .runs) := (hG' _).mpr ⟨.runs, trivial, rfl⟩
        refine ⟨ad .runs, .dK (kr (fun i => ad (.run i)) S.states.length), hrn, True.intro, fun od => ?_⟩
        have hobL := (upd_ne (o := .frz od (.dK (kr (fun i => ad (.run i)) S.states.length))) nb).trans hw.ob
        have hfz := upd_same (H := H4) (a := ad .runs) (o := .frz od (.dK (kr (fun i => ad (.run i)) S.states.length)))
        have hAL : FsA C CP [] (upd H4 (ad .runs) (.frz od (.dK (kr (fun i => ad (.run i)) S.states.length)))) y S F := k4.k.fs.frame (G := (· = ad .runs)) (fun x u hx ne => (upd_ne ne).trans hx) fun x hx e => k4.k.dj x hx (by rw [e]; exact bG)
        have back : ∀ H5, Same (upd H4 (ad .runs) (.frz od (.dK (kr (fun i => ad (.run i)) S.states.length)))) H5 → Same H4 (upd H5 (ad .runs) (.dK (kr (fun i => ad (.run i)) S.states.length))) := fun H5 s5 => unlock_same (.refl H4) hrn s5
        have nL : ∀ D, upd H4 (ad .runs) (.frz od (.dK (kr (fun i => ad (.run i)) S.states.length))) D = none → H4 D = none ∧ D ≠ ad .runs := fun D e => by
          by_cases q : D = ad .runs
          · rw [q, upd_same] at e
            cases e
          · rw [upd_ne q] at e
            exact ⟨e, q⟩
        generalize upd H4 (ad .runs) (.frz od (.dK (kr (fun i => ad (.run i)) S.states.length))) = HL at hobL hfz hAL back nL ⊢
        refine ⟨_, rfl, _, _, rfl, or_of hobL, ad .runs, od, rfl, .inl ⟨_, hfz, fun D nD => lc_keys (fun m H' => Same HL H' ∧ ∃ qs : List Addr, H' D = some (.lst (qs.map V.ref)) ∧ qs.length = m ∧ Told1 H' S qs) ⟨same_new nD, [], upd_same, rfl, (fun i q e => by cases e)⟩ (fun m H' _ e => e.1 _ _ hfz) ?_ ?_⟩⟩
        · rintro m kk v H5 hk ⟨s5, qs, hD, lq, pq⟩
          obtain ⟨hm, rfl⟩ := kr_get hk
          refine ⟨rfl, _, rfl, _, rfl, _, rfl, y, m, S, F, rfl, hAL.same s5, inv, few.mono (by omega), hm, fun H6 s6 => ⟨(show 2 ≤ sizeLine by decide), fun z nz => ?_⟩⟩
          have s7 := s6.trans (same_new (o := .tup [V.int ((m : Int) + 1), .str (toldZ S m)]) nz)
          have hz := upd_same (H := H6) (a := z) (o := .tup [V.int ((m : Int) + 1), .str (toldZ S m)])
          have pz : Told1 (upd H6 z (.tup [V.int ((m : Int) + 1), .str (toldZ S m)])) S (qs ++ [z]) := (pq.same s7).snoc (by rw [lq]; exact hz)
          refine ⟨_, s7 _ _ hD, ?_, same_tape nD (s5.trans s7), qs ++ [z], ?_, ?_, pz.put (s7 _ _ hD)⟩
          · rw [List.length_map, lq]
            exact sz1000 (by omega)
          · rw [upd_same, List.map_append]
            rfl
          · rw [List.length_append, lq]
            rfl
        · rintro H5 ⟨s5, qs, hD, lq, pq⟩
          obtain ⟨nD4, nDr⟩ := nL D nD
          rw [kr_len] at lq
          refine ⟨D, qs, tkv S S.states.length, rfl, .inl (.inl hD), (by rw [← lq]; exact pq.paired), fun bf nbf => ?_⟩
          rw [tkv_merge]
          have n5 := none_of s5 nbf
          obtain ⟨n4, nr⟩ := nL bf n5
          have sA := back _ (s5.trans (same_new (o := .dK (tkv S S.states.length)) nbf))
          have kA := k4.same sA
          refine ⟨(same_new (o := .dK (tkv S S.states.length)) nbf) _ _ (s5 _ _ hfz), hM _ _ ⟨bf, _, _, rfl, kA, kc4.same sA, ?_, offt k4 n4, fun e => ?_, fun e => ?_⟩⟩
          · refine ⟨(upd_ne nr).trans upd_same, (fun _ q => by cases q), fun z => ?_, fun z => ?_⟩
            · obtain ⟨u, hu'⟩ := k4.k.fs.on bf z
              rw [n4] at hu'
              cases hu'
            · obtain ⟨u, hu'⟩ := k4.k.wd.on bf z
              rw [n4] at hu'
              cases hu'
          · have := kc4.och.at_
            rw [← e, n4] at this
            cases this
          · have := kc4.oen.at_
            rw [← e, n4] at this
            cases this
      rintro _ H5 ⟨bf, c10, c13', rfl, k5, kc5, obf, tbf, cbf, ebf⟩
      clear k4 kc4
      -- the turn itself
      refine ⟨_, rfl, _, rfl, _, rfl, _, rfl, y, b, wd, some n, S, F, G, rfl, k5.k.fs, k5.k.wd, k5.k.dj, so, inv, few.mono (by omega), k5.k.cap, h63, k5.k.tabs, fun H6 S6 F6 G6 hop hA6 hB6 dj6 fr6 gr6 tb6 => ⟨true, rfl, ?_⟩⟩
      have hT : Turn1 S S6 wd (some n) := hop.imp And.right fun h => h
      have k6 := k5.both (hop.imp And.right fun ⟨i, _, c, e⟩ => ⟨wd, i, c, e⟩) hA6 hB6 dj6 fr6 gr6 tb6
      have kc6 := kc5.both hT inv k5.tr al fr6 gr6
      have obf6 := obf.both fr6 gr6
      have al6 := hT.al0 inv k5.tr al
      clear kc5 obf k5
      have inv6 := k6.k.inv
      have few6 := k6.k.few
      have wf6 := inv6.wf few6 (by omega)
      have tr6 := k6.tr
      dsimp only
      rw [if_neg (by decide)]
      unfold tNext
      dsimp only
      -- the others tell the same
      refine Rm.seq_mid (fun σ' H' => (∃ c10 c12, σ' = Sg (some (.int (0 + (i : Nat)))) (some (.ref t)) (some (.ref y)) (some (.ref b)) (some (.ref ch)) (some (.ref en)) (some (.int (0 + (j : Nat)))) (some (.str wd.s)) (some (.int n)) c10 (some (.ref bf)) c12 c13' c14) ∧ Same H6 H') ?_ (fun M hM => ?_)
      rotate_left
      · have hAL : ∀ od, FsA C CP [] (upd H6 bf (.frz od (.dK (tkv S S.states.length)))) y S6 F6 := fun od => k6.k.fs.frame (G := (· = bf)) (fun x u hx ne => (upd_ne ne).trans hx) fun x hx e => obf6.nF (by rw [← e]; exact hx)
        refine ⟨bf, .dK (tkv S S.states.length), obf6.at_, True.intro, fun od => ?_⟩
        have hAL := hAL od
        have hfz := upd_same (H := H6) (a := bf) (o := .frz od (.dK (tkv S S.states.length)))
        have back : ∀ H', Same (upd H6 bf (.frz od (.dK (tkv S S.states.length)))) H' → Same H6 (upd H' bf (.dK (tkv S S.states.length))) := fun H' s' => unlock_same (.refl H6) obf6.at_ s'
        generalize upd H6 bf (.frz od (.dK (tkv S S.states.length))) = HL at hAL hfz back ⊢
        refine ⟨_, rfl, bf, od, rfl, .inl ⟨_, hfz, Rm.for_keys (fun m σ H' => (∃ c10 c12, σ = Sg (some (.int (0 + (i : Nat)))) (some (.ref t)) (some (.ref y)) (some (.ref b)) (some (.ref ch)) (some (.ref en)) (some (.int (0 + (j : Nat)))) (some (.str wd.s)) (some (.int n)) c10 (some (.ref bf)) c12 c13' c14) ∧ Same HL H') ⟨⟨_, _, rfl⟩, .refl _⟩ (fun m σ H' _ e => e.2 _ _ hfz) ?_ ?_⟩⟩
        rotate_left
        · rintro σ H' ⟨hσ, s'⟩
          exact ⟨s' _ _ hfz, hM _ _ ⟨hσ, back _ s'⟩⟩
        rintro m kk v σ H7 hk ⟨⟨c10, c12, rfl⟩, s7⟩
        obtain ⟨hm, rfl⟩ := tkv_get hk
        dsimp only
        refine Rm.seq_mid (fun σ' H' => ∃ v : Bool, σ' = Sg (some (.int (0 + (i : Nat)))) (some (.ref t)) (some (.ref y)) (some (.ref b)) (some (.ref ch)) (some (.ref en)) (some (.int (0 + (j : Nat)))) (some (.str wd.s)) (some (.int n)) (some (.int ((m : Int) + 1))) (some (.ref bf)) (some (.bl v)) c13' c14 ∧ Same HL H' ∧
          (v = true → wd ≠ .crash ∧ (wd ≠ .begin → (n : Int) ≠ (m : Int) + 1))) ?_ (fun N hN => ?_)
        · rintro _ H8 ⟨v, rfl, s8, hv⟩
          refine ⟨_, rfl, _, rfl, ite2 (fun ev => ?_) fun _ => ⟨⟨_, _, rfl⟩, s8⟩⟩
          obtain ⟨nc, nb⟩ := hv ev
          have ea := hT.apart inv hm nc fun h e => nb h (Option.some.inj e)
          refine ⟨_, rfl, _, rfl, y, m, S6, F6, rfl, hAL.same s8, inv6, few6.mono (by omega), Nat.lt_of_lt_of_le hm hT.ge, fun H9 s9 => ?_⟩
          rw [ea]
          refine ⟨_, rfl, _, rfl, _, _, rfl, .inl ⟨_, .inl ((m : Int) + 1), .inr ⟨od, s9 _ _ (s8 _ _ hfz)⟩, rfl, (tkv_at hm).symm⟩, rfl, _, rfl, ite2 (fun c => ?_) fun _ => ⟨⟨_, _, rfl⟩, s8.trans s9⟩⟩
          simp at c
        · have isB : ∀ {w' : Wd}, V.str wd.s = V.str w'.s → wd = w' := fun e => Wd.inj (V.str.inj e)
          have iv : inV (V.str wd.s) [V.str "crash", V.str "begin"] = decide (wd = .crash ∨ wd = .begin) := by
            cases wd <;> decide +kernel
          refine ⟨_, rfl, (show 2 ≤ sizeLine by decide), fun p2 np2 => ⟨p2, _, rfl, .inr (.inl (.inl upd_same)), rfl, rfl, ?_⟩⟩
          have s8 := s7.trans (same_new (o := .tup [V.str "crash", .str "begin"]) np2)
          rw [iv]
          generalize upd H7 p2 (.tup [V.str "crash", .str "begin"]) = H8 at s8 ⊢
          refine ⟨_, rfl, ite2 (fun c1 => ?_) fun c1 => ?_⟩
          · have hn' : ¬ (wd = .crash ∨ wd = .begin) := by simpa using c1
            refine ⟨_, rfl, _, rfl, rfl, _, rfl, ite2 (fun c2 => ?_) fun c2 => ?_⟩
            · refine hN _ _ ⟨true, rfl, s8, fun _ => ⟨fun e => hn' (.inl e), fun _ e => ?_⟩⟩
              rw [e] at c2
              simp [kV] at c2
            · exact ⟨_, rfl, rfl, hN _ _ ⟨_, rfl, s8, fun e => absurd (.inr (isB (w' := .begin) (of_decide_eq_true e))) hn'⟩⟩
          · refine ⟨_, rfl, ite2 (fun c => by cases c) fun _ => ?_⟩
            exact ⟨_, rfl, rfl, hN _ _ ⟨_, rfl, s8, fun e => ⟨fun e2 => (by
              have := isB (w' := .begin) (of_decide_eq_true e)
              rw [this] at e2
              cases e2), fun nb => absurd (isB (w' := .begin) (of_decide_eq_true e)) nb⟩⟩⟩
      rintro _ H7 ⟨⟨c10, c12', rfl⟩, s7⟩
      have k7 := k6.same s7
      have kc7 := kc6.same s7
      clear k6 kc6 obf6
      -- the running ones
      have few63 : S6.states.length < 64 := by
        have := few6.n
        omega
      refine Rm.seq_mid (fun σ' H' => (∃ c10, σ' = Sg (some (.int (0 + (i : Nat)))) (some (.ref t)) (some (.ref y)) (some (.ref b)) (some (.ref ch)) (some (.ref en)) (some (.int (0 + (j : Nat)))) (some (.str wd.s)) (some (.int n)) c10 (some (.ref bf)) c12' c13' c14) ∧
        ∃ ps', Wk2 C CP T Hs H' t y b S6 F6 G6 (j + 1) ∧ Kc Hs H' F6 G6 S6 t ch en ps' kvs (8 * (j + 1)) (20 * j)) ?_ (fun M hM => ?_)
      rotate_left
      · obtain ⟨ad, hf, hF⟩ := id k7.k.fs
        obtain ⟨dx7, lk⟩ := hf.look
        refine ⟨_, rfl, y, dx7, _, rfl, lk.o, mo_nil.free (by decide +kernel), y, S6, F6, rfl, k7.k.fs, fun p np => ?_⟩
        have k8 := k7.same (same_new (o := .lst (S6.work.map V.int)) np)
        have kc8 := kc7.same (same_new (o := .lst (S6.work.map V.int)) np)
        have hp8 := upd_same (H := H7) (a := p) (o := .lst (S6.work.map V.int))
        have pch : p ≠ ch := fun e => by
          have := kc7.och.at_
          rw [← e, np] at this
          cases this
        clear k7 kc7
        generalize upd H7 p (.lst (S6.work.map V.int)) = H8 at k8 kc8 hp8 ⊢
        refine ⟨p, rfl, ⟨_, .inl (.inl hp8)⟩, for_list (xs := S6.work.map V.int) (fun m σ H' => (∃ c10, σ = Sg (some (.int (0 + (i : Nat)))) (some (.ref t)) (some (.ref y)) (some (.ref b)) (some (.ref ch)) (some (.ref en)) (some (.int (0 + (j : Nat)))) (some (.str wd.s)) (some (.int n)) c10 (some (.ref bf)) c12' c13' c14) ∧
          ∃ ps', Wk2 C CP T Hs H' t y b S6 F6 G6 (j + 1) ∧ Kc Hs H' F6 G6 S6 t ch en ps' kvs (8 * j + m) (20 * j) ∧ H' p = some (.lst (S6.work.map V.int)))
          ⟨⟨_, rfl⟩, ps, k8, kc8, hp8⟩ (fun m σ H' _ e => .inl (.inl (let ⟨_, _, _, _, h⟩ := e; h))) ?_ ?_⟩
        · rintro m x σ H9 hx ⟨⟨c10, rfl⟩, ps', k9, kc9, hp9⟩
          have hm : m < S6.work.length := by
            have := (List.getElem?_eq_some_iff.mp hx).1
            rwa [List.length_map] at this
          obtain ⟨i', rfl, hi'⟩ : ∃ i' : Nat, x = .int ((i' : Int) + 1) ∧ i' < S6.states.length := by
            rw [List.getElem?_map, List.getElem?_eq_getElem hm] at hx
            obtain ⟨i', e, h, _⟩ := aliveL_mem.mp (by rw [← inv6.ws]; exact List.getElem_mem hm)
            refine ⟨i', ?_, h⟩
            rw [← e]
            exact (Option.some.inj hx).symm
          dsimp only
          refine Rm.seq_mid (fun σ' H' => σ' = Sg (some (.int (0 + (i : Nat)))) (some (.ref t)) (some (.ref y)) (some (.ref b)) (some (.ref ch)) (some (.ref en)) (some (.int (0 + (j : Nat)))) (some (.str wd.s)) (some (.int n)) (some (.int ((i' : Int) + 1))) (some (.ref bf)) c12' c13' c14 ∧
            ∃ ps', Wk2 C CP T Hs H' t y b S6 F6 G6 (j + 1) ∧ Kc Hs H' F6 G6 S6 t ch en ps' kvs (8 * j + (m + 1)) (20 * j) ∧ H' p = some (.lst (S6.work.map V.int))) ?_ (fun N hN => ?_)
          · rintro _ Ha ⟨rfl, ps2, ka, kca, hpa⟩
            refine ⟨_, rfl, _, rfl, y, i', S6, F6, rfl, ka.k.fs, inv6, few6.mono (by omega), tr6, al6, hi', fun Hb sb => ⟨true, rfl, ?_⟩⟩
            exact ⟨⟨_, rfl⟩, ps2, ka.same sb, kca.same sb, sb _ _ hpa⟩
          · refine ⟨_, rfl, _, rfl, rfl, _, rfl, ite2 (fun _ => ?_) fun _ => hN _ _ ⟨rfl, ps', k9, kc9.mono (by omega) (Nat.le_refl _), hp9⟩⟩
            obtain ⟨ad9, hf9, _⟩ := id k9.k.fs
            obtain ⟨dx9, lk9⟩ := hf9.look
            refine ⟨_, rfl, .inl ⟨rfl, _, .inl (.inl kc9.och.at_)⟩, _, rfl, y, dx9, _, rfl, lk9.o, mo_nil.free (by decide +kernel), _, rfl, ?_⟩
            dsimp only [tNil]
            refine askN (p := qPt) k9.k.fs wf6 hi' fun Ha sa q nq => ?_
            have ka := k9.same sa
            have kca := kc9.same sa
            have oq := Outs.new (u := .lst ((S6.stacks.getD i' []).map V.int)) ka.k.fs.on ka.k.wd.on nq lst_tbl
            have qt := offt ka nq
            have qch : q ≠ ch := fun e => by
              have := kca.och.at_
              rw [← e, nq] at this
              cases this
            have sb := same_new (o := .lst ((S6.stacks.getD i' []).map V.int)) nq
            have kb := ka.same sb
            have kcb := kca.same sb
            have hpb := sb _ _ (sa _ _ hp9)
            generalize upd Ha q (.lst ((S6.stacks.getD i' []).map V.int)) = Hb at oq kb kcb hpb ⊢
            refine ⟨ch, _, _, rfl, rfl, kcb.och.at_, ?_, ?_⟩
            · rw [List.length_map]
              have := kcb.lp
              have := k9.k.cap.w
              exact sz1000 (by omega)
            have kcc := kcb.app qt qch oq (ch_new inv6 tr6 i') (Nat.le_trans (few_getD few6) (by omega))
            have kc' := kb.put (D := ch) (o := .lst (ps'.map V.ref ++ [.ref q])) kcb.och.nF kcb.och.nG kcb.tc kcb.sc kcb.och.at_ ⟨lst_tbl, fun _ q => by cases q⟩
            exact hN _ _ ⟨rfl, ps' ++ [q], kc', kcc.mono (by omega) (Nat.le_refl _), (upd_ne pch).trans hpb⟩
        · rintro σ H' ⟨hσ, ps', k9, kc9, _⟩
          have := k9.k.cap.w
          rw [List.length_map] at kc9
          exact hM _ _ ⟨hσ, ps', k9, kc9.mono (by omega) (Nat.le_refl _)⟩
      rintro _ H8 ⟨⟨c10', rfl⟩, ps', k8, kc8⟩
      clear k7 kc7
      -- what became of the chains
      refine ⟨_, rfl, ch, rfl, ⟨_, .inl (.inl kc8.och.at_)⟩, fun D nD => lc_list (xs := ps'.map V.ref) (fun m H' => Same H8 H' ∧ H' D = some (.lst [])) ⟨same_new nD, upd_same⟩ (fun m H' _ e => .inl (.inl (e.1 _ _ kc8.och.at_))) ?_ ?_⟩
      · rintro m x H9 hx ⟨s9, hD⟩
        obtain ⟨p, hp, rfl⟩ := List.mem_map.mp (List.mem_of_getElem? hx)
        obtain ⟨_, _, c, oc, ce, lc⟩ := kc8.np p hp
        refine ⟨rfl, _, rfl, _, rfl, y, p, c, S6, F6, rfl, k8.k.fs.same s9, s9 _ _ oc.at_, inv6, few6.mono (by omega), tr6, al6, ce, lc, fun Ha sa => ⟨true, rfl, ?_⟩⟩
        exact ⟨s9.trans sa, sa _ _ hD⟩
      rintro H9 ⟨s9, hD⟩
      refine ⟨(show 0 ≤ sizeLine by decide), fun e1 n1 => ⟨.list [], .list [], .lst (.inl (.inl (same_new n1 _ _ hD))) .nil, .lst (.inl (.inl upd_same)) .nil, shaped_ints [], shaped_ints [], _, rfl, ite2 (fun c => ?_) fun _ => ?_⟩⟩
      · rw [show PyData.eqv (.list []) (.list []) = true by decide +kernel] at c
        cases c
      have s10 := s9.trans (same_new (o := .lst []) n1)
      have ka := k8.same s10
      have kca := kc8.same s10
      clear k8 kc8
      generalize upd H9 e1 (.lst []) = Ha at ka kca ⊢
      obtain ⟨ad, hw, hG'⟩ := id ka.k.wd
      -- the roots
      refine ⟨_, rfl, _, rfl, _, _, rfl, hw.gp, _, _, rfl, hw.ex .parts trivial, y, S6, F6, (by rw [kr_len]; rfl), ka.k.fs, inv6, few6.mono (by omega), tr6, al6, fun Hb sb => ⟨true, rfl, ?_⟩⟩
      have kb := ka.same sb
      have kcb := kca.same sb
      have hwb := hw.same sb
      clear ka kca hw
      dsimp only
      rw [if_neg (by decide)]
      (try unfold tNext)
      (try dsimp only)
      have wf20 : S6.parts.length ≤ 20 := by
        have := few6.p
        omega
      -- what is over stays so
      refine Rm.seq_mid (fun σ' H' => (∃ c13, σ' = Sg (some (.int (0 + (i : Nat)))) (some (.ref t)) (some (.ref y)) (some (.ref b)) (some (.ref ch)) (some (.ref en)) (some (.int (0 + (j : Nat)))) (some (.str wd.s)) (some (.int n)) c10' (some (.ref bf)) c12' c13 c14) ∧ Same Hb H') ?_ (fun M hM => ?_)
      rotate_left
      · have hAL : ∀ od, FsA C CP [] (upd Hb en (.frz od (.dK kvs))) y S6 F6 := fun od => kb.k.fs.frame (G := (· = en)) (fun x u hx ne => (upd_ne ne).trans hx) fun x hx e => kcb.oen.nF (by rw [← e]; exact hx)
        have hPL : ∀ od p xs, Hb p = some (.lst xs) → upd Hb en (.frz od (.dK kvs)) p = some (.lst xs) := fun od p xs h => (upd_ne fun e => by
          rw [e, kcb.oen.at_] at h
          cases h).trans h
        refine ⟨en, .dK kvs, kcb.oen.at_, True.intro, fun od => ?_⟩
        have hAL := hAL od
        have hPL := hPL od
        have hfz := upd_same (H := Hb) (a := en) (o := .frz od (.dK kvs))
        have back : ∀ H', Same (upd Hb en (.frz od (.dK kvs))) H' → Same Hb (upd H' en (.dK kvs)) := fun H' s' => unlock_same (.refl Hb) kcb.oen.at_ s'
        generalize upd Hb en (.frz od (.dK kvs)) = HL at hAL hPL hfz back ⊢
        obtain ⟨adL, hfL, _⟩ := id hAL
        obtain ⟨dxL, lkL⟩ := hfL.look
        have lk0 := lkL.o
        refine ⟨_, rfl, en, od, rfl, .inl ⟨_, hfz, Rm.for_keys (fun m σ H' => (∃ c13, σ = Sg (some (.int (0 + (i : Nat)))) (some (.ref t)) (some (.ref y)) (some (.ref b)) (some (.ref ch)) (some (.ref en)) (some (.int (0 + (j : Nat)))) (some (.str wd.s)) (some (.int n)) c10' (some (.ref bf)) c12' c13 c14) ∧ Same HL H') ⟨⟨_, rfl⟩, .refl _⟩ (fun m σ H' _ e => e.2 _ _ hfz) ?_ ?_⟩⟩
        rotate_left
        · rintro σ H' ⟨hσ, s'⟩
          exact ⟨s' _ _ hfz, hM _ _ ⟨hσ, back _ s'⟩⟩
        rintro m kk v σ Hc hk ⟨⟨c13, rfl⟩, sc⟩
        have hk' := List.mem_of_getElem? hk
        obtain ⟨q, p0, f0, e0, eq0, _⟩ := kcb.nk _ hk'
        cases eq0
        obtain ⟨v', hv', hm'⟩ := valV_mem hk'
        obtain ⟨q', p, f, e, eq1, _, _, op, g⟩ := kcb.nk _ hm'
        cases eq1
        obtain ⟨q1, q2⟩ := g.rng
        have zf : PyData.strOk f = true := by
          rw [← g.fa]
          exact out_z kb.bn tr6 q1 q2
        refine ⟨_, rfl, y, dxL, _, rfl, sc _ _ lk0, mo_nil.free (by decide +kernel), _, rfl, ?_⟩
        dsimp only [tNil]
        refine askP (g := gFa) (hAL.same sc) wf6 tr6 q1 q2 fun Hd sd => ?_
        have td := sc.trans sd
        refine ⟨_, rfl, y, dxL, _, rfl, td _ _ lk0, mo_nil.free (by decide +kernel), _, rfl, ?_⟩
        dsimp only [tNil]
        refine askP (g := gEn) (hAL.same td) wf6 tr6 q1 q2 fun He se => ?_
        have te := td.trans se
        refine ⟨_, rfl, y, dxL, _, rfl, te _ _ lk0, mo_nil.free (by decide +kernel), _, rfl, ?_⟩
        dsimp only [tNil]
        refine askP (g := gOw) (hAL.same te) wf6 tr6 q1 q2 fun Hf sf => ?_
        rw [gone_fa g, gone_en g, gone_ow g]
        have tf := te.trans sf
        refine ⟨(show 3 ≤ sizeLine by decide), fun p1 n1 => ?_⟩
        have sg := same_new (o := .lst [V.str f, oI e, .non]) n1
        have h1 := upd_same (H := Hf) (a := p1) (o := .lst [V.str f, oI e, .non])
        generalize upd Hf p1 (.lst [V.str f, oI e, .non]) = Hg at sg h1 ⊢
        have tg := tf.trans sg
        refine ⟨_, rfl, _, rfl, _, _, rfl, .inl ⟨_, .inl q, .inr ⟨od, tg _ _ hfz⟩, rfl, hv'.symm⟩, (show 1 ≤ sizeLine by decide), fun p2 n2 => ?_⟩
        have sh := same_new (o := .lst [V.non]) n2
        have h2 := upd_same (H := Hg) (a := p2) (o := .lst [V.non])
        generalize upd Hg p2 (.lst [V.non]) = Hh at sh h2 ⊢
        have th := tg.trans sh
        refine ⟨p, p2, _, _, rfl, rfl, th _ _ (hPL _ _ op.at_), h2, (show 3 ≤ sizeLine by decide), fun p3 n3 => ?_⟩
        have si := same_new (o := .lst ([V.str f, oI e] ++ [V.non])) n3
        have h3 : upd Hh p3 (.lst ([V.str f, oI e] ++ [V.non])) p3 = some (.lst [V.str f, oI e, .non]) := upd_same
        have h4 := si _ _ (sh _ _ h1)
        generalize upd Hh p3 (.lst ([V.str f, oI e] ++ [V.non])) = Hi at si h3 h4 ⊢
        refine ⟨_, _, dp_three h4, dp_three h3, shaped_three zf e, shaped_three zf e, _, rfl, ite2 (fun c => ?_) fun _ => ?_⟩
        · rw [eqv_three] at c
          cases c
        · exact ⟨⟨_, rfl⟩, th.trans si⟩
      rintro _ Hc ⟨⟨c13, rfl⟩, sc⟩
      have kd := kb.same sc
      have kcd := kcb.same sc
      have hwd := hwb.same sc
      clear kb kcb hwb
      -- what is over is kept
      have hpts := hwd.ex .parts trivial
      have pG : G6 (ad .parts) := (hG' _).mpr ⟨.parts, trivial, rfl⟩
      have nb : b ≠ ad .parts := (hwd.obne (r := .parts) trivial (by simp)).symm
      have nen : ad .parts ≠ en := fun e => kcd.oen.nG (by rw [← e]; exact pG)
      refine ⟨ad .parts, .dK (kr (fun i => ad (.part i)) S6.parts.length), hpts, True.intro, fun od => ?_⟩
      have hAL : FsA C CP [] (upd Hc (ad .parts) (.frz od (.dK (kr (fun i => ad (.part i)) S6.parts.length)))) y S6 F6 := kd.k.fs.frame (G := (· = ad .parts)) (fun x u hx ne => (upd_ne ne).trans hx) fun x hx e => kd.k.dj x hx (by rw [e]; exact pG)
      have hobL := (upd_ne (o := .frz od (.dK (kr (fun i => ad (.part i)) S6.parts.length))) nb).trans hwd.ob
      have hfz := upd_same (H := Hc) (a := ad .parts) (o := .frz od (.dK (kr (fun i => ad (.part i)) S6.parts.length)))
      have keepL : ∀ x u, Hc x = some u → x ≠ ad .parts → upd Hc (ad .parts) (.frz od (.dK (kr (fun i => ad (.part i)) S6.parts.length))) x = some u := fun x u h ne => (upd_ne ne).trans h
      generalize upd Hc (ad .parts) (.frz od (.dK (kr (fun i => ad (.part i)) S6.parts.length))) = HL at hAL hobL hfz keepL ⊢
      have onG : ∀ z, G6 z → ∃ u, HL z = some u := fun z hz => by
        by_cases e : z = ad .parts
        · exact ⟨_, by rw [e]; exact hfz⟩
        · obtain ⟨u, hu'⟩ := kd.k.wd.on z hz
          exact ⟨u, keepL z u hu' e⟩
      have tL : ∃ o, HL t = some o := by
        obtain ⟨o, h, _⟩ := kd.k.tape
        exact ⟨o, keepL t o h fun e => kd.k.nG (by rw [e]; exact pG)⟩
      have kcL : Kc Hs HL F6 G6 S6 t ch en ps' kvs (8 * (j + 1)) (20 * j) := kcd.move (fun x u _ h => ⟨keepL x u h.at_ fun e => h.nG (by rw [e]; exact pG), h.nt, h.nF, h.nG⟩) (fun _ h => h) fun _ _ _ h => h
      refine ⟨_, rfl, _, _, rfl, op_of hobL, ad .parts, od, rfl, .inl ⟨_, hfz, Rm.for_keys (fun m σ H' => (∃ c13, σ = Sg (some (.int (0 + (i : Nat)))) (some (.ref t)) (some (.ref y)) (some (.ref b)) (some (.ref ch)) (some (.ref en)) (some (.int (0 + (j : Nat)))) (some (.str wd.s)) (some (.int n)) c10' (some (.ref bf)) c12' c13 c14) ∧
        Fr (· = en) HL H' ∧ ∃ kvs', Kc Hs H' F6 G6 S6 t ch en ps' kvs' (8 * (j + 1)) (20 * j + m)) ⟨⟨_, rfl⟩, (fun _ _ h _ => h), kvs, kcL⟩ (fun m σ H' _ e => e.2.1 _ _ hfz nen) ?_ ?_⟩⟩
      · rintro m kk v σ Hd hk ⟨⟨c13, rfl⟩, fr', kvs', kc⟩
        obtain ⟨hm, rfl⟩ := kr_get hk
        have hA := hAL.frame fr' fun x hx e => kc.oen.nF (by rw [← e]; exact hx)
        obtain ⟨adD, hfD, _⟩ := id hA
        obtain ⟨dxD, lkD⟩ := hfD.look
        have lk0 := lkD.o
        have q1 : 1 ≤ (m : Int) + 1 := by omega
        have q2 : (m : Int) + 1 ≤ (S6.parts.length : Int) := by omega
        refine ⟨_, rfl, y, dxD, _, rfl, lk0, mo_nil.free (by decide +kernel), _, rfl, ?_⟩
        dsimp only [tNil]
        refine askP (g := gOw) hA wf6 tr6 q1 q2 fun He se => ⟨rfl, _, rfl, ite2 (fun c => ?_) fun _ => ?_⟩
        · have g := gone_of q1 q2 (of_decide_eq_true c)
          refine ⟨_, rfl, y, dxD, _, rfl, se _ _ lk0, mo_nil.free (by decide +kernel), _, rfl, ?_⟩
          dsimp only [tNil]
          refine askP (g := gFa) (hA.same se) wf6 tr6 q1 q2 fun Hf sf => ?_
          have tf := se.trans sf
          refine ⟨_, rfl, y, dxD, _, rfl, tf _ _ lk0, mo_nil.free (by decide +kernel), _, rfl, ?_⟩
          dsimp only [tNil]
          refine askP (g := gEn) (hA.same tf) wf6 tr6 q1 q2 fun Hg sg => ?_
          rw [gone_fa g, gone_en g]
          have tg := tf.trans sg
          have kcg := kc.same tg
          have frg : Fr (· = en) HL Hg := fun x u h ne => tg _ _ (fr' x u h ne)
          refine ⟨(show 2 ≤ sizeLine by decide), fun p np => ?_⟩
          have on2 : ∀ z, G6 z → ∃ u, Hg z = some u := fun z hz => by
            obtain ⟨u, hu'⟩ := onG z hz
            exact ⟨u, frg z u hu' fun e => kcg.oen.nG (by rw [← e]; exact hz)⟩
          have op := Outs.new (u := .lst [V.str (S6.out (S6.root ((m : Int) + 1))), oI ((S6.at (S6.root ((m : Int) + 1))).bind PI.ended)]) (hA.same tg).on on2 np lst_tbl
          have pt : p ≠ t := fun e => by
            obtain ⟨o, h⟩ := tL
            have := frg t o h (Ne.symm kcg.te)
            rw [← e, np] at this
            cases this
          have pch : p ≠ ch := fun e => by
            have := kcg.och.at_
            rw [← e, np] at this
            cases this
          have sn := same_new (o := .lst [V.str (S6.out (S6.root ((m : Int) + 1))), oI ((S6.at (S6.root ((m : Int) + 1))).bind PI.ended)]) np
          have kcp := kcg.same sn
          have frp : Fr (· = en) HL (upd Hg p (.lst [V.str (S6.out (S6.root ((m : Int) + 1))), oI ((S6.at (S6.root ((m : Int) + 1))).bind PI.ended)])) := fun x u h ne => sn _ _ (frg x u h ne)
          generalize upd Hg p (.lst [V.str (S6.out (S6.root ((m : Int) + 1))), oI ((S6.at (S6.root ((m : Int) + 1))).bind PI.ended)]) = Hp at op kcp frp ⊢
          refine ⟨_, rfl, _, rfl, en, _, rfl, DPut.k (k := .inl ((m : Int) + 1)) kcp.oen.at_ (by have := kcp.lk; exact sz1000 (by omega)), ⟨_, rfl⟩, fun x u h ne => (upd_ne ne).trans (frp x u h ne), _, (kcp.put pt pch op g).mono (Nat.le_refl _) (by omega)⟩
        · exact ⟨⟨_, rfl⟩, (fun x u h ne => se _ _ (fr' x u h ne)), kvs', (kc.same se).mono (Nat.le_refl _) (by omega)⟩
      · rintro σ Hd ⟨⟨c13, rfl⟩, fr', kvs', kc⟩
        rw [kr_len] at kc
        have frF : Fr (· = en) Hc (upd Hd (ad .parts) (.dK (kr (fun i => ad (.part i)) S6.parts.length))) := fun x u h ne => by
          by_cases e : x = ad .parts
          · subst e
            exact upd_same.trans (hpts.symm.trans h)
          · exact (upd_ne e).trans (fr' x u (keepL x u h e) ne)
        refine ⟨fr' _ _ hfz nen, ⟨_, _, _, _, _, _, _, _, rfl⟩, S6, F6, G6, ps', kvs', kd.frm frF kcd.oen.nF kcd.oen.nG kcd.te kcd.se kcd.oen.at_ ⟨(fun _ q => by cases q), fun _ q => by cases q⟩, al6, ?_⟩
        exact (kc.move (fun x u _ h => ⟨(upd_ne fun e => h.nG (by rw [e]; exact pG)).trans h.at_, h.nt, h.nF, h.nG⟩) (fun _ h => h) fun _ _ _ h => h).mono (Nat.le_refl _) (by omega)
    · rintro σ H' _
      exact q _
end
end K08

set_option maxRecDepth 100000
set_option maxHeartbeats 4000000
namespace K08
open PySem PySem.Spec L2 Rm
open PyProof.Rows hiding St
/-! ### what the top has written -/
theorem all_mk {P : Program} {w : World} {K : PySem.W.Frag} {h : Heap} {mg : Str → Option Value} {fa C_MarkError C_Fates C_Part cb0 Pt0 C_UnknownTransaction C_Ended C_Prepared C_FirstPart C_StillOpen C_TooMany C_UnknownPart : Addr} (X : K.In h) (G : h.Ns mainGlobals mg) (hfa : mg "law" = some (.ref fa))
    (E_UnknownTransaction : EF P w K mg C_UnknownTransaction C_MarkError "UnknownTransaction" "value")
    (E_Ended : EF P w K mg C_Ended C_MarkError "Ended" "number")
    (E_Prepared : EF P w K mg C_Prepared C_MarkError "Prepared" "number")
    (E_FirstPart : EF P w K mg C_FirstPart C_MarkError "FirstPart" "number")
    (E_StillOpen : EF P w K mg C_StillOpen C_MarkError "StillOpen" "number")
    (E_TooMany : EF P w K mg C_TooMany C_MarkError "TooMany" "limit")
    (E_UnknownPart : EF P w K mg C_UnknownPart C_MarkError "UnknownPart" "value")
    (hinj : ∀ k k' : Ek, (⟨C_UnknownTransaction, C_Ended, C_Prepared, C_FirstPart, C_StillOpen, C_TooMany, C_UnknownPart⟩ : EA).c k = (⟨C_UnknownTransaction, C_Ended, C_Prepared, C_FirstPart, C_StillOpen, C_TooMany, C_UnknownPart⟩ : EA).c k' → k = k') (hnm : ∀ k : Ek, (⟨C_UnknownTransaction, C_Ended, C_Prepared, C_FirstPart, C_StillOpen, C_TooMany, C_UnknownPart⟩ : EA).c k ≠ C_MarkError)
    (g_Fates : PySem.W.nsIn K mainGlobals "Fates" = some (some (.ref C_Fates))) (cls_Fates_pg : PySem.W.plainGet K C_Fates Str.empty = true) (cls_Fates_hd : PySem.W.hasDictIn K C_Fates = true) (cls_Fates_po : PySem.W.plainOver K C_Fates = true) (cls_Fates_sa : PySem.W.findIn K (.ref C_Fates) "__setattr__" = some (some (.builtin "object.__setattr__"))) (mk_Fates : PySem.W.makesIn K C_Fates = true) (kp_Fates : PySem.W.keepIn K (.ref C_Fates) = true) (na_Fates_0 : PySem.W.findIn K (.ref C_Fates) "_done" = some none) (na_Fates_1 : PySem.W.findIn K (.ref C_Fates) "_commits" = some none) (na_Fates_2 : PySem.W.findIn K (.ref C_Fates) "_at_work" = some none) (na_Fates_3 : PySem.W.findIn K (.ref C_Fates) "_states" = some none) (na_Fates_4 : PySem.W.findIn K (.ref C_Fates) "_stacks" = some none) (na_Fates_5 : PySem.W.findIn K (.ref C_Fates) "_all_parts" = some none) (g_Part : PySem.W.nsIn K mainGlobals "Part" = some (some (.ref C_Part))) (cls_Part_pg : PySem.W.plainGet K C_Part Str.empty = true) (cls_Part_hd : PySem.W.hasDictIn K C_Part = true) (cls_Part_po : PySem.W.plainOver K C_Part = true) (cls_Part_sa : PySem.W.findIn K (.ref C_Part) "__setattr__" = some (some (.builtin "object.__setattr__"))) (mk_Part : PySem.W.makesIn K C_Part = true) (kp_Part : PySem.W.keepIn K (.ref C_Part) = true) (na_Part_0 : PySem.W.findIn K (.ref C_Part) "holder" = some none) (na_Part_1 : PySem.W.findIn K (.ref C_Part) "outer" = some none) (na_Part_2 : PySem.W.findIn K (.ref C_Part) "released" = some none) (na_Part_3 : PySem.W.findIn K (.ref C_Part) "ended" = some none) (na_Part_4 : PySem.W.findIn K (.ref C_Part) "outcome" = some none)
    {tk_g_RUN : Tok} (g_RUN : PySem.W.nsIn K mainGlobals "MOST_RUNNING" = some (some (.int 8 tk_g_RUN))) {tk_g_OPEN : Tok} (g_OPEN : PySem.W.nsIn K mainGlobals "MOST_OPEN" = some (some (.int 5 tk_g_OPEN)))
    {f_is_whole : Addr} {oc_is_whole kV_is_whole dc_is_whole pm_is_whole cd_is_whole ct_is_whole : Value} {od_is_whole an_is_whole : Option Addr} {sl_is_whole : Array (Option Value)}
    (a_is_whole : PySem.W.nsIn K mainGlobals "is_whole" = some (some (.ref f_is_whole))) (l_is_whole : K.lookup f_is_whole = some ⟨oc_is_whole, od_is_whole, .func (PySem.W.fnOf "is_whole" "is_whole" (defArgs s_is_whole) (defBody s_is_whole) (defScope s_is_whole) .none kV_is_whole dc_is_whole pm_is_whole an_is_whole cd_is_whole ct_is_whole), sl_is_whole⟩) (c_is_whole : PySem.W.codeIn K cd_is_whole "is_whole" = true) (k_is_whole : PySem.W.keepIn K (.ref f_is_whole) = true)
    {f_is_within : Addr} {oc_is_within kV_is_within dc_is_within pm_is_within cd_is_within ct_is_within : Value} {od_is_within an_is_within : Option Addr} {sl_is_within : Array (Option Value)}
    (a_is_within : PySem.W.nsIn K mainGlobals "is_within" = some (some (.ref f_is_within))) (l_is_within : K.lookup f_is_within = some ⟨oc_is_within, od_is_within, .func (PySem.W.fnOf "is_within" "is_within" (defArgs s_is_within) (defBody s_is_within) (defScope s_is_within) .none kV_is_within dc_is_within pm_is_within an_is_within cd_is_within ct_is_within), sl_is_within⟩) (c_is_within : PySem.W.codeIn K cd_is_within "is_within" = true) (k_is_within : PySem.W.keepIn K (.ref f_is_within) = true)
    {f_Fates__count_operation : Addr} {oc_Fates__count_operation kV_Fates__count_operation dc_Fates__count_operation pm_Fates__count_operation cd_Fates__count_operation ct_Fates__count_operation : Value} {od_Fates__count_operation an_Fates__count_operation : Option Addr} {sl_Fates__count_operation : Array (Option Value)}
    (a_Fates__count_operation : PySem.W.findIn K (.ref C_Fates) "_count_operation" = some (some (.ref f_Fates__count_operation))) (i_Fates__count_operation : PySem.W.isFn K (.ref f_Fates__count_operation) = true) (l_Fates__count_operation : K.lookup f_Fates__count_operation = some ⟨oc_Fates__count_operation, od_Fates__count_operation, .func (PySem.W.fnOf "_count_operation" "Fates._count_operation" (defArgs s_Fates__count_operation) (defBody s_Fates__count_operation) (defScope s_Fates__count_operation) .none kV_Fates__count_operation dc_Fates__count_operation pm_Fates__count_operation an_Fates__count_operation cd_Fates__count_operation ct_Fates__count_operation), sl_Fates__count_operation⟩) (c_Fates__count_operation : PySem.W.codeIn K cd_Fates__count_operation "Fates._count_operation" = true) (k_Fates__count_operation : PySem.W.keepIn K (.ref f_Fates__count_operation) = true)
    {f_Fates_is_transaction : Addr} {oc_Fates_is_transaction kV_Fates_is_transaction dc_Fates_is_transaction pm_Fates_is_transaction cd_Fates_is_transaction ct_Fates_is_transaction : Value} {od_Fates_is_transaction an_Fates_is_transaction : Option Addr} {sl_Fates_is_transaction : Array (Option Value)}
    (a_Fates_is_transaction : PySem.W.findIn K (.ref C_Fates) "is_transaction" = some (some (.ref f_Fates_is_transaction))) (i_Fates_is_transaction : PySem.W.isFn K (.ref f_Fates_is_transaction) = true) (l_Fates_is_transaction : K.lookup f_Fates_is_transaction = some ⟨oc_Fates_is_transaction, od_Fates_is_transaction, .func (PySem.W.fnOf "is_transaction" "Fates.is_transaction" (defArgs s_Fates_is_transaction) (defBody s_Fates_is_transaction) (defScope s_Fates_is_transaction) .none kV_Fates_is_transaction dc_Fates_is_transaction pm_Fates_is_transaction an_Fates_is_transaction cd_Fates_is_transaction ct_Fates_is_transaction), sl_Fates_is_transaction⟩) (c_Fates_is_transaction : PySem.W.codeIn K cd_Fates_is_transaction "Fates.is_transaction" = true) (k_Fates_is_transaction : PySem.W.keepIn K (.ref f_Fates_is_transaction) = true)
    {f_Fates__check_known : Addr} {oc_Fates__check_known kV_Fates__check_known dc_Fates__check_known pm_Fates__check_known cd_Fates__check_known ct_Fates__check_known : Value} {od_Fates__check_known an_Fates__check_known : Option Addr} {sl_Fates__check_known : Array (Option Value)}
    (a_Fates__check_known : PySem.W.findIn K (.ref C_Fates) "_check_known" = some (some (.ref f_Fates__check_known))) (i_Fates__check_known : PySem.W.isFn K (.ref f_Fates__check_known) = true) (l_Fates__check_known : K.lookup f_Fates__check_known = some ⟨oc_Fates__check_known, od_Fates__check_known, .func (PySem.W.fnOf "_check_known" "Fates._check_known" (defArgs s_Fates__check_known) (defBody s_Fates__check_known) (defScope s_Fates__check_known) .none kV_Fates__check_known dc_Fates__check_known pm_Fates__check_known an_Fates__check_known cd_Fates__check_known ct_Fates__check_known), sl_Fates__check_known⟩) (c_Fates__check_known : PySem.W.codeIn K cd_Fates__check_known "Fates._check_known" = true) (k_Fates__check_known : PySem.W.keepIn K (.ref f_Fates__check_known) = true)
    {f_Fates__check_running : Addr} {oc_Fates__check_running kV_Fates__check_running dc_Fates__check_running pm_Fates__check_running cd_Fates__check_running ct_Fates__check_running : Value} {od_Fates__check_running an_Fates__check_running : Option Addr} {sl_Fates__check_running : Array (Option Value)}
    (a_Fates__check_running : PySem.W.findIn K (.ref C_Fates) "_check_running" = some (some (.ref f_Fates__check_running))) (i_Fates__check_running : PySem.W.isFn K (.ref f_Fates__check_running) = true) (l_Fates__check_running : K.lookup f_Fates__check_running = some ⟨oc_Fates__check_running, od_Fates__check_running, .func (PySem.W.fnOf "_check_running" "Fates._check_running" (defArgs s_Fates__check_running) (defBody s_Fates__check_running) (defScope s_Fates__check_running) .none kV_Fates__check_running dc_Fates__check_running pm_Fates__check_running an_Fates__check_running cd_Fates__check_running ct_Fates__check_running), sl_Fates__check_running⟩) (c_Fates__check_running : PySem.W.codeIn K cd_Fates__check_running "Fates._check_running" = true) (k_Fates__check_running : PySem.W.keepIn K (.ref f_Fates__check_running) = true)
    {f_Fates__check_free : Addr} {oc_Fates__check_free kV_Fates__check_free dc_Fates__check_free pm_Fates__check_free cd_Fates__check_free ct_Fates__check_free : Value} {od_Fates__check_free an_Fates__check_free : Option Addr} {sl_Fates__check_free : Array (Option Value)}
    (a_Fates__check_free : PySem.W.findIn K (.ref C_Fates) "_check_free" = some (some (.ref f_Fates__check_free))) (i_Fates__check_free : PySem.W.isFn K (.ref f_Fates__check_free) = true) (l_Fates__check_free : K.lookup f_Fates__check_free = some ⟨oc_Fates__check_free, od_Fates__check_free, .func (PySem.W.fnOf "_check_free" "Fates._check_free" (defArgs s_Fates__check_free) (defBody s_Fates__check_free) (defScope s_Fates__check_free) .none kV_Fates__check_free dc_Fates__check_free pm_Fates__check_free an_Fates__check_free cd_Fates__check_free ct_Fates__check_free), sl_Fates__check_free⟩) (c_Fates__check_free : PySem.W.codeIn K cd_Fates__check_free "Fates._check_free" = true) (k_Fates__check_free : PySem.W.keepIn K (.ref f_Fates__check_free) = true)
    {f_Part___init__ : Addr} {oc_Part___init__ kV_Part___init__ dc_Part___init__ pm_Part___init__ cd_Part___init__ ct_Part___init__ : Value} {od_Part___init__ an_Part___init__ : Option Addr} {sl_Part___init__ : Array (Option Value)}
    (a_Part___init__ : PySem.W.findIn K (.ref C_Part) "__init__" = some (some (.ref f_Part___init__))) (i_Part___init__ : PySem.W.isFn K (.ref f_Part___init__) = true) (l_Part___init__ : K.lookup f_Part___init__ = some ⟨oc_Part___init__, od_Part___init__, .func (PySem.W.fnOf "__init__" "Part.__init__" (defArgs s_Part___init__) (defBody s_Part___init__) (defScope s_Part___init__) .none kV_Part___init__ dc_Part___init__ pm_Part___init__ an_Part___init__ cd_Part___init__ ct_Part___init__), sl_Part___init__⟩) (c_Part___init__ : PySem.W.codeIn K cd_Part___init__ "Part.__init__" = true) (k_Part___init__ : PySem.W.keepIn K (.ref f_Part___init__) = true)
    {f_Fates__open_part : Addr} {oc_Fates__open_part kV_Fates__open_part dc_Fates__open_part pm_Fates__open_part cd_Fates__open_part ct_Fates__open_part : Value} {od_Fates__open_part an_Fates__open_part : Option Addr} {sl_Fates__open_part : Array (Option Value)}
    (a_Fates__open_part : PySem.W.findIn K (.ref C_Fates) "_open_part" = some (some (.ref f_Fates__open_part))) (i_Fates__open_part : PySem.W.isFn K (.ref f_Fates__open_part) = true) (l_Fates__open_part : K.lookup f_Fates__open_part = some ⟨oc_Fates__open_part, od_Fates__open_part, .func (PySem.W.fnOf "_open_part" "Fates._open_part" (defArgs s_Fates__open_part) (defBody s_Fates__open_part) (defScope s_Fates__open_part) .none kV_Fates__open_part dc_Fates__open_part pm_Fates__open_part an_Fates__open_part cd_Fates__open_part ct_Fates__open_part), sl_Fates__open_part⟩) (c_Fates__open_part : PySem.W.codeIn K cd_Fates__open_part "Fates._open_part" = true) (k_Fates__open_part : PySem.W.keepIn K (.ref f_Fates__open_part) = true)
    {f_Fates_begin : Addr} {oc_Fates_begin kV_Fates_begin dc_Fates_begin pm_Fates_begin cd_Fates_begin ct_Fates_begin : Value} {od_Fates_begin an_Fates_begin : Option Addr} {sl_Fates_begin : Array (Option Value)}
    (a_Fates_begin : PySem.W.findIn K (.ref C_Fates) "begin" = some (some (.ref f_Fates_begin))) (i_Fates_begin : PySem.W.isFn K (.ref f_Fates_begin) = true) (l_Fates_begin : K.lookup f_Fates_begin = some ⟨oc_Fates_begin, od_Fates_begin, .func (PySem.W.fnOf "begin" "Fates.begin" (defArgs s_Fates_begin) (defBody s_Fates_begin) (defScope s_Fates_begin) .none kV_Fates_begin dc_Fates_begin pm_Fates_begin an_Fates_begin cd_Fates_begin ct_Fates_begin), sl_Fates_begin⟩) (c_Fates_begin : PySem.W.codeIn K cd_Fates_begin "Fates.begin" = true) (k_Fates_begin : PySem.W.keepIn K (.ref f_Fates_begin) = true)
    {f_Fates__end_part : Addr} {oc_Fates__end_part kV_Fates__end_part dc_Fates__end_part pm_Fates__end_part cd_Fates__end_part ct_Fates__end_part : Value} {od_Fates__end_part an_Fates__end_part : Option Addr} {sl_Fates__end_part : Array (Option Value)}
    (a_Fates__end_part : PySem.W.findIn K (.ref C_Fates) "_end_part" = some (some (.ref f_Fates__end_part))) (i_Fates__end_part : PySem.W.isFn K (.ref f_Fates__end_part) = true) (l_Fates__end_part : K.lookup f_Fates__end_part = some ⟨oc_Fates__end_part, od_Fates__end_part, .func (PySem.W.fnOf "_end_part" "Fates._end_part" (defArgs s_Fates__end_part) (defBody s_Fates__end_part) (defScope s_Fates__end_part) .none kV_Fates__end_part dc_Fates__end_part pm_Fates__end_part an_Fates__end_part cd_Fates__end_part ct_Fates__end_part), sl_Fates__end_part⟩) (c_Fates__end_part : PySem.W.codeIn K cd_Fates__end_part "Fates._end_part" = true) (k_Fates__end_part : PySem.W.keepIn K (.ref f_Fates__end_part) = true)
    {f_Fates__take_innermost : Addr} {oc_Fates__take_innermost kV_Fates__take_innermost dc_Fates__take_innermost pm_Fates__take_innermost cd_Fates__take_innermost ct_Fates__take_innermost : Value} {od_Fates__take_innermost an_Fates__take_innermost : Option Addr} {sl_Fates__take_innermost : Array (Option Value)}
    (a_Fates__take_innermost : PySem.W.findIn K (.ref C_Fates) "_take_innermost" = some (some (.ref f_Fates__take_innermost))) (i_Fates__take_innermost : PySem.W.isFn K (.ref f_Fates__take_innermost) = true) (l_Fates__take_innermost : K.lookup f_Fates__take_innermost = some ⟨oc_Fates__take_innermost, od_Fates__take_innermost, .func (PySem.W.fnOf "_take_innermost" "Fates._take_innermost" (defArgs s_Fates__take_innermost) (defBody s_Fates__take_innermost) (defScope s_Fates__take_innermost) .none kV_Fates__take_innermost dc_Fates__take_innermost pm_Fates__take_innermost an_Fates__take_innermost cd_Fates__take_innermost ct_Fates__take_innermost), sl_Fates__take_innermost⟩) (c_Fates__take_innermost : PySem.W.codeIn K cd_Fates__take_innermost "Fates._take_innermost" = true) (k_Fates__take_innermost : PySem.W.keepIn K (.ref f_Fates__take_innermost) = true)
    {f_Fates_save : Addr} {oc_Fates_save kV_Fates_save dc_Fates_save pm_Fates_save cd_Fates_save ct_Fates_save : Value} {od_Fates_save an_Fates_save : Option Addr} {sl_Fates_save : Array (Option Value)}
    (a_Fates_save : PySem.W.findIn K (.ref C_Fates) "save" = some (some (.ref f_Fates_save))) (i_Fates_save : PySem.W.isFn K (.ref f_Fates_save) = true) (l_Fates_save : K.lookup f_Fates_save = some ⟨oc_Fates_save, od_Fates_save, .func (PySem.W.fnOf "save" "Fates.save" (defArgs s_Fates_save) (defBody s_Fates_save) (defScope s_Fates_save) .none kV_Fates_save dc_Fates_save pm_Fates_save an_Fates_save cd_Fates_save ct_Fates_save), sl_Fates_save⟩) (c_Fates_save : PySem.W.codeIn K cd_Fates_save "Fates.save" = true) (k_Fates_save : PySem.W.keepIn K (.ref f_Fates_save) = true)
    {f_Fates_release : Addr} {oc_Fates_release kV_Fates_release dc_Fates_release pm_Fates_release cd_Fates_release ct_Fates_release : Value} {od_Fates_release an_Fates_release : Option Addr} {sl_Fates_release : Array (Option Value)}
    (a_Fates_release : PySem.W.findIn K (.ref C_Fates) "release" = some (some (.ref f_Fates_release))) (i_Fates_release : PySem.W.isFn K (.ref f_Fates_release) = true) (l_Fates_release : K.lookup f_Fates_release = some ⟨oc_Fates_release, od_Fates_release, .func (PySem.W.fnOf "release" "Fates.release" (defArgs s_Fates_release) (defBody s_Fates_release) (defScope s_Fates_release) .none kV_Fates_release dc_Fates_release pm_Fates_release an_Fates_release cd_Fates_release ct_Fates_release), sl_Fates_release⟩) (c_Fates_release : PySem.W.codeIn K cd_Fates_release "Fates.release" = true) (k_Fates_release : PySem.W.keepIn K (.ref f_Fates_release) = true)
    {f_Fates_back : Addr} {oc_Fates_back kV_Fates_back dc_Fates_back pm_Fates_back cd_Fates_back ct_Fates_back : Value} {od_Fates_back an_Fates_back : Option Addr} {sl_Fates_back : Array (Option Value)}
    (a_Fates_back : PySem.W.findIn K (.ref C_Fates) "back" = some (some (.ref f_Fates_back))) (i_Fates_back : PySem.W.isFn K (.ref f_Fates_back) = true) (l_Fates_back : K.lookup f_Fates_back = some ⟨oc_Fates_back, od_Fates_back, .func (PySem.W.fnOf "back" "Fates.back" (defArgs s_Fates_back) (defBody s_Fates_back) (defScope s_Fates_back) .none kV_Fates_back dc_Fates_back pm_Fates_back an_Fates_back cd_Fates_back ct_Fates_back), sl_Fates_back⟩) (c_Fates_back : PySem.W.codeIn K cd_Fates_back "Fates.back" = true) (k_Fates_back : PySem.W.keepIn K (.ref f_Fates_back) = true)
    {f_Fates_prepare : Addr} {oc_Fates_prepare kV_Fates_prepare dc_Fates_prepare pm_Fates_prepare cd_Fates_prepare ct_Fates_prepare : Value} {od_Fates_prepare an_Fates_prepare : Option Addr} {sl_Fates_prepare : Array (Option Value)}
    (a_Fates_prepare : PySem.W.findIn K (.ref C_Fates) "prepare" = some (some (.ref f_Fates_prepare))) (i_Fates_prepare : PySem.W.isFn K (.ref f_Fates_prepare) = true) (l_Fates_prepare : K.lookup f_Fates_prepare = some ⟨oc_Fates_prepare, od_Fates_prepare, .func (PySem.W.fnOf "prepare" "Fates.prepare" (defArgs s_Fates_prepare) (defBody s_Fates_prepare) (defScope s_Fates_prepare) .none kV_Fates_prepare dc_Fates_prepare pm_Fates_prepare an_Fates_prepare cd_Fates_prepare ct_Fates_prepare), sl_Fates_prepare⟩) (c_Fates_prepare : PySem.W.codeIn K cd_Fates_prepare "Fates.prepare" = true) (k_Fates_prepare : PySem.W.keepIn K (.ref f_Fates_prepare) = true)
    {f_Fates__end_transaction : Addr} {oc_Fates__end_transaction kV_Fates__end_transaction dc_Fates__end_transaction pm_Fates__end_transaction cd_Fates__end_transaction ct_Fates__end_transaction : Value} {od_Fates__end_transaction an_Fates__end_transaction : Option Addr} {sl_Fates__end_transaction : Array (Option Value)}
    (a_Fates__end_transaction : PySem.W.findIn K (.ref C_Fates) "_end_transaction" = some (some (.ref f_Fates__end_transaction))) (i_Fates__end_transaction : PySem.W.isFn K (.ref f_Fates__end_transaction) = true) (l_Fates__end_transaction : K.lookup f_Fates__end_transaction = some ⟨oc_Fates__end_transaction, od_Fates__end_transaction, .func (PySem.W.fnOf "_end_transaction" "Fates._end_transaction" (defArgs s_Fates__end_transaction) (defBody s_Fates__end_transaction) (defScope s_Fates__end_transaction) .none kV_Fates__end_transaction dc_Fates__end_transaction pm_Fates__end_transaction an_Fates__end_transaction cd_Fates__end_transaction ct_Fates__end_transaction), sl_Fates__end_transaction⟩) (c_Fates__end_transaction : PySem.W.codeIn K cd_Fates__end_transaction "Fates._end_transaction" = true) (k_Fates__end_transaction : PySem.W.keepIn K (.ref f_Fates__end_transaction) = true)
    {f_Fates_commit : Addr} {oc_Fates_commit kV_Fates_commit dc_Fates_commit pm_Fates_commit cd_Fates_commit ct_Fates_commit : Value} {od_Fates_commit an_Fates_commit : Option Addr} {sl_Fates_commit : Array (Option Value)}
    (a_Fates_commit : PySem.W.findIn K (.ref C_Fates) "commit" = some (some (.ref f_Fates_commit))) (i_Fates_commit : PySem.W.isFn K (.ref f_Fates_commit) = true) (l_Fates_commit : K.lookup f_Fates_commit = some ⟨oc_Fates_commit, od_Fates_commit, .func (PySem.W.fnOf "commit" "Fates.commit" (defArgs s_Fates_commit) (defBody s_Fates_commit) (defScope s_Fates_commit) .none kV_Fates_commit dc_Fates_commit pm_Fates_commit an_Fates_commit cd_Fates_commit ct_Fates_commit), sl_Fates_commit⟩) (c_Fates_commit : PySem.W.codeIn K cd_Fates_commit "Fates.commit" = true) (k_Fates_commit : PySem.W.keepIn K (.ref f_Fates_commit) = true)
    {f_Fates_abort : Addr} {oc_Fates_abort kV_Fates_abort dc_Fates_abort pm_Fates_abort cd_Fates_abort ct_Fates_abort : Value} {od_Fates_abort an_Fates_abort : Option Addr} {sl_Fates_abort : Array (Option Value)}
    (a_Fates_abort : PySem.W.findIn K (.ref C_Fates) "abort" = some (some (.ref f_Fates_abort))) (i_Fates_abort : PySem.W.isFn K (.ref f_Fates_abort) = true) (l_Fates_abort : K.lookup f_Fates_abort = some ⟨oc_Fates_abort, od_Fates_abort, .func (PySem.W.fnOf "abort" "Fates.abort" (defArgs s_Fates_abort) (defBody s_Fates_abort) (defScope s_Fates_abort) .none kV_Fates_abort dc_Fates_abort pm_Fates_abort an_Fates_abort cd_Fates_abort ct_Fates_abort), sl_Fates_abort⟩) (c_Fates_abort : PySem.W.codeIn K cd_Fates_abort "Fates.abort" = true) (k_Fates_abort : PySem.W.keepIn K (.ref f_Fates_abort) = true)
    {f_Fates_crash : Addr} {oc_Fates_crash kV_Fates_crash dc_Fates_crash pm_Fates_crash cd_Fates_crash ct_Fates_crash : Value} {od_Fates_crash an_Fates_crash : Option Addr} {sl_Fates_crash : Array (Option Value)}
    (a_Fates_crash : PySem.W.findIn K (.ref C_Fates) "crash" = some (some (.ref f_Fates_crash))) (i_Fates_crash : PySem.W.isFn K (.ref f_Fates_crash) = true) (l_Fates_crash : K.lookup f_Fates_crash = some ⟨oc_Fates_crash, od_Fates_crash, .func (PySem.W.fnOf "crash" "Fates.crash" (defArgs s_Fates_crash) (defBody s_Fates_crash) (defScope s_Fates_crash) .none kV_Fates_crash dc_Fates_crash pm_Fates_crash an_Fates_crash cd_Fates_crash ct_Fates_crash), sl_Fates_crash⟩) (c_Fates_crash : PySem.W.codeIn K cd_Fates_crash "Fates.crash" = true) (k_Fates_crash : PySem.W.keepIn K (.ref f_Fates_crash) = true)
    {f_Fates_moment : Addr} {oc_Fates_moment kV_Fates_moment dc_Fates_moment pm_Fates_moment cd_Fates_moment ct_Fates_moment : Value} {od_Fates_moment an_Fates_moment : Option Addr} {sl_Fates_moment : Array (Option Value)}
    (a_Fates_moment : PySem.W.findIn K (.ref C_Fates) "moment" = some (some (.ref f_Fates_moment))) (i_Fates_moment : PySem.W.isFn K (.ref f_Fates_moment) = true) (l_Fates_moment : K.lookup f_Fates_moment = some ⟨oc_Fates_moment, od_Fates_moment, .func (PySem.W.fnOf "moment" "Fates.moment" (defArgs s_Fates_moment) (defBody s_Fates_moment) (defScope s_Fates_moment) .none kV_Fates_moment dc_Fates_moment pm_Fates_moment an_Fates_moment cd_Fates_moment ct_Fates_moment), sl_Fates_moment⟩) (c_Fates_moment : PySem.W.codeIn K cd_Fates_moment "Fates.moment" = true) (k_Fates_moment : PySem.W.keepIn K (.ref f_Fates_moment) = true)
    {f_Fates_running : Addr} {oc_Fates_running kV_Fates_running dc_Fates_running pm_Fates_running cd_Fates_running ct_Fates_running : Value} {od_Fates_running an_Fates_running : Option Addr} {sl_Fates_running : Array (Option Value)}
    (a_Fates_running : PySem.W.findIn K (.ref C_Fates) "running" = some (some (.ref f_Fates_running))) (i_Fates_running : PySem.W.isFn K (.ref f_Fates_running) = true) (l_Fates_running : K.lookup f_Fates_running = some ⟨oc_Fates_running, od_Fates_running, .func (PySem.W.fnOf "running" "Fates.running" (defArgs s_Fates_running) (defBody s_Fates_running) (defScope s_Fates_running) .none kV_Fates_running dc_Fates_running pm_Fates_running an_Fates_running cd_Fates_running ct_Fates_running), sl_Fates_running⟩) (c_Fates_running : PySem.W.codeIn K cd_Fates_running "Fates.running" = true) (k_Fates_running : PySem.W.keepIn K (.ref f_Fates_running) = true)
    {f_Fates_state : Addr} {oc_Fates_state kV_Fates_state dc_Fates_state pm_Fates_state cd_Fates_state ct_Fates_state : Value} {od_Fates_state an_Fates_state : Option Addr} {sl_Fates_state : Array (Option Value)}
    (a_Fates_state : PySem.W.findIn K (.ref C_Fates) "state" = some (some (.ref f_Fates_state))) (i_Fates_state : PySem.W.isFn K (.ref f_Fates_state) = true) (l_Fates_state : K.lookup f_Fates_state = some ⟨oc_Fates_state, od_Fates_state, .func (PySem.W.fnOf "state" "Fates.state" (defArgs s_Fates_state) (defBody s_Fates_state) (defScope s_Fates_state) .none kV_Fates_state dc_Fates_state pm_Fates_state an_Fates_state cd_Fates_state ct_Fates_state), sl_Fates_state⟩) (c_Fates_state : PySem.W.codeIn K cd_Fates_state "Fates.state" = true) (k_Fates_state : PySem.W.keepIn K (.ref f_Fates_state) = true)
    {f_Fates_parts : Addr} {oc_Fates_parts kV_Fates_parts dc_Fates_parts pm_Fates_parts cd_Fates_parts ct_Fates_parts : Value} {od_Fates_parts an_Fates_parts : Option Addr} {sl_Fates_parts : Array (Option Value)}
    (a_Fates_parts : PySem.W.findIn K (.ref C_Fates) "parts" = some (some (.ref f_Fates_parts))) (i_Fates_parts : PySem.W.isFn K (.ref f_Fates_parts) = true) (l_Fates_parts : K.lookup f_Fates_parts = some ⟨oc_Fates_parts, od_Fates_parts, .func (PySem.W.fnOf "parts" "Fates.parts" (defArgs s_Fates_parts) (defBody s_Fates_parts) (defScope s_Fates_parts) .none kV_Fates_parts dc_Fates_parts pm_Fates_parts an_Fates_parts cd_Fates_parts ct_Fates_parts), sl_Fates_parts⟩) (c_Fates_parts : PySem.W.codeIn K cd_Fates_parts "Fates.parts" = true) (k_Fates_parts : PySem.W.keepIn K (.ref f_Fates_parts) = true)
    {f_Fates___init__ : Addr} {oc_Fates___init__ kV_Fates___init__ dc_Fates___init__ pm_Fates___init__ cd_Fates___init__ ct_Fates___init__ : Value} {od_Fates___init__ an_Fates___init__ : Option Addr} {sl_Fates___init__ : Array (Option Value)}
    (a_Fates___init__ : PySem.W.findIn K (.ref C_Fates) "__init__" = some (some (.ref f_Fates___init__))) (i_Fates___init__ : PySem.W.isFn K (.ref f_Fates___init__) = true) (l_Fates___init__ : K.lookup f_Fates___init__ = some ⟨oc_Fates___init__, od_Fates___init__, .func (PySem.W.fnOf "__init__" "Fates.__init__" (defArgs s_Fates___init__) (defBody s_Fates___init__) (defScope s_Fates___init__) .none kV_Fates___init__ dc_Fates___init__ pm_Fates___init__ an_Fates___init__ cd_Fates___init__ ct_Fates___init__), sl_Fates___init__⟩) (c_Fates___init__ : PySem.W.codeIn K cd_Fates___init__ "Fates.__init__" = true) (k_Fates___init__ : PySem.W.keepIn K (.ref f_Fates___init__) = true)
    {f__law_world : Addr} {oc__law_world kV__law_world dc__law_world pm__law_world cd__law_world ct__law_world : Value} {od__law_world an__law_world : Option Addr} {sl__law_world : Array (Option Value)}
    (a__law_world : PySem.W.nsIn K mainGlobals "_law_world" = some (some (.ref f__law_world))) (l__law_world : K.lookup f__law_world = some ⟨oc__law_world, od__law_world, .func (PySem.W.fnOf "_law_world" "_law_world" (defArgs s__law_world) (defBody s__law_world) (defScope s__law_world) .none kV__law_world dc__law_world pm__law_world an__law_world cd__law_world ct__law_world), sl__law_world⟩) (c__law_world : PySem.W.codeIn K cd__law_world "_law_world" = true) (k__law_world : PySem.W.keepIn K (.ref f__law_world) = true)
    {f__law_running : Addr} {oc__law_running kV__law_running dc__law_running pm__law_running cd__law_running ct__law_running : Value} {od__law_running an__law_running : Option Addr} {sl__law_running : Array (Option Value)}
    (a__law_running : PySem.W.nsIn K mainGlobals "_law_running" = some (some (.ref f__law_running))) (l__law_running : K.lookup f__law_running = some ⟨oc__law_running, od__law_running, .func (PySem.W.fnOf "_law_running" "_law_running" (defArgs s__law_running) (defBody s__law_running) (defScope s__law_running) .none kV__law_running dc__law_running pm__law_running an__law_running cd__law_running ct__law_running), sl__law_running⟩) (c__law_running : PySem.W.codeIn K cd__law_running "_law_running" = true) (k__law_running : PySem.W.keepIn K (.ref f__law_running) = true)
    {f__law_over : Addr} {oc__law_over kV__law_over dc__law_over pm__law_over cd__law_over ct__law_over : Value} {od__law_over an__law_over : Option Addr} {sl__law_over : Array (Option Value)}
    (a__law_over : PySem.W.nsIn K mainGlobals "_law_over" = some (some (.ref f__law_over))) (l__law_over : K.lookup f__law_over = some ⟨oc__law_over, od__law_over, .func (PySem.W.fnOf "_law_over" "_law_over" (defArgs s__law_over) (defBody s__law_over) (defScope s__law_over) .none kV__law_over dc__law_over pm__law_over an__law_over cd__law_over ct__law_over), sl__law_over⟩) (c__law_over : PySem.W.codeIn K cd__law_over "_law_over" = true) (k__law_over : PySem.W.keepIn K (.ref f__law_over) = true)
    {f__law_opened : Addr} {oc__law_opened kV__law_opened dc__law_opened pm__law_opened cd__law_opened ct__law_opened : Value} {od__law_opened an__law_opened : Option Addr} {sl__law_opened : Array (Option Value)}
    (a__law_opened : PySem.W.nsIn K mainGlobals "_law_opened" = some (some (.ref f__law_opened))) (l__law_opened : K.lookup f__law_opened = some ⟨oc__law_opened, od__law_opened, .func (PySem.W.fnOf "_law_opened" "_law_opened" (defArgs s__law_opened) (defBody s__law_opened) (defScope s__law_opened) .none kV__law_opened dc__law_opened pm__law_opened an__law_opened cd__law_opened ct__law_opened), sl__law_opened⟩) (c__law_opened : PySem.W.codeIn K cd__law_opened "_law_opened" = true) (k__law_opened : PySem.W.keepIn K (.ref f__law_opened) = true)
    {f__law_done : Addr} {oc__law_done kV__law_done dc__law_done pm__law_done cd__law_done ct__law_done : Value} {od__law_done an__law_done : Option Addr} {sl__law_done : Array (Option Value)}
    (a__law_done : PySem.W.nsIn K mainGlobals "_law_done" = some (some (.ref f__law_done))) (l__law_done : K.lookup f__law_done = some ⟨oc__law_done, od__law_done, .func (PySem.W.fnOf "_law_done" "_law_done" (defArgs s__law_done) (defBody s__law_done) (defScope s__law_done) .none kV__law_done dc__law_done pm__law_done an__law_done cd__law_done ct__law_done), sl__law_done⟩) (c__law_done : PySem.W.codeIn K cd__law_done "_law_done" = true) (k__law_done : PySem.W.keepIn K (.ref f__law_done) = true)
    {f__law_refusal : Addr} {oc__law_refusal kV__law_refusal dc__law_refusal pm__law_refusal cd__law_refusal ct__law_refusal : Value} {od__law_refusal an__law_refusal : Option Addr} {sl__law_refusal : Array (Option Value)}
    (a__law_refusal : PySem.W.nsIn K mainGlobals "_law_refusal" = some (some (.ref f__law_refusal))) (l__law_refusal : K.lookup f__law_refusal = some ⟨oc__law_refusal, od__law_refusal, .func (PySem.W.fnOf "_law_refusal" "_law_refusal" (defArgs s__law_refusal) (defBody s__law_refusal) (defScope s__law_refusal) .none kV__law_refusal dc__law_refusal pm__law_refusal an__law_refusal cd__law_refusal ct__law_refusal), sl__law_refusal⟩) (c__law_refusal : PySem.W.codeIn K cd__law_refusal "_law_refusal" = true) (k__law_refusal : PySem.W.keepIn K (.ref f__law_refusal) = true)
    {f__law_pick : Addr} {oc__law_pick kV__law_pick dc__law_pick pm__law_pick cd__law_pick ct__law_pick : Value} {od__law_pick an__law_pick : Option Addr} {sl__law_pick : Array (Option Value)}
    (a__law_pick : PySem.W.nsIn K mainGlobals "_law_pick" = some (some (.ref f__law_pick))) (l__law_pick : K.lookup f__law_pick = some ⟨oc__law_pick, od__law_pick, .func (PySem.W.fnOf "_law_pick" "_law_pick" (defArgs s__law_pick) (defBody s__law_pick) (defScope s__law_pick) .none kV__law_pick dc__law_pick pm__law_pick an__law_pick cd__law_pick ct__law_pick), sl__law_pick⟩) (c__law_pick : PySem.W.codeIn K cd__law_pick "_law_pick" = true) (k__law_pick : PySem.W.keepIn K (.ref f__law_pick) = true)
    {f__law_one_of : Addr} {oc__law_one_of kV__law_one_of dc__law_one_of pm__law_one_of cd__law_one_of ct__law_one_of : Value} {od__law_one_of an__law_one_of : Option Addr} {sl__law_one_of : Array (Option Value)}
    (a__law_one_of : PySem.W.nsIn K mainGlobals "_law_one_of" = some (some (.ref f__law_one_of))) (l__law_one_of : K.lookup f__law_one_of = some ⟨oc__law_one_of, od__law_one_of, .func (PySem.W.fnOf "_law_one_of" "_law_one_of" (defArgs s__law_one_of) (defBody s__law_one_of) (defScope s__law_one_of) .none kV__law_one_of dc__law_one_of pm__law_one_of an__law_one_of cd__law_one_of ct__law_one_of), sl__law_one_of⟩) (c__law_one_of : PySem.W.codeIn K cd__law_one_of "_law_one_of" = true) (k__law_one_of : PySem.W.keepIn K (.ref f__law_one_of) = true)
    {f__law_tape : Addr} {oc__law_tape kV__law_tape dc__law_tape pm__law_tape cd__law_tape ct__law_tape : Value} {od__law_tape an__law_tape : Option Addr} {sl__law_tape : Array (Option Value)}
    (a__law_tape : PySem.W.nsIn K mainGlobals "_law_tape" = some (some (.ref f__law_tape))) (l__law_tape : K.lookup f__law_tape = some ⟨oc__law_tape, od__law_tape, .func (PySem.W.fnOf "_law_tape" "_law_tape" (defArgs s__law_tape) (defBody s__law_tape) (defScope s__law_tape) .none kV__law_tape dc__law_tape pm__law_tape an__law_tape cd__law_tape ct__law_tape), sl__law_tape⟩) (c__law_tape : PySem.W.codeIn K cd__law_tape "_law_tape" = true) (k__law_tape : PySem.W.keepIn K (.ref f__law_tape) = true)
    {f__law_step : Addr} {oc__law_step kV__law_step dc__law_step pm__law_step cd__law_step ct__law_step : Value} {od__law_step an__law_step : Option Addr} {sl__law_step : Array (Option Value)}
    (a__law_step : PySem.W.nsIn K mainGlobals "_law_step" = some (some (.ref f__law_step))) (l__law_step : K.lookup f__law_step = some ⟨oc__law_step, od__law_step, .func (PySem.W.fnOf "_law_step" "_law_step" (defArgs s__law_step) (defBody s__law_step) (defScope s__law_step) .none kV__law_step dc__law_step pm__law_step an__law_step cd__law_step ct__law_step), sl__law_step⟩) (c__law_step : PySem.W.codeIn K cd__law_step "_law_step" = true) (k__law_step : PySem.W.keepIn K (.ref f__law_step) = true)
    {f__law_call : Addr} {oc__law_call kV__law_call dc__law_call pm__law_call cd__law_call ct__law_call : Value} {od__law_call an__law_call : Option Addr} {sl__law_call : Array (Option Value)}
    (a__law_call : PySem.W.nsIn K mainGlobals "_law_call" = some (some (.ref f__law_call))) (l__law_call : K.lookup f__law_call = some ⟨oc__law_call, od__law_call, .func (PySem.W.fnOf "_law_call" "_law_call" (defArgs s__law_call) (defBody s__law_call) (defScope s__law_call) .none kV__law_call dc__law_call pm__law_call an__law_call cd__law_call ct__law_call), sl__law_call⟩) (c__law_call : PySem.W.codeIn K cd__law_call "_law_call" = true) (k__law_call : PySem.W.keepIn K (.ref f__law_call) = true)
    {f__law_told : Addr} {oc__law_told kV__law_told dc__law_told pm__law_told cd__law_told ct__law_told : Value} {od__law_told an__law_told : Option Addr} {sl__law_told : Array (Option Value)}
    (a__law_told : PySem.W.nsIn K mainGlobals "_law_told" = some (some (.ref f__law_told))) (l__law_told : K.lookup f__law_told = some ⟨oc__law_told, od__law_told, .func (PySem.W.fnOf "_law_told" "_law_told" (defArgs s__law_told) (defBody s__law_told) (defScope s__law_told) .none kV__law_told dc__law_told pm__law_told an__law_told cd__law_told ct__law_told), sl__law_told⟩) (c__law_told : PySem.W.codeIn K cd__law_told "_law_told" = true) (k__law_told : PySem.W.keepIn K (.ref f__law_told) = true)
    {f__law_both : Addr} {oc__law_both kV__law_both dc__law_both pm__law_both cd__law_both ct__law_both : Value} {od__law_both an__law_both : Option Addr} {sl__law_both : Array (Option Value)}
    (a__law_both : PySem.W.nsIn K mainGlobals "_law_both" = some (some (.ref f__law_both))) (l__law_both : K.lookup f__law_both = some ⟨oc__law_both, od__law_both, .func (PySem.W.fnOf "_law_both" "_law_both" (defArgs s__law_both) (defBody s__law_both) (defScope s__law_both) .none kV__law_both dc__law_both pm__law_both an__law_both cd__law_both ct__law_both), sl__law_both⟩) (c__law_both : PySem.W.codeIn K cd__law_both "_law_both" = true) (k__law_both : PySem.W.keepIn K (.ref f__law_both) = true)
    {f_Fates_is_part : Addr} {oc_Fates_is_part kV_Fates_is_part dc_Fates_is_part pm_Fates_is_part cd_Fates_is_part ct_Fates_is_part : Value} {od_Fates_is_part an_Fates_is_part : Option Addr} {sl_Fates_is_part : Array (Option Value)}
    (a_Fates_is_part : PySem.W.findIn K (.ref C_Fates) "is_part" = some (some (.ref f_Fates_is_part))) (i_Fates_is_part : PySem.W.isFn K (.ref f_Fates_is_part) = true) (l_Fates_is_part : K.lookup f_Fates_is_part = some ⟨oc_Fates_is_part, od_Fates_is_part, .func (PySem.W.fnOf "is_part" "Fates.is_part" (defArgs s_Fates_is_part) (defBody s_Fates_is_part) (defScope s_Fates_is_part) .none kV_Fates_is_part dc_Fates_is_part pm_Fates_is_part an_Fates_is_part cd_Fates_is_part ct_Fates_is_part), sl_Fates_is_part⟩) (c_Fates_is_part : PySem.W.codeIn K cd_Fates_is_part "Fates.is_part" = true) (k_Fates_is_part : PySem.W.keepIn K (.ref f_Fates_is_part) = true)
    {f_Fates__check_part : Addr} {oc_Fates__check_part kV_Fates__check_part dc_Fates__check_part pm_Fates__check_part cd_Fates__check_part ct_Fates__check_part : Value} {od_Fates__check_part an_Fates__check_part : Option Addr} {sl_Fates__check_part : Array (Option Value)}
    (a_Fates__check_part : PySem.W.findIn K (.ref C_Fates) "_check_part" = some (some (.ref f_Fates__check_part))) (i_Fates__check_part : PySem.W.isFn K (.ref f_Fates__check_part) = true) (l_Fates__check_part : K.lookup f_Fates__check_part = some ⟨oc_Fates__check_part, od_Fates__check_part, .func (PySem.W.fnOf "_check_part" "Fates._check_part" (defArgs s_Fates__check_part) (defBody s_Fates__check_part) (defScope s_Fates__check_part) .none kV_Fates__check_part dc_Fates__check_part pm_Fates__check_part an_Fates__check_part cd_Fates__check_part ct_Fates__check_part), sl_Fates__check_part⟩) (c_Fates__check_part : PySem.W.codeIn K cd_Fates__check_part "Fates._check_part" = true) (k_Fates__check_part : PySem.W.keepIn K (.ref f_Fates__check_part) = true)
    {f_Fates_transaction : Addr} {oc_Fates_transaction kV_Fates_transaction dc_Fates_transaction pm_Fates_transaction cd_Fates_transaction ct_Fates_transaction : Value} {od_Fates_transaction an_Fates_transaction : Option Addr} {sl_Fates_transaction : Array (Option Value)}
    (a_Fates_transaction : PySem.W.findIn K (.ref C_Fates) "transaction" = some (some (.ref f_Fates_transaction))) (i_Fates_transaction : PySem.W.isFn K (.ref f_Fates_transaction) = true) (l_Fates_transaction : K.lookup f_Fates_transaction = some ⟨oc_Fates_transaction, od_Fates_transaction, .func (PySem.W.fnOf "transaction" "Fates.transaction" (defArgs s_Fates_transaction) (defBody s_Fates_transaction) (defScope s_Fates_transaction) .none kV_Fates_transaction dc_Fates_transaction pm_Fates_transaction an_Fates_transaction cd_Fates_transaction ct_Fates_transaction), sl_Fates_transaction⟩) (c_Fates_transaction : PySem.W.codeIn K cd_Fates_transaction "Fates.transaction" = true) (k_Fates_transaction : PySem.W.keepIn K (.ref f_Fates_transaction) = true)
    {f_Fates_root : Addr} {oc_Fates_root kV_Fates_root dc_Fates_root pm_Fates_root cd_Fates_root ct_Fates_root : Value} {od_Fates_root an_Fates_root : Option Addr} {sl_Fates_root : Array (Option Value)}
    (a_Fates_root : PySem.W.findIn K (.ref C_Fates) "root" = some (some (.ref f_Fates_root))) (i_Fates_root : PySem.W.isFn K (.ref f_Fates_root) = true) (l_Fates_root : K.lookup f_Fates_root = some ⟨oc_Fates_root, od_Fates_root, .func (PySem.W.fnOf "root" "Fates.root" (defArgs s_Fates_root) (defBody s_Fates_root) (defScope s_Fates_root) .none kV_Fates_root dc_Fates_root pm_Fates_root an_Fates_root cd_Fates_root ct_Fates_root), sl_Fates_root⟩) (c_Fates_root : PySem.W.codeIn K cd_Fates_root "Fates.root" = true) (k_Fates_root : PySem.W.keepIn K (.ref f_Fates_root) = true)
    {f_Fates_owner : Addr} {oc_Fates_owner kV_Fates_owner dc_Fates_owner pm_Fates_owner cd_Fates_owner ct_Fates_owner : Value} {od_Fates_owner an_Fates_owner : Option Addr} {sl_Fates_owner : Array (Option Value)}
    (a_Fates_owner : PySem.W.findIn K (.ref C_Fates) "owner" = some (some (.ref f_Fates_owner))) (i_Fates_owner : PySem.W.isFn K (.ref f_Fates_owner) = true) (l_Fates_owner : K.lookup f_Fates_owner = some ⟨oc_Fates_owner, od_Fates_owner, .func (PySem.W.fnOf "owner" "Fates.owner" (defArgs s_Fates_owner) (defBody s_Fates_owner) (defScope s_Fates_owner) .none kV_Fates_owner dc_Fates_owner pm_Fates_owner an_Fates_owner cd_Fates_owner ct_Fates_owner), sl_Fates_owner⟩) (c_Fates_owner : PySem.W.codeIn K cd_Fates_owner "Fates.owner" = true) (k_Fates_owner : PySem.W.keepIn K (.ref f_Fates_owner) = true)
    {f_Fates_fate : Addr} {oc_Fates_fate kV_Fates_fate dc_Fates_fate pm_Fates_fate cd_Fates_fate ct_Fates_fate : Value} {od_Fates_fate an_Fates_fate : Option Addr} {sl_Fates_fate : Array (Option Value)}
    (a_Fates_fate : PySem.W.findIn K (.ref C_Fates) "fate" = some (some (.ref f_Fates_fate))) (i_Fates_fate : PySem.W.isFn K (.ref f_Fates_fate) = true) (l_Fates_fate : K.lookup f_Fates_fate = some ⟨oc_Fates_fate, od_Fates_fate, .func (PySem.W.fnOf "fate" "Fates.fate" (defArgs s_Fates_fate) (defBody s_Fates_fate) (defScope s_Fates_fate) .none kV_Fates_fate dc_Fates_fate pm_Fates_fate an_Fates_fate cd_Fates_fate ct_Fates_fate), sl_Fates_fate⟩) (c_Fates_fate : PySem.W.codeIn K cd_Fates_fate "Fates.fate" = true) (k_Fates_fate : PySem.W.keepIn K (.ref f_Fates_fate) = true)
    {f_Fates_around : Addr} {oc_Fates_around kV_Fates_around dc_Fates_around pm_Fates_around cd_Fates_around ct_Fates_around : Value} {od_Fates_around an_Fates_around : Option Addr} {sl_Fates_around : Array (Option Value)}
    (a_Fates_around : PySem.W.findIn K (.ref C_Fates) "around" = some (some (.ref f_Fates_around))) (i_Fates_around : PySem.W.isFn K (.ref f_Fates_around) = true) (l_Fates_around : K.lookup f_Fates_around = some ⟨oc_Fates_around, od_Fates_around, .func (PySem.W.fnOf "around" "Fates.around" (defArgs s_Fates_around) (defBody s_Fates_around) (defScope s_Fates_around) .none kV_Fates_around dc_Fates_around pm_Fates_around an_Fates_around cd_Fates_around ct_Fates_around), sl_Fates_around⟩) (c_Fates_around : PySem.W.codeIn K cd_Fates_around "Fates.around" = true) (k_Fates_around : PySem.W.keepIn K (.ref f_Fates_around) = true)
    {f_Fates_ended_at : Addr} {oc_Fates_ended_at kV_Fates_ended_at dc_Fates_ended_at pm_Fates_ended_at cd_Fates_ended_at ct_Fates_ended_at : Value} {od_Fates_ended_at an_Fates_ended_at : Option Addr} {sl_Fates_ended_at : Array (Option Value)}
    (a_Fates_ended_at : PySem.W.findIn K (.ref C_Fates) "ended_at" = some (some (.ref f_Fates_ended_at))) (i_Fates_ended_at : PySem.W.isFn K (.ref f_Fates_ended_at) = true) (l_Fates_ended_at : K.lookup f_Fates_ended_at = some ⟨oc_Fates_ended_at, od_Fates_ended_at, .func (PySem.W.fnOf "ended_at" "Fates.ended_at" (defArgs s_Fates_ended_at) (defBody s_Fates_ended_at) (defScope s_Fates_ended_at) .none kV_Fates_ended_at dc_Fates_ended_at pm_Fates_ended_at an_Fates_ended_at cd_Fates_ended_at ct_Fates_ended_at), sl_Fates_ended_at⟩) (c_Fates_ended_at : PySem.W.codeIn K cd_Fates_ended_at "Fates.ended_at" = true) (k_Fates_ended_at : PySem.W.keepIn K (.ref f_Fates_ended_at) = true)
    {f__law_chain_right : Addr} {oc__law_chain_right kV__law_chain_right dc__law_chain_right pm__law_chain_right cd__law_chain_right ct__law_chain_right : Value} {od__law_chain_right an__law_chain_right : Option Addr} {sl__law_chain_right : Array (Option Value)}
    (a__law_chain_right : PySem.W.nsIn K mainGlobals "_law_chain_right" = some (some (.ref f__law_chain_right))) (l__law_chain_right : K.lookup f__law_chain_right = some ⟨oc__law_chain_right, od__law_chain_right, .func (PySem.W.fnOf "_law_chain_right" "_law_chain_right" (defArgs s__law_chain_right) (defBody s__law_chain_right) (defScope s__law_chain_right) .none kV__law_chain_right dc__law_chain_right pm__law_chain_right an__law_chain_right cd__law_chain_right ct__law_chain_right), sl__law_chain_right⟩) (c__law_chain_right : PySem.W.codeIn K cd__law_chain_right "_law_chain_right" = true) (k__law_chain_right : PySem.W.keepIn K (.ref f__law_chain_right) = true)
    {f__law_alive_right : Addr} {oc__law_alive_right kV__law_alive_right dc__law_alive_right pm__law_alive_right cd__law_alive_right ct__law_alive_right : Value} {od__law_alive_right an__law_alive_right : Option Addr} {sl__law_alive_right : Array (Option Value)}
    (a__law_alive_right : PySem.W.nsIn K mainGlobals "_law_alive_right" = some (some (.ref f__law_alive_right))) (l__law_alive_right : K.lookup f__law_alive_right = some ⟨oc__law_alive_right, od__law_alive_right, .func (PySem.W.fnOf "_law_alive_right" "_law_alive_right" (defArgs s__law_alive_right) (defBody s__law_alive_right) (defScope s__law_alive_right) .none kV__law_alive_right dc__law_alive_right pm__law_alive_right an__law_alive_right cd__law_alive_right ct__law_alive_right), sl__law_alive_right⟩) (c__law_alive_right : PySem.W.codeIn K cd__law_alive_right "_law_alive_right" = true) (k__law_alive_right : PySem.W.keepIn K (.ref f__law_alive_right) = true)
    {f__law_roots_right : Addr} {oc__law_roots_right kV__law_roots_right dc__law_roots_right pm__law_roots_right cd__law_roots_right ct__law_roots_right : Value} {od__law_roots_right an__law_roots_right : Option Addr} {sl__law_roots_right : Array (Option Value)}
    (a__law_roots_right : PySem.W.nsIn K mainGlobals "_law_roots_right" = some (some (.ref f__law_roots_right))) (l__law_roots_right : K.lookup f__law_roots_right = some ⟨oc__law_roots_right, od__law_roots_right, .func (PySem.W.fnOf "_law_roots_right" "_law_roots_right" (defArgs s__law_roots_right) (defBody s__law_roots_right) (defScope s__law_roots_right) .none kV__law_roots_right dc__law_roots_right pm__law_roots_right an__law_roots_right cd__law_roots_right ct__law_roots_right), sl__law_roots_right⟩) (c__law_roots_right : PySem.W.codeIn K cd__law_roots_right "_law_roots_right" = true) (k__law_roots_right : PySem.W.keepIn K (.ref f__law_roots_right) = true)
    {f__law_told_of : Addr} {oc__law_told_of kV__law_told_of dc__law_told_of pm__law_told_of cd__law_told_of ct__law_told_of : Value} {od__law_told_of an__law_told_of : Option Addr} {sl__law_told_of : Array (Option Value)}
    (a__law_told_of : PySem.W.nsIn K mainGlobals "_law_told_of" = some (some (.ref f__law_told_of))) (l__law_told_of : K.lookup f__law_told_of = some ⟨oc__law_told_of, od__law_told_of, .func (PySem.W.fnOf "_law_told_of" "_law_told_of" (defArgs s__law_told_of) (defBody s__law_told_of) (defScope s__law_told_of) .none kV__law_told_of dc__law_told_of pm__law_told_of an__law_told_of cd__law_told_of ct__law_told_of), sl__law_told_of⟩) (c__law_told_of : PySem.W.codeIn K cd__law_told_of "_law_told_of" = true) (k__law_told_of : PySem.W.keepIn K (.ref f__law_told_of) = true)
    {f_law : Addr} {oc_law kV_law dc_law pm_law cd_law ct_law : Value} {od_law an_law : Option Addr} {sl_law : Array (Option Value)}
    (a_law : PySem.W.nsIn K mainGlobals "law" = some (some (.ref f_law))) (l_law : K.lookup f_law = some ⟨oc_law, od_law, .func (PySem.W.fnOf "law" "law" (defArgs s_law) (defBody s_law) (defScope s_law) .none kV_law dc_law pm_law an_law cd_law ct_law), sl_law⟩) (c_law : PySem.W.codeIn K cd_law "law" = true) (k_law : PySem.W.keepIn K (.ref f_law) = true)
    (q_cd0 : cd__law_both = .ref cb0) {cbc0 : Value} {cbd0 : Option Addr} {cbv0 : Array Value} {cbs0 : Array (Option Value)} (tb_c0 : K.lookup cb0 = some ⟨cbc0, cbd0, .fields cbv0, cbs0⟩) (tb_v0 : (cbv0[11]? : Option Value) = some (.ref Pt0))
    (tb_h0 : PySem.W.codeHdIn K cb0 Pt0 = true) (tb_n0 : K.lookup Pt0 = none) (tb_t0 : h.get? Pt0 = some tabO)
    
    (n_int : PySem.W.nsIn K mainGlobals "int" = some none) (n_len : PySem.W.nsIn K mainGlobals "len" = some none) (n_isinstance : PySem.W.nsIn K mainGlobals "isinstance" = some none) (n_str : PySem.W.nsIn K mainGlobals "str" = some none) (n_range : PySem.W.nsIn K mainGlobals "range" = some none) (n_max : PySem.W.nsIn K mainGlobals "max" = some none) (n_min : PySem.W.nsIn K mainGlobals "min" = some none) (n_list : PySem.W.nsIn K mainGlobals "list" = some none) (n_repr : PySem.W.nsIn K mainGlobals "repr" = some none) (n_enumerate : PySem.W.nsIn K mainGlobals "enumerate" = some none) (n_tuple : PySem.W.nsIn K mainGlobals "tuple" = some none) (n_sorted : PySem.W.nsIn K mainGlobals "sorted" = some none) (n_bool : PySem.W.nsIn K mainGlobals "bool" = some none) (n_dict : PySem.W.nsIn K mainGlobals "dict" = some none) (n_set : PySem.W.nsIn K mainGlobals "set" = some none) (n_ValueError : PySem.W.nsIn K mainGlobals "ValueError" = some none) :
    ∃ (fd : FuncData) (cs : List (Addr × Addr)) (T : List (Addr × Str)), (∀ p ∈ cs, h.get? p.2 = some tabO) ∧ (∀ p ∈ cs, K.lookup p.2 = none) ∧ (∀ p ∈ cs, PySem.W.CodeHd h p.1 p.2) ∧
        (∀ y ∈ T, ∃ p ∈ cs, p.2 = y.1) ∧ (∀ (s : Shared) (v : Value), BindsTo s fd ⟨[v], []⟩ [("_law_script", v)]) ∧
        ∀ base : Heap, K.In base → base.Ns mainGlobals mg → (∀ p ∈ cs, LamX.TabB base mg p.1 p.2) → FnG P w K mg base CX0 13 fa fd ["_law_script"] (spLawT K T) := by
  have e := hfa.symm.trans (PySem.W.mg_of X G a_law)
  cases e
  subst q_cd0
  have MG : ∀ {x : Str} {v : Value}, PySem.W.nsIn K mainGlobals x = some (some v) → mg x = some v := fun e => PySem.W.mg_of X G e
  have MN : ∀ {x : Str}, PySem.W.nsIn K mainGlobals x = some none → mg x = none := fun e => PySem.W.mg_none_of X G e
  have B : Bl mg := ⟨MN n_int, MN n_len, MN n_isinstance, MN n_str, MN n_range, MN n_max, MN n_min, MN n_list, MN n_repr, MN n_enumerate, MN n_tuple, MN n_sorted, MN n_bool, MN n_dict, MN n_set, MN n_ValueError⟩
  have F_is_whole := fun_mk (st := s_is_whole) l_is_whole c_is_whole k_is_whole
  have b_is_whole := F_is_whole.binds (ps := ["value"]) fun _ _ _ _ _ _ us hl => match us, hl with | [_], _ => rfl
  have F_is_within := fun_mk (st := s_is_within) l_is_within c_is_within k_is_within
  have b_is_within := F_is_within.binds (ps := ["value", "least", "most"]) fun _ _ _ _ _ _ us hl => match us, hl with | [_, _, _], _ => rfl
  have F_Fates__count_operation := fun_mk (st := s_Fates__count_operation) l_Fates__count_operation c_Fates__count_operation k_Fates__count_operation
  have b_Fates__count_operation := F_Fates__count_operation.binds (ps := ["self"]) fun _ _ _ _ _ _ us hl => match us, hl with | [_], _ => rfl
  have F_Fates_is_transaction := fun_mk (st := s_Fates_is_transaction) l_Fates_is_transaction c_Fates_is_transaction k_Fates_is_transaction
  have b_Fates_is_transaction := F_Fates_is_transaction.binds (ps := ["self", "number"]) fun _ _ _ _ _ _ us hl => match us, hl with | [_, _], _ => rfl
  have F_Fates__check_known := fun_mk (st := s_Fates__check_known) l_Fates__check_known c_Fates__check_known k_Fates__check_known
  have b_Fates__check_known := F_Fates__check_known.binds (ps := ["self", "number"]) fun _ _ _ _ _ _ us hl => match us, hl with | [_, _], _ => rfl
  have F_Fates__check_running := fun_mk (st := s_Fates__check_running) l_Fates__check_running c_Fates__check_running k_Fates__check_running
  have b_Fates__check_running := F_Fates__check_running.binds (ps := ["self", "number"]) fun _ _ _ _ _ _ us hl => match us, hl with | [_, _], _ => rfl
  have F_Fates__check_free := fun_mk (st := s_Fates__check_free) l_Fates__check_free c_Fates__check_free k_Fates__check_free
  have b_Fates__check_free := F_Fates__check_free.binds (ps := ["self", "number"]) fun _ _ _ _ _ _ us hl => match us, hl with | [_, _], _ => rfl
  have F_Part___init__ := fun_mk (st := s_Part___init__) l_Part___init__ c_Part___init__ k_Part___init__
  have b_Part___init__ := F_Part___init__.binds (ps := ["self", "holder", "outer"]) fun _ _ _ _ _ _ us hl => match us, hl with | [_, _, _], _ => rfl
  have F_Fates__open_part := fun_mk (st := s_Fates__open_part) l_Fates__open_part c_Fates__open_part k_Fates__open_part
  have b_Fates__open_part := F_Fates__open_part.binds (ps := ["self", "number", "outer"]) fun _ _ _ _ _ _ us hl => match us, hl with | [_, _, _], _ => rfl
  have F_Fates_begin := fun_mk (st := s_Fates_begin) l_Fates_begin c_Fates_begin k_Fates_begin
  have b_Fates_begin := F_Fates_begin.binds (ps := ["self"]) fun _ _ _ _ _ _ us hl => match us, hl with | [_], _ => rfl
  have F_Fates__end_part := fun_mk (st := s_Fates__end_part) l_Fates__end_part c_Fates__end_part k_Fates__end_part
  have b_Fates__end_part := F_Fates__end_part.binds (ps := ["self", "part", "outcome"]) fun _ _ _ _ _ _ us hl => match us, hl with | [_, _, _], _ => rfl
  have F_Fates__take_innermost := fun_mk (st := s_Fates__take_innermost) l_Fates__take_innermost c_Fates__take_innermost k_Fates__take_innermost
  have b_Fates__take_innermost := F_Fates__take_innermost.binds (ps := ["self", "number"]) fun _ _ _ _ _ _ us hl => match us, hl with | [_, _], _ => rfl
  have F_Fates_save := fun_mk (st := s_Fates_save) l_Fates_save c_Fates_save k_Fates_save
  have b_Fates_save := F_Fates_save.binds (ps := ["self", "number"]) fun _ _ _ _ _ _ us hl => match us, hl with | [_, _], _ => rfl
  have F_Fates_release := fun_mk (st := s_Fates_release) l_Fates_release c_Fates_release k_Fates_release
  have b_Fates_release := F_Fates_release.binds (ps := ["self", "number"]) fun _ _ _ _ _ _ us hl => match us, hl with | [_, _], _ => rfl
  have F_Fates_back := fun_mk (st := s_Fates_back) l_Fates_back c_Fates_back k_Fates_back
  have b_Fates_back := F_Fates_back.binds (ps := ["self", "number"]) fun _ _ _ _ _ _ us hl => match us, hl with | [_, _], _ => rfl
  have F_Fates_prepare := fun_mk (st := s_Fates_prepare) l_Fates_prepare c_Fates_prepare k_Fates_prepare
  have b_Fates_prepare := F_Fates_prepare.binds (ps := ["self", "number"]) fun _ _ _ _ _ _ us hl => match us, hl with | [_, _], _ => rfl
  have F_Fates__end_transaction := fun_mk (st := s_Fates__end_transaction) l_Fates__end_transaction c_Fates__end_transaction k_Fates__end_transaction
  have b_Fates__end_transaction := F_Fates__end_transaction.binds (ps := ["self", "number", "state", "outcome"]) fun _ _ _ _ _ _ us hl => match us, hl with | [_, _, _, _], _ => rfl
  have F_Fates_commit := fun_mk (st := s_Fates_commit) l_Fates_commit c_Fates_commit k_Fates_commit
  have b_Fates_commit := F_Fates_commit.binds (ps := ["self", "number"]) fun _ _ _ _ _ _ us hl => match us, hl with | [_, _], _ => rfl
  have F_Fates_abort := fun_mk (st := s_Fates_abort) l_Fates_abort c_Fates_abort k_Fates_abort
  have b_Fates_abort := F_Fates_abort.binds (ps := ["self", "number"]) fun _ _ _ _ _ _ us hl => match us, hl with | [_, _], _ => rfl
  have F_Fates_crash := fun_mk (st := s_Fates_crash) l_Fates_crash c_Fates_crash k_Fates_crash
  have b_Fates_crash := F_Fates_crash.binds (ps := ["self"]) fun _ _ _ _ _ _ us hl => match us, hl with | [_], _ => rfl
  have F_Fates_moment := fun_mk (st := s_Fates_moment) l_Fates_moment c_Fates_moment k_Fates_moment
  have b_Fates_moment := F_Fates_moment.binds (ps := ["self"]) fun _ _ _ _ _ _ us hl => match us, hl with | [_], _ => rfl
  have F_Fates_running := fun_mk (st := s_Fates_running) l_Fates_running c_Fates_running k_Fates_running
  have b_Fates_running := F_Fates_running.binds (ps := ["self"]) fun _ _ _ _ _ _ us hl => match us, hl with | [_], _ => rfl
  have F_Fates_state := fun_mk (st := s_Fates_state) l_Fates_state c_Fates_state k_Fates_state
  have b_Fates_state := F_Fates_state.binds (ps := ["self", "number"]) fun _ _ _ _ _ _ us hl => match us, hl with | [_, _], _ => rfl
  have F_Fates_parts := fun_mk (st := s_Fates_parts) l_Fates_parts c_Fates_parts k_Fates_parts
  have b_Fates_parts := F_Fates_parts.binds (ps := ["self", "number"]) fun _ _ _ _ _ _ us hl => match us, hl with | [_, _], _ => rfl
  have F_Fates___init__ := fun_mk (st := s_Fates___init__) l_Fates___init__ c_Fates___init__ k_Fates___init__
  have b_Fates___init__ := F_Fates___init__.binds (ps := ["self"]) fun _ _ _ _ _ _ us hl => match us, hl with | [_], _ => rfl
  have F__law_world := fun_mk (st := s__law_world) l__law_world c__law_world k__law_world
  have b__law_world := F__law_world.binds (ps := []) fun _ _ _ _ _ _ us hl => match us, hl with | [], _ => rfl
  have F__law_running := fun_mk (st := s__law_running) l__law_running c__law_running k__law_running
  have b__law_running := F__law_running.binds (ps := ["_law_world_here"]) fun _ _ _ _ _ _ us hl => match us, hl with | [_], _ => rfl
  have F__law_over := fun_mk (st := s__law_over) l__law_over c__law_over k__law_over
  have b__law_over := F__law_over.binds (ps := ["_law_world_here", "_law_number", "_law_is_kept"]) fun _ _ _ _ _ _ us hl => match us, hl with | [_, _, _], _ => rfl
  have F__law_opened := fun_mk (st := s__law_opened) l__law_opened c__law_opened k__law_opened
  have b__law_opened := F__law_opened.binds (ps := ["_law_world_here", "_law_number", "_law_around"]) fun _ _ _ _ _ _ us hl => match us, hl with | [_, _, _], _ => rfl
  have F__law_done := fun_mk (st := s__law_done) l__law_done c__law_done k__law_done
  have b__law_done := F__law_done.binds (ps := ["_law_world_here", "_law_word", "_law_number"]) fun _ _ _ _ _ _ us hl => match us, hl with | [_, _, _], _ => rfl
  have F__law_refusal := fun_mk (st := s__law_refusal) l__law_refusal c__law_refusal k__law_refusal
  have b__law_refusal := F__law_refusal.binds (ps := ["_law_world_here", "_law_word", "_law_number"]) fun _ _ _ _ _ _ us hl => match us, hl with | [_, _, _], _ => rfl
  have F__law_pick := fun_mk (st := s__law_pick) l__law_pick c__law_pick k__law_pick
  have b__law_pick := F__law_pick.binds (ps := ["_law_tape_here", "_law_many"]) fun _ _ _ _ _ _ us hl => match us, hl with | [_, _], _ => rfl
  have F__law_one_of := fun_mk (st := s__law_one_of) l__law_one_of c__law_one_of k__law_one_of
  have b__law_one_of := F__law_one_of.binds (ps := ["_law_tape_here", "_law_items"]) fun _ _ _ _ _ _ us hl => match us, hl with | [_, _], _ => rfl
  have F__law_tape := fun_mk (st := s__law_tape) l__law_tape c__law_tape k__law_tape
  have b__law_tape := F__law_tape.binds (ps := ["_law_script", "_law_start"]) fun _ _ _ _ _ _ us hl => match us, hl with | [_, _], _ => rfl
  have F__law_step := fun_mk (st := s__law_step) l__law_step c__law_step k__law_step
  have b__law_step := F__law_step.binds (ps := ["_law_tape_here", "_law_world_here"]) fun _ _ _ _ _ _ us hl => match us, hl with | [_, _], _ => rfl
  have F__law_call := fun_mk (st := s__law_call) l__law_call c__law_call k__law_call
  have b__law_call := F__law_call.binds (ps := ["_law_fates", "_law_word", "_law_number"]) fun _ _ _ _ _ _ us hl => match us, hl with | [_, _, _], _ => rfl
  have F__law_told := fun_mk (st := s__law_told) l__law_told c__law_told k__law_told
  have b__law_told := F__law_told.binds (ps := ["_law_act"]) fun _ _ _ _ _ _ us hl => match us, hl with | [_], _ => rfl
  have F__law_both := fun_mk (st := s__law_both) l__law_both c__law_both k__law_both
  have b__law_both := F__law_both.binds (ps := ["_law_fates", "_law_world_here", "_law_word", "_law_number"]) fun _ _ _ _ _ _ us hl => match us, hl with | [_, _, _, _], _ => rfl
  have F_Fates_is_part := fun_mk (st := s_Fates_is_part) l_Fates_is_part c_Fates_is_part k_Fates_is_part
  have b_Fates_is_part := F_Fates_is_part.binds (ps := ["self", "part"]) fun _ _ _ _ _ _ us hl => match us, hl with | [_, _], _ => rfl
  have F_Fates__check_part := fun_mk (st := s_Fates__check_part) l_Fates__check_part c_Fates__check_part k_Fates__check_part
  have b_Fates__check_part := F_Fates__check_part.binds (ps := ["self", "part"]) fun _ _ _ _ _ _ us hl => match us, hl with | [_, _], _ => rfl
  have F_Fates_transaction := fun_mk (st := s_Fates_transaction) l_Fates_transaction c_Fates_transaction k_Fates_transaction
  have b_Fates_transaction := F_Fates_transaction.binds (ps := ["self", "part"]) fun _ _ _ _ _ _ us hl => match us, hl with | [_, _], _ => rfl
  have F_Fates_root := fun_mk (st := s_Fates_root) l_Fates_root c_Fates_root k_Fates_root
  have b_Fates_root := F_Fates_root.binds (ps := ["self", "part"]) fun _ _ _ _ _ _ us hl => match us, hl with | [_, _], _ => rfl
  have F_Fates_owner := fun_mk (st := s_Fates_owner) l_Fates_owner c_Fates_owner k_Fates_owner
  have b_Fates_owner := F_Fates_owner.binds (ps := ["self", "part"]) fun _ _ _ _ _ _ us hl => match us, hl with | [_, _], _ => rfl
  have F_Fates_fate := fun_mk (st := s_Fates_fate) l_Fates_fate c_Fates_fate k_Fates_fate
  have b_Fates_fate := F_Fates_fate.binds (ps := ["self", "part"]) fun _ _ _ _ _ _ us hl => match us, hl with | [_, _], _ => rfl
  have F_Fates_around := fun_mk (st := s_Fates_around) l_Fates_around c_Fates_around k_Fates_around
  have b_Fates_around := F_Fates_around.binds (ps := ["self", "part"]) fun _ _ _ _ _ _ us hl => match us, hl with | [_, _], _ => rfl
  have F_Fates_ended_at := fun_mk (st := s_Fates_ended_at) l_Fates_ended_at c_Fates_ended_at k_Fates_ended_at
  have b_Fates_ended_at := F_Fates_ended_at.binds (ps := ["self", "part"]) fun _ _ _ _ _ _ us hl => match us, hl with | [_, _], _ => rfl
  have F__law_chain_right := fun_mk (st := s__law_chain_right) l__law_chain_right c__law_chain_right k__law_chain_right
  have b__law_chain_right := F__law_chain_right.binds (ps := ["_law_fates", "_law_number"]) fun _ _ _ _ _ _ us hl => match us, hl with | [_, _], _ => rfl
  have F__law_alive_right := fun_mk (st := s__law_alive_right) l__law_alive_right c__law_alive_right k__law_alive_right
  have b__law_alive_right := F__law_alive_right.binds (ps := ["_law_fates", "_law_chain"]) fun _ _ _ _ _ _ us hl => match us, hl with | [_, _], _ => rfl
  have F__law_roots_right := fun_mk (st := s__law_roots_right) l__law_roots_right c__law_roots_right k__law_roots_right
  have b__law_roots_right := F__law_roots_right.binds (ps := ["_law_fates", "_law_many"]) fun _ _ _ _ _ _ us hl => match us, hl with | [_, _], _ => rfl
  have F__law_told_of := fun_mk (st := s__law_told_of) l__law_told_of c__law_told_of k__law_told_of
  have b__law_told_of := F__law_told_of.binds (ps := ["_law_fates", "_law_number"]) fun _ _ _ _ _ _ us hl => match us, hl with | [_, _], _ => rfl
  have F_law := fun_mk (st := s_law) l_law c_law k_law
  have b_law := F_law.binds (ps := ["_law_script"]) fun _ _ _ _ _ _ us hl => match us, hl with | [_], _ => rfl
  have FCC : FC K C_Fates := ⟨⟨cls_Fates_pg, cls_Fates_hd, cls_Fates_po, cls_Fates_sa⟩, na_Fates_0, na_Fates_1, na_Fates_2, na_Fates_3, na_Fates_4, na_Fates_5⟩
  have PCC : PC K C_Part := ⟨⟨cls_Part_pg, cls_Part_hd, cls_Part_po, cls_Part_sa⟩, na_Part_0, na_Part_1, na_Part_2, na_Part_3, na_Part_4⟩
  have XS : EXC K mg (⟨C_UnknownTransaction, C_Ended, C_Prepared, C_FirstPart, C_StillOpen, C_TooMany, C_UnknownPart⟩ : EA) := exc_mk (M := C_MarkError) (fun k => by
    cases k
    · exact E_UnknownTransaction
    · exact E_Ended
    · exact E_Prepared
    · exact E_FirstPart
    · exact E_StillOpen
    · exact E_TooMany
    · exact E_UnknownPart) hinj hnm
  refine ⟨PySem.W.fnOf "law" "law" (defArgs s_law) (defBody s_law) (defScope s_law) .none kV_law dc_law pm_law an_law cd_law ct_law, [(cb0, Pt0)], [(Pt0, (("_law_both" : Str) ++ ".<locals>.") ++ "<lambda>")], ?_, ?_, ?_, ?_, fun s v => .of_eq rfl, fun base _ _ hTB => ?_⟩
  · intro p hp
    simp only [List.mem_cons, List.not_mem_nil, or_false] at hp
    rcases hp with rfl
    · exact tb_t0
  · intro p hp
    simp only [List.mem_cons, List.not_mem_nil, or_false] at hp
    rcases hp with rfl
    · exact tb_n0
  · intro p hp
    simp only [List.mem_cons, List.not_mem_nil, or_false] at hp
    rcases hp with rfl
    · exact PySem.W.codeHd_of_K X tb_h0
  · intro y hy
    simp only [List.mem_cons, List.not_mem_nil, or_false] at hy
    rcases hy with rfl
    · exact ⟨(cb0, Pt0), (.head _), rfl⟩
  have TB0 : LamX.TabB base mg cb0 Pt0 := hTB (cb0, Pt0) (.head _)
  have hT0 : (Pt0, (("_law_both" : Str) ++ ".<locals>.") ++ "<lambda>") ∈ ([(Pt0, (("_law_both" : Str) ++ ".<locals>.") ++ "<lambda>")] : List (Addr × Str)) := (.head _)
  have huT0 : ∀ y ∈ ([(Pt0, (("_law_both" : Str) ++ ".<locals>.") ++ "<lambda>")] : List (Addr × Str)), y.1 = Pt0 → y.2 = (("_law_both" : Str) ++ ".<locals>.") ++ "<lambda>" := fun y hy e => by
    simp only [List.mem_cons, List.not_mem_nil, or_false] at hy
    rcases hy with rfl
    · rfl
  have m_told := MG a__law_told
  have k_told := k__law_told
  have l_told := l__law_told
  have c_told := c__law_told
  have b_told := b__law_told

  have D_is_whole : Ce P w K mg base CX0 1 "is_whole" ["value"] (fun vs H Q _ => ∃ x d, vs = [x] ∧ Dx K H x d ∧ Q (.bl (isI d)) H) := ⟨_, _, MG a_is_whole, k_is_whole, b_is_whole, ok_whole F_is_whole B⟩
  have D_is_within : Ce P w K mg base CX0 2 "is_within" ["value", "least", "most"] (spWi K) := ⟨_, _, MG a_is_within, k_is_within, b_is_within, ok_within F_is_within (D_is_whole.mono (by decide))⟩
  have M_Fates__count_operation : Cm P w K mg base CX0 1 C_Fates "_count_operation" ["self"] (spCnt C_Fates C_Part []) := ⟨_, _, FCC.cls, ⟨a_Fates__count_operation, i_Fates__count_operation, k_Fates__count_operation⟩, b_Fates__count_operation, ok_count F_Fates__count_operation FCC mo_nil⟩
  have M_Fates_is_transaction : Cm P w K mg base CX0 3 C_Fates "is_transaction" ["self", "number"] (spIsT K C_Fates C_Part [] fun S => S.states.length) := ⟨_, _, FCC.cls, ⟨a_Fates_is_transaction, i_Fates_is_transaction, k_Fates_is_transaction⟩, b_Fates_is_transaction, ok_isT F_Fates_is_transaction B FCC (D_is_within.mono (by decide))⟩
  have M_Fates__check_known : Cm P w K mg base (L2.CX P w) 4 C_Fates "_check_known" ["self", "number"] (spAsk K C_Fates C_Part [] (⟨C_UnknownTransaction, C_Ended, C_Prepared, C_FirstPart, C_StillOpen, C_TooMany, C_UnknownPart⟩ : EA) FS.kn) := ⟨_, _, FCC.cls, ⟨a_Fates__check_known, i_Fates__check_known, k_Fates__check_known⟩, b_Fates__check_known, ok_known F_Fates__check_known mo_nil (M_Fates_is_transaction.mono (by decide)) (E_UnknownTransaction.er base)⟩
  have M_Fates__check_running : Cm P w K mg base (L2.CX P w) 5 C_Fates "_check_running" ["self", "number"] (spAsk K C_Fates C_Part [] (⟨C_UnknownTransaction, C_Ended, C_Prepared, C_FirstPart, C_StillOpen, C_TooMany, C_UnknownPart⟩ : EA) FS.ru) := ⟨_, _, FCC.cls, ⟨a_Fates__check_running, i_Fates__check_running, k_Fates__check_running⟩, b_Fates__check_running, ok_running F_Fates__check_running FCC mo_nil (M_Fates__check_known.mono (by decide)) (E_Ended.er base)⟩
  have M_Fates__check_free : Cm P w K mg base (L2.CX P w) 6 C_Fates "_check_free" ["self", "number"] (spAsk K C_Fates C_Part [] (⟨C_UnknownTransaction, C_Ended, C_Prepared, C_FirstPart, C_StillOpen, C_TooMany, C_UnknownPart⟩ : EA) FS.fr) := ⟨_, _, FCC.cls, ⟨a_Fates__check_free, i_Fates__check_free, k_Fates__check_free⟩, b_Fates__check_free, ok_free F_Fates__check_free FCC mo_nil (M_Fates__check_running.mono (by decide)) (E_Prepared.er base)⟩
  have D_Part : Cn P w K mg base CX0 1 "Part" C_Part ["self", "holder", "outer"] (spPartI C_Part) := ⟨_, _, MG g_Part, ⟨mk_Part, a_Part___init__, i_Part___init__, kp_Part⟩, b_Part___init__, ok_part F_Part___init__ PCC⟩
  have M_Fates__open_part : Cm P w K mg base CX0 3 C_Fates "_open_part" ["self", "number", "outer"] (spOpen C_Fates C_Part []) := ⟨_, _, FCC.cls, ⟨a_Fates__open_part, i_Fates__open_part, k_Fates__open_part⟩, b_Fates__open_part, ok_openp F_Fates__open_part B FCC mo_nil (D_Part.mono (by decide))⟩
  have M_Fates_begin : Cm P w K mg base (L2.CX P w) 5 C_Fates "begin" ["self"] (spBegin C_Fates C_Part [] (⟨C_UnknownTransaction, C_Ended, C_Prepared, C_FirstPart, C_StillOpen, C_TooMany, C_UnknownPart⟩ : EA)) := ⟨_, _, FCC.cls, ⟨a_Fates_begin, i_Fates_begin, k_Fates_begin⟩, b_Fates_begin, ok_begin F_Fates_begin B FCC mo_nil (MG g_RUN) (M_Fates__count_operation.mono (by decide)) (M_Fates__open_part.mono (by decide)) (E_TooMany.er base)⟩
  have M_Fates__end_part : Cm P w K mg base CX0 1 C_Fates "_end_part" ["self", "part", "outcome"] (spEndP C_Fates C_Part []) := ⟨_, _, FCC.cls, ⟨a_Fates__end_part, i_Fates__end_part, k_Fates__end_part⟩, b_Fates__end_part, ok_endp F_Fates__end_part FCC PCC⟩
  have M_Fates__take_innermost : Cm P w K mg base (L2.CX P w) 7 C_Fates "_take_innermost" ["self", "number"] (spNumK K C_Fates C_Part [] (⟨C_UnknownTransaction, C_Ended, C_Prepared, C_FirstPart, C_StillOpen, C_TooMany, C_UnknownPart⟩ : EA) FS.tkE FS.tk fun S i => .int (lastI (S.stacks.getD i []))) := ⟨_, _, FCC.cls, ⟨a_Fates__take_innermost, i_Fates__take_innermost, k_Fates__take_innermost⟩, b_Fates__take_innermost, ok_take F_Fates__take_innermost B FCC mo_nil (M_Fates__check_free.mono (by decide)) (M_Fates__count_operation.mono (by decide)) (E_FirstPart.er base)⟩
  have M_Fates_save : Cm P w K mg base (L2.CX P w) 7 C_Fates "save" ["self", "number"] (spNum K C_Fates C_Part [] (⟨C_UnknownTransaction, C_Ended, C_Prepared, C_FirstPart, C_StillOpen, C_TooMany, C_UnknownPart⟩ : EA) FS.savE FS.sav fun S i => .int ((S.parts.length : Int) + 1)) := ⟨_, _, FCC.cls, ⟨a_Fates_save, i_Fates_save, k_Fates_save⟩, b_Fates_save, ok_save F_Fates_save B FCC mo_nil (MG g_OPEN) (M_Fates__check_free.mono (by decide)) (M_Fates__count_operation.mono (by decide)) (M_Fates__open_part.mono (by decide)) (E_TooMany.er base)⟩
  have M_Fates_release : Cm P w K mg base (L2.CX P w) 8 C_Fates "release" ["self", "number"] (spNum K C_Fates C_Part [] (⟨C_UnknownTransaction, C_Ended, C_Prepared, C_FirstPart, C_StillOpen, C_TooMany, C_UnknownPart⟩ : EA) FS.tkE FS.rel fun _ _ => .non) := ⟨_, _, FCC.cls, ⟨a_Fates_release, i_Fates_release, k_Fates_release⟩, b_Fates_release, ok_release F_Fates_release FCC PCC mo_nil (M_Fates__take_innermost.mono (by decide))⟩
  have M_Fates_back : Cm P w K mg base (L2.CX P w) 8 C_Fates "back" ["self", "number"] (spNum K C_Fates C_Part [] (⟨C_UnknownTransaction, C_Ended, C_Prepared, C_FirstPart, C_StillOpen, C_TooMany, C_UnknownPart⟩ : EA) FS.tkE FS.bak fun _ _ => .non) := ⟨_, _, FCC.cls, ⟨a_Fates_back, i_Fates_back, k_Fates_back⟩, b_Fates_back, ok_back F_Fates_back mo_nil (M_Fates__take_innermost.mono (by decide)) (M_Fates__end_part.mono (by decide))⟩
  have M_Fates_prepare : Cm P w K mg base (L2.CX P w) 7 C_Fates "prepare" ["self", "number"] (spNum K C_Fates C_Part [] (⟨C_UnknownTransaction, C_Ended, C_Prepared, C_FirstPart, C_StillOpen, C_TooMany, C_UnknownPart⟩ : EA) FS.prE FS.prep fun _ _ => .non) := ⟨_, _, FCC.cls, ⟨a_Fates_prepare, i_Fates_prepare, k_Fates_prepare⟩, b_Fates_prepare, ok_prepare F_Fates_prepare B FCC mo_nil (M_Fates__check_free.mono (by decide)) (M_Fates__count_operation.mono (by decide)) (E_StillOpen.er base)⟩
  have M_Fates__end_transaction : Cm P w K mg base CX0 3 C_Fates "_end_transaction" ["self", "number", "state", "outcome"] (spEndT C_Fates C_Part []) := ⟨_, _, FCC.cls, ⟨a_Fates__end_transaction, i_Fates__end_transaction, k_Fates__end_transaction⟩, b_Fates__end_transaction, ok_endt F_Fates__end_transaction FCC mo_nil (M_Fates__end_part.mono (by decide))⟩
  have M_Fates_commit : Cm P w K mg base (L2.CX P w) 6 C_Fates "commit" ["self", "number"] (spNum K C_Fates C_Part [] (⟨C_UnknownTransaction, C_Ended, C_Prepared, C_FirstPart, C_StillOpen, C_TooMany, C_UnknownPart⟩ : EA) FS.ru FS.com fun _ _ => .non) := ⟨_, _, FCC.cls, ⟨a_Fates_commit, i_Fates_commit, k_Fates_commit⟩, b_Fates_commit, ok_commit F_Fates_commit FCC mo_nil (M_Fates__check_running.mono (by decide)) (M_Fates__count_operation.mono (by decide)) (M_Fates__end_transaction.mono (by decide))⟩
  have M_Fates_abort : Cm P w K mg base (L2.CX P w) 6 C_Fates "abort" ["self", "number"] (spNum K C_Fates C_Part [] (⟨C_UnknownTransaction, C_Ended, C_Prepared, C_FirstPart, C_StillOpen, C_TooMany, C_UnknownPart⟩ : EA) FS.ru FS.abo fun _ _ => .non) := ⟨_, _, FCC.cls, ⟨a_Fates_abort, i_Fates_abort, k_Fates_abort⟩, b_Fates_abort, ok_abort F_Fates_abort FCC mo_nil (M_Fates__check_running.mono (by decide)) (M_Fates__count_operation.mono (by decide)) (M_Fates__end_transaction.mono (by decide))⟩
  have M_Fates_crash : Cm P w K mg base CX0 5 C_Fates "crash" ["self"] (spCrash C_Fates C_Part []) := ⟨_, _, FCC.cls, ⟨a_Fates_crash, i_Fates_crash, k_Fates_crash⟩, b_Fates_crash, ok_crash F_Fates_crash FCC mo_nil (M_Fates__count_operation.mono (by decide)) (M_Fates__end_transaction.mono (by decide))⟩
  have M_Fates_moment : Cm P w K mg base CX0 1 C_Fates "moment" ["self"] (spGet C_Fates C_Part [] fun S => .int S.moment) := ⟨_, _, FCC.cls, ⟨a_Fates_moment, i_Fates_moment, k_Fates_moment⟩, b_Fates_moment, ok_moment F_Fates_moment FCC⟩
  have M_Fates_running : Cm P w K mg base CX0 1 C_Fates "running" ["self"] (spGetL C_Fates C_Part [] fun S => S.work) := ⟨_, _, FCC.cls, ⟨a_Fates_running, i_Fates_running, k_Fates_running⟩, b_Fates_running, ok_runlist F_Fates_running B FCC⟩
  have M_Fates_state : Cm P w K mg base (L2.CX P w) 5 C_Fates "state" ["self", "number"] (spGetN K C_Fates C_Part [] (⟨C_UnknownTransaction, C_Ended, C_Prepared, C_FirstPart, C_StillOpen, C_TooMany, C_UnknownPart⟩ : EA) qSt) := ⟨_, _, FCC.cls, ⟨a_Fates_state, i_Fates_state, k_Fates_state⟩, b_Fates_state, ok_state F_Fates_state FCC mo_nil (M_Fates__check_known.mono (by decide))⟩
  have M_Fates_parts : Cm P w K mg base (L2.CX P w) 5 C_Fates "parts" ["self", "number"] (spGetN K C_Fates C_Part [] (⟨C_UnknownTransaction, C_Ended, C_Prepared, C_FirstPart, C_StillOpen, C_TooMany, C_UnknownPart⟩ : EA) qPt) := ⟨_, _, FCC.cls, ⟨a_Fates_parts, i_Fates_parts, k_Fates_parts⟩, b_Fates_parts, ok_parts F_Fates_parts B FCC mo_nil (M_Fates__check_known.mono (by decide))⟩
  have D_Fates : Cn P w K mg base CX0 1 "Fates" C_Fates ["self"] (spFInit C_Fates C_Part) := ⟨_, _, MG g_Fates, ⟨mk_Fates, a_Fates___init__, i_Fates___init__, kp_Fates⟩, b_Fates___init__, ok_finit F_Fates___init__ FCC⟩
  have D__law_world : Ce P w K mg base CX0 1 "_law_world" [] spWorld := ⟨_, _, MG a__law_world, k__law_world, b__law_world, ok_world F__law_world⟩
  have D__law_running : Ce P w K mg base CX0 1 "_law_running" ["_law_world_here"] spRunW := ⟨_, _, MG a__law_running, k__law_running, b__law_running, ok_runW F__law_running B⟩
  have D__law_over : Ce P w K mg base CX0 1 "_law_over" ["_law_world_here", "_law_number", "_law_is_kept"] spOver := ⟨_, _, MG a__law_over, k__law_over, b__law_over, ok_over F__law_over B⟩
  have D__law_opened : Ce P w K mg base CX0 1 "_law_opened" ["_law_world_here", "_law_number", "_law_around"] spOpened := ⟨_, _, MG a__law_opened, k__law_opened, b__law_opened, ok_opened F__law_opened B⟩
  have D__law_done : Ce P w K mg base CX0 2 "_law_done" ["_law_world_here", "_law_word", "_law_number"] spDone := ⟨_, _, MG a__law_done, k__law_done, b__law_done, ok_done F__law_done B (D__law_opened.mono (by decide)) (D__law_over.mono (by decide))⟩
  have D__law_refusal : Ce P w K mg base CX0 2 "_law_refusal" ["_law_world_here", "_law_word", "_law_number"] (spRefu K) := ⟨_, _, MG a__law_refusal, k__law_refusal, b__law_refusal, ok_refu F__law_refusal B (D__law_running.mono (by decide))⟩
  have D__law_pick : Ce P w K mg base CX0 1 "_law_pick" ["_law_tape_here", "_law_many"] spPick := ⟨_, _, MG a__law_pick, k__law_pick, b__law_pick, ok_pick F__law_pick B⟩
  have D__law_one_of : Ce P w K mg base CX0 2 "_law_one_of" ["_law_tape_here", "_law_items"] (spOne K) := ⟨_, _, MG a__law_one_of, k__law_one_of, b__law_one_of, ok_one F__law_one_of B (D__law_pick.mono (by decide))⟩
  have D__law_tape : Ce P w K mg base CX0 1 "_law_tape" ["_law_script", "_law_start"] (spTape K) := ⟨_, _, MG a__law_tape, k__law_tape, b__law_tape, ok_tape F__law_tape B⟩
  have D__law_step : Ce P w K mg base CX0 3 "_law_step" ["_law_tape_here", "_law_world_here"] spStep := ⟨_, _, MG a__law_step, k__law_step, b__law_step, ok_step F__law_step B (D__law_pick.mono (by decide)) (D__law_one_of.mono (by decide)) (D__law_running.mono (by decide))⟩
  have D__law_call : Ce P w K mg base (L2.CX P w) 9 "_law_call" ["_law_fates", "_law_word", "_law_number"] (spCallW K C_Fates C_Part [] (⟨C_UnknownTransaction, C_Ended, C_Prepared, C_FirstPart, C_StillOpen, C_TooMany, C_UnknownPart⟩ : EA)) := ⟨_, _, MG a__law_call, k__law_call, b__law_call, ok_call F__law_call mo_nil (M_Fates_begin.mono (by decide)) (M_Fates_crash.mono (by decide)) (M_Fates_save.mono (by decide)) (M_Fates_release.mono (by decide)) (M_Fates_back.mono (by decide)) (M_Fates_prepare.mono (by decide)) (M_Fates_commit.mono (by decide)) (M_Fates_abort.mono (by decide))⟩
  have D__law_both : Ce P w K mg base CX0 12 "_law_both" ["_law_fates", "_law_world_here", "_law_word", "_law_number"] (spBoth K C_Fates C_Part [] ([(Pt0, (("_law_both" : Str) ++ ".<locals>.") ++ "<lambda>")] : List (Addr × Str))) := ⟨_, _, MG a__law_both, k__law_both, b__law_both, ok_both l__law_both c__law_both TB0 hT0 huT0 B XS m_told k_told l_told c_told b_told (D__law_refusal.mono (by decide)) (D__law_call.mono (by decide)) (D__law_done.mono (by decide))⟩
  have M_Fates_is_part : Cm P w K mg base CX0 3 C_Fates "is_part" ["self", "part"] (spIsT K C_Fates C_Part [] fun S => S.parts.length) := ⟨_, _, FCC.cls, ⟨a_Fates_is_part, i_Fates_is_part, k_Fates_is_part⟩, b_Fates_is_part, ok_isP F_Fates_is_part B FCC (D_is_within.mono (by decide))⟩
  have M_Fates__check_part : Cm P w K mg base (L2.CX P w) 4 C_Fates "_check_part" ["self", "part"] (spAsk K C_Fates C_Part [] (⟨C_UnknownTransaction, C_Ended, C_Prepared, C_FirstPart, C_StillOpen, C_TooMany, C_UnknownPart⟩ : EA) FS.kp) := ⟨_, _, FCC.cls, ⟨a_Fates__check_part, i_Fates__check_part, k_Fates__check_part⟩, b_Fates__check_part, ok_checkpart F_Fates__check_part mo_nil (M_Fates_is_part.mono (by decide)) (E_UnknownPart.er base)⟩
  have M_Fates_transaction : Cm P w K mg base (L2.CX P w) 5 C_Fates "transaction" ["self", "part"] (spPt K C_Fates C_Part [] (⟨C_UnknownTransaction, C_Ended, C_Prepared, C_FirstPart, C_StillOpen, C_TooMany, C_UnknownPart⟩ : EA) fun S q => .int ((S.parts[(q - 1).toNat]?).map PI.holder |>.getD 0)) := ⟨_, _, FCC.cls, ⟨a_Fates_transaction, i_Fates_transaction, k_Fates_transaction⟩, b_Fates_transaction, ok_transaction F_Fates_transaction FCC PCC mo_nil (M_Fates__check_part.mono (by decide))⟩
  have M_Fates_root : Cm P w K mg base (L2.CX P w) 5 C_Fates "root" ["self", "part"] (spPt K C_Fates C_Part [] (⟨C_UnknownTransaction, C_Ended, C_Prepared, C_FirstPart, C_StillOpen, C_TooMany, C_UnknownPart⟩ : EA) fun S q => .int (S.root q)) := ⟨_, _, FCC.cls, ⟨a_Fates_root, i_Fates_root, k_Fates_root⟩, b_Fates_root, ok_root F_Fates_root FCC PCC mo_nil (M_Fates__check_part.mono (by decide))⟩
  have M_Fates_owner : Cm P w K mg base (L2.CX P w) 6 C_Fates "owner" ["self", "part"] (spPt K C_Fates C_Part [] (⟨C_UnknownTransaction, C_Ended, C_Prepared, C_FirstPart, C_StillOpen, C_TooMany, C_UnknownPart⟩ : EA) fun S q => if S.out (S.root q) = "open" then .int (S.root q) else .non) := ⟨_, _, FCC.cls, ⟨a_Fates_owner, i_Fates_owner, k_Fates_owner⟩, b_Fates_owner, ok_owner F_Fates_owner FCC PCC mo_nil (M_Fates_root.mono (by decide))⟩
  have M_Fates_fate : Cm P w K mg base (L2.CX P w) 6 C_Fates "fate" ["self", "part"] (spPt K C_Fates C_Part [] (⟨C_UnknownTransaction, C_Ended, C_Prepared, C_FirstPart, C_StillOpen, C_TooMany, C_UnknownPart⟩ : EA) fun S q => .str (S.out (S.root q))) := ⟨_, _, FCC.cls, ⟨a_Fates_fate, i_Fates_fate, k_Fates_fate⟩, b_Fates_fate, ok_fate F_Fates_fate FCC PCC mo_nil (M_Fates_root.mono (by decide))⟩
  have M_Fates_around : Cm P w K mg base (L2.CX P w) 5 C_Fates "around" ["self", "part"] (spPt K C_Fates C_Part [] (⟨C_UnknownTransaction, C_Ended, C_Prepared, C_FirstPart, C_StillOpen, C_TooMany, C_UnknownPart⟩ : EA) fun S q => oI ((S.parts[(q - 1).toNat]?).bind PI.outer)) := ⟨_, _, FCC.cls, ⟨a_Fates_around, i_Fates_around, k_Fates_around⟩, b_Fates_around, ok_around F_Fates_around FCC PCC mo_nil (M_Fates__check_part.mono (by decide))⟩
  have M_Fates_ended_at : Cm P w K mg base (L2.CX P w) 6 C_Fates "ended_at" ["self", "part"] (spPt K C_Fates C_Part [] (⟨C_UnknownTransaction, C_Ended, C_Prepared, C_FirstPart, C_StillOpen, C_TooMany, C_UnknownPart⟩ : EA) fun S q => oI ((S.parts[(S.root q - 1).toNat]?).bind PI.ended)) := ⟨_, _, FCC.cls, ⟨a_Fates_ended_at, i_Fates_ended_at, k_Fates_ended_at⟩, b_Fates_ended_at, ok_ended F_Fates_ended_at FCC PCC mo_nil (M_Fates_root.mono (by decide))⟩
  have D__law_chain_right : Ce P w K mg base CX0 9 "_law_chain_right" ["_law_fates", "_law_number"] (spChain C_Fates C_Part []) := ⟨_, _, MG a__law_chain_right, k__law_chain_right, b__law_chain_right, ok_chain F__law_chain_right B mo_nil (M_Fates_parts.mono (by decide)) (M_Fates_root.mono (by decide)) (M_Fates_owner.mono (by decide)) (M_Fates_transaction.mono (by decide)) (M_Fates_around.mono (by decide))⟩
  have D__law_alive_right : Ce P w K mg base CX0 9 "_law_alive_right" ["_law_fates", "_law_chain"] (spAlive C_Fates C_Part []) := ⟨_, _, MG a__law_alive_right, k__law_alive_right, b__law_alive_right, ok_alive F__law_alive_right B mo_nil (M_Fates_owner.mono (by decide))⟩
  have D__law_roots_right : Ce P w K mg base CX0 9 "_law_roots_right" ["_law_fates", "_law_many"] (spRoots C_Fates C_Part []) := ⟨_, _, MG a__law_roots_right, k__law_roots_right, b__law_roots_right, ok_roots F__law_roots_right B mo_nil (M_Fates_root.mono (by decide)) (M_Fates_fate.mono (by decide)) (M_Fates_transaction.mono (by decide)) (M_Fates_ended_at.mono (by decide))⟩
  have D__law_told_of : Ce P w K mg base CX0 9 "_law_told_of" ["_law_fates", "_law_number"] (spToldOf C_Fates C_Part []) := ⟨_, _, MG a__law_told_of, k__law_told_of, b__law_told_of, ok_toldOf F__law_told_of B mo_nil (M_Fates_state.mono (by decide)) (M_Fates_parts.mono (by decide))⟩
  exact ok_law F_law B (D__law_tape.mono (by decide)) (D_Fates.mono (by decide)) (D__law_world.mono (by decide)) (D__law_step.mono (by decide)) (D__law_both.mono (by decide)) (D__law_told_of.mono (by decide)) (D__law_chain_right.mono (by decide)) (D__law_alive_right.mono (by decide)) (D__law_roots_right.mono (by decide)) (M_Fates_running.mono (by decide)) (M_Fates_parts.mono (by decide)) (M_Fates_owner.mono (by decide)) (M_Fates_fate.mono (by decide)) (M_Fates_ended_at.mono (by decide))
end K08
open PySem PySem.W PyProof.Rows
set_option maxRecDepth 100000 in
set_option maxHeartbeats 0 in
theorem PySem.Challenge.cw_rowmarks_k08_whole_what_is_alive_of_a_tr_holds : PySem.Challenge.rw_rowmarks_k08_whole_what_is_alive_of_a_tr.Holds := by
  w_on; o_law; k_head; (case hw => w_witness2)
  k_fill
  refine Rm.walkT (l := PySem.Challenge.rw_rowmarks_k08_whole_what_is_alive_of_a_tr) (k := 13) rfl rfl ⟨rfl, by decide, by decide⟩ (fun w h Y => PySem.W.km_in_of Y) ?F
  case F =>
    intro w mg fa h Y KX G hmg
    have hT := PySem.W.km_tabs_of Y
    refine' K08.all_mk (P := PySem.Challenge.pw_rowmarks_k08_whole_what_is_alive_of_a_tr) KX G hmg ?E_UnknownTransaction ?E_Ended ?E_Prepared ?E_FirstPart ?E_StillOpen ?E_TooMany ?E_UnknownPart ?hinj ?hnm ?g_Fates ?cls_Fates_pg ?cls_Fates_hd ?cls_Fates_po ?cls_Fates_sa ?mk_Fates ?kp_Fates ?na_Fates_0 ?na_Fates_1 ?na_Fates_2 ?na_Fates_3 ?na_Fates_4 ?na_Fates_5 ?g_Part ?cls_Part_pg ?cls_Part_hd ?cls_Part_po ?cls_Part_sa ?mk_Part ?kp_Part ?na_Part_0 ?na_Part_1 ?na_Part_2 ?na_Part_3 ?na_Part_4 ?g_RUN ?g_OPEN
      ?a_is_whole ?l_is_whole ?c_is_whole ?k_is_whole ?a_is_within ?l_is_within ?c_is_within ?k_is_within ?a_Fates__count_operation ?i_Fates__count_operation ?l_Fates__count_operation ?c_Fates__count_operation ?k_Fates__count_operation ?a_Fates_is_transaction ?i_Fates_is_transaction ?l_Fates_is_transaction ?c_Fates_is_transaction ?k_Fates_is_transaction ?a_Fates__check_known ?i_Fates__check_known ?l_Fates__check_known ?c_Fates__check_known ?k_Fates__check_known ?a_Fates__check_running ?i_Fates__check_running ?l_Fates__check_running ?c_Fates__check_running ?k_Fates__check_running ?a_Fates__check_free ?i_Fates__check_free ?l_Fates__check_free ?c_Fates__check_free ?k_Fates__check_free ?a_Part___init__ ?i_Part___init__ ?l_Part___init__ ?c_Part___init__ ?k_Part___init__ ?a_Fates__open_part ?i_Fates__open_part ?l_Fates__open_part ?c_Fates__open_part ?k_Fates__open_part ?a_Fates_begin ?i_Fates_begin ?l_Fates_begin ?c_Fates_begin ?k_Fates_begin ?a_Fates__end_part ?i_Fates__end_part ?l_Fates__end_part ?c_Fates__end_part ?k_Fates__end_part ?a_Fates__take_innermost ?i_Fates__take_innermost ?l_Fates__take_innermost ?c_Fates__take_innermost ?k_Fates__take_innermost ?a_Fates_save ?i_Fates_save ?l_Fates_save ?c_Fates_save ?k_Fates_save ?a_Fates_release ?i_Fates_release ?l_Fates_release ?c_Fates_release ?k_Fates_release ?a_Fates_back ?i_Fates_back ?l_Fates_back ?c_Fates_back ?k_Fates_back ?a_Fates_prepare ?i_Fates_prepare ?l_Fates_prepare ?c_Fates_prepare ?k_Fates_prepare ?a_Fates__end_transaction ?i_Fates__end_transaction ?l_Fates__end_transaction ?c_Fates__end_transaction ?k_Fates__end_transaction ?a_Fates_commit ?i_Fates_commit ?l_Fates_commit ?c_Fates_commit ?k_Fates_commit ?a_Fates_abort ?i_Fates_abort ?l_Fates_abort ?c_Fates_abort ?k_Fates_abort ?a_Fates_crash ?i_Fates_crash ?l_Fates_crash ?c_Fates_crash ?k_Fates_crash ?a_Fates_moment ?i_Fates_moment ?l_Fates_moment ?c_Fates_moment ?k_Fates_moment ?a_Fates_running ?i_Fates_running ?l_Fates_running ?c_Fates_running ?k_Fates_running ?a_Fates_state ?i_Fates_state ?l_Fates_state ?c_Fates_state ?k_Fates_state ?a_Fates_parts ?i_Fates_parts ?l_Fates_parts ?c_Fates_parts ?k_Fates_parts ?a_Fates___init__ ?i_Fates___init__ ?l_Fates___init__ ?c_Fates___init__ ?k_Fates___init__ ?a__law_world ?l__law_world ?c__law_world ?k__law_world ?a__law_running ?l__law_running ?c__law_running ?k__law_running ?a__law_over ?l__law_over ?c__law_over ?k__law_over ?a__law_opened ?l__law_opened ?c__law_opened ?k__law_opened ?a__law_done ?l__law_done ?c__law_done ?k__law_done ?a__law_refusal ?l__law_refusal ?c__law_refusal ?k__law_refusal ?a__law_pick ?l__law_pick ?c__law_pick ?k__law_pick ?a__law_one_of ?l__law_one_of ?c__law_one_of ?k__law_one_of ?a__law_tape ?l__law_tape ?c__law_tape ?k__law_tape ?a__law_step ?l__law_step ?c__law_step ?k__law_step ?a__law_call ?l__law_call ?c__law_call ?k__law_call ?a__law_told ?l__law_told ?c__law_told ?k__law_told ?a__law_both ?l__law_both ?c__law_both ?k__law_both ?a_Fates_is_part ?i_Fates_is_part ?l_Fates_is_part ?c_Fates_is_part ?k_Fates_is_part ?a_Fates__check_part ?i_Fates__check_part ?l_Fates__check_part ?c_Fates__check_part ?k_Fates__check_part ?a_Fates_transaction ?i_Fates_transaction ?l_Fates_transaction ?c_Fates_transaction ?k_Fates_transaction ?a_Fates_root ?i_Fates_root ?l_Fates_root ?c_Fates_root ?k_Fates_root ?a_Fates_owner ?i_Fates_owner ?l_Fates_owner ?c_Fates_owner ?k_Fates_owner ?a_Fates_fate ?i_Fates_fate ?l_Fates_fate ?c_Fates_fate ?k_Fates_fate ?a_Fates_around ?i_Fates_around ?l_Fates_around ?c_Fates_around ?k_Fates_around ?a_Fates_ended_at ?i_Fates_ended_at ?l_Fates_ended_at ?c_Fates_ended_at ?k_Fates_ended_at ?a__law_chain_right ?l__law_chain_right ?c__law_chain_right ?k__law_chain_right ?a__law_alive_right ?l__law_alive_right ?c__law_alive_right ?k__law_alive_right ?a__law_roots_right ?l__law_roots_right ?c__law_roots_right ?k__law_roots_right ?a__law_told_of ?l__law_told_of ?c__law_told_of ?k__law_told_of ?a_law ?l_law ?c_law ?k_law ?q_cd0 ?tb_c0 ?tb_v0 ?tb_h0 ?tb_n0 ?tb_t0  ?n_int ?n_len ?n_isinstance ?n_str ?n_range ?n_max ?n_min ?n_list ?n_repr ?n_enumerate ?n_tuple ?n_sorted ?n_bool ?n_dict ?n_set ?n_ValueError
    (case E_UnknownTransaction =>
      refine' Rm.ef_mk (st := K08.s_UnknownTransaction___init__) KX G ?e_g ?e_l ?e_v ?e_t ?e_sa ?e_ga ?e_gg ?e_ex ?e_ty ?e_k ?e_hd ?e_no ?e_sub ?e_self ?e_sup ?e_any ?e_ha ?e_hn ?e_ht ?e_hm ?e_i ?e_it ?e_f ?e_c ?e_cd ?e_fi ?e_pf ?e_cc ?e_df ?htop ?n_super ?hb1 ?hb2 ?hfn
      (case e_g => k_is)
      (case e_l => k_is)
      (case e_v => decide +kernel)
      (case e_t => first | rfl | decide +kernel)
      (case e_sa => k_is)
      (case e_ga => k_is)
      (case e_gg => k_is)
      (case e_ex => k_is)
      (case e_ty => k_is)
      (case e_k => k_is)
      (case e_hd => k_is)
      (case e_no => k_is)
      (case e_sub => k_is)
      (case e_self => k_is)
      (case e_sup => ks_is)
      (case e_any => k_is)
      (case e_ha => k_is)
      (case e_hn => k_is)
      (case e_ht => k_is)
      (case e_hm => k_is)
      (case e_i => k_is)
      (case e_it => k_is)
      (case e_f => k_is)
      (case e_c => k_is)
      (case e_cd => k_is)
      (case e_fi => rfl)
      (case e_pf => first | rfl | decide +kernel)
      (case e_cc => k_is)
      (case e_df => rfl)
      (case htop => first | rfl | decide +kernel)
      (case n_super => k_is)
      (case hb1 => exact fun _ _ => .all fun us hl => match us, hl with | [_, _], _ => rfl)
      (case hb2 => exact ⟨fun s us w h => match us, h with | [_], _ => .of_eq rfl⟩)
      (case hfn => exact fun base ns T => Rm.fn_err (ars := []) T rfl rfl rfl rfl rfl rfl rfl ns (by first | rfl | decide +kernel) (by decide +kernel) (by decide +kernel) (by decide +kernel) (by decide +kernel) (pl := _) (fun env => rfl) (by decide +kernel) (by decide +kernel)))
    (case E_Ended =>
      refine' Rm.ef_mk (st := K08.s_Ended___init__) KX G ?e_g ?e_l ?e_v ?e_t ?e_sa ?e_ga ?e_gg ?e_ex ?e_ty ?e_k ?e_hd ?e_no ?e_sub ?e_self ?e_sup ?e_any ?e_ha ?e_hn ?e_ht ?e_hm ?e_i ?e_it ?e_f ?e_c ?e_cd ?e_fi ?e_pf ?e_cc ?e_df ?htop ?n_super ?hb1 ?hb2 ?hfn
      (case e_g => k_is)
      (case e_l => k_is)
      (case e_v => decide +kernel)
      (case e_t => first | rfl | decide +kernel)
      (case e_sa => k_is)
      (case e_ga => k_is)
      (case e_gg => k_is)
      (case e_ex => k_is)
      (case e_ty => k_is)
      (case e_k => k_is)
      (case e_hd => k_is)
      (case e_no => k_is)
      (case e_sub => k_is)
      (case e_self => k_is)
      (case e_sup => ks_is)
      (case e_any => k_is)
      (case e_ha => k_is)
      (case e_hn => k_is)
      (case e_ht => k_is)
      (case e_hm => k_is)
      (case e_i => k_is)
      (case e_it => k_is)
      (case e_f => k_is)
      (case e_c => k_is)
      (case e_cd => k_is)
      (case e_fi => rfl)
      (case e_pf => first | rfl | decide +kernel)
      (case e_cc => k_is)
      (case e_df => rfl)
      (case htop => first | rfl | decide +kernel)
      (case n_super => k_is)
      (case hb1 => exact fun _ _ => .all fun us hl => match us, hl with | [_, _], _ => rfl)
      (case hb2 => exact ⟨fun s us w h => match us, h with | [_], _ => .of_eq rfl⟩)
      (case hfn => exact fun base ns T => Rm.fn_err (ars := []) T rfl rfl rfl rfl rfl rfl rfl ns (by first | rfl | decide +kernel) (by decide +kernel) (by decide +kernel) (by decide +kernel) (by decide +kernel) (pl := _) (fun env => rfl) (by decide +kernel) (by decide +kernel)))
    (case E_Prepared =>
      refine' Rm.ef_mk (st := K08.s_Prepared___init__) KX G ?e_g ?e_l ?e_v ?e_t ?e_sa ?e_ga ?e_gg ?e_ex ?e_ty ?e_k ?e_hd ?e_no ?e_sub ?e_self ?e_sup ?e_any ?e_ha ?e_hn ?e_ht ?e_hm ?e_i ?e_it ?e_f ?e_c ?e_cd ?e_fi ?e_pf ?e_cc ?e_df ?htop ?n_super ?hb1 ?hb2 ?hfn
      (case e_g => k_is)
      (case e_l => k_is)
      (case e_v => decide +kernel)
      (case e_t => first | rfl | decide +kernel)
      (case e_sa => k_is)
      (case e_ga => k_is)
      (case e_gg => k_is)
      (case e_ex => k_is)
      (case e_ty => k_is)
      (case e_k => k_is)
      (case e_hd => k_is)
      (case e_no => k_is)
      (case e_sub => k_is)
      (case e_self => k_is)
      (case e_sup => ks_is)
      (case e_any => k_is)
      (case e_ha => k_is)
      (case e_hn => k_is)
      (case e_ht => k_is)
      (case e_hm => k_is)
      (case e_i => k_is)
      (case e_it => k_is)
      (case e_f => k_is)
      (case e_c => k_is)
      (case e_cd => k_is)
      (case e_fi => rfl)
      (case e_pf => first | rfl | decide +kernel)
      (case e_cc => k_is)
      (case e_df => rfl)
      (case htop => first | rfl | decide +kernel)
      (case n_super => k_is)
      (case hb1 => exact fun _ _ => .all fun us hl => match us, hl with | [_, _], _ => rfl)
      (case hb2 => exact ⟨fun s us w h => match us, h with | [_], _ => .of_eq rfl⟩)
      (case hfn => exact fun base ns T => Rm.fn_err (ars := []) T rfl rfl rfl rfl rfl rfl rfl ns (by first | rfl | decide +kernel) (by decide +kernel) (by decide +kernel) (by decide +kernel) (by decide +kernel) (pl := _) (fun env => rfl) (by decide +kernel) (by decide +kernel)))
    (case E_FirstPart =>
      refine' Rm.ef_mk (st := K08.s_FirstPart___init__) KX G ?e_g ?e_l ?e_v ?e_t ?e_sa ?e_ga ?e_gg ?e_ex ?e_ty ?e_k ?e_hd ?e_no ?e_sub ?e_self ?e_sup ?e_any ?e_ha ?e_hn ?e_ht ?e_hm ?e_i ?e_it ?e_f ?e_c ?e_cd ?e_fi ?e_pf ?e_cc ?e_df ?htop ?n_super ?hb1 ?hb2 ?hfn
      (case e_g => k_is)
      (case e_l => k_is)
      (case e_v => decide +kernel)
      (case e_t => first | rfl | decide +kernel)
      (case e_sa => k_is)
      (case e_ga => k_is)
      (case e_gg => k_is)
      (case e_ex => k_is)
      (case e_ty => k_is)
      (case e_k => k_is)
      (case e_hd => k_is)
      (case e_no => k_is)
      (case e_sub => k_is)
      (case e_self => k_is)
      (case e_sup => ks_is)
      (case e_any => k_is)
      (case e_ha => k_is)
      (case e_hn => k_is)
      (case e_ht => k_is)
      (case e_hm => k_is)
      (case e_i => k_is)
      (case e_it => k_is)
      (case e_f => k_is)
      (case e_c => k_is)
      (case e_cd => k_is)
      (case e_fi => rfl)
      (case e_pf => first | rfl | decide +kernel)
      (case e_cc => k_is)
      (case e_df => rfl)
      (case htop => first | rfl | decide +kernel)
      (case n_super => k_is)
      (case hb1 => exact fun _ _ => .all fun us hl => match us, hl with | [_, _], _ => rfl)
      (case hb2 => exact ⟨fun s us w h => match us, h with | [_], _ => .of_eq rfl⟩)
      (case hfn => exact fun base ns T => Rm.fn_err (ars := []) T rfl rfl rfl rfl rfl rfl rfl ns (by first | rfl | decide +kernel) (by decide +kernel) (by decide +kernel) (by decide +kernel) (by decide +kernel) (pl := _) (fun env => rfl) (by decide +kernel) (by decide +kernel)))
    (case E_StillOpen =>
      refine' Rm.ef_mk (st := K08.s_StillOpen___init__) KX G ?e_g ?e_l ?e_v ?e_t ?e_sa ?e_ga ?e_gg ?e_ex ?e_ty ?e_k ?e_hd ?e_no ?e_sub ?e_self ?e_sup ?e_any ?e_ha ?e_hn ?e_ht ?e_hm ?e_i ?e_it ?e_f ?e_c ?e_cd ?e_fi ?e_pf ?e_cc ?e_df ?htop ?n_super ?hb1 ?hb2 ?hfn
      (case e_g => k_is)
      (case e_l => k_is)
      (case e_v => decide +kernel)
      (case e_t => first | rfl | decide +kernel)
      (case e_sa => k_is)
      (case e_ga => k_is)
      (case e_gg => k_is)
      (case e_ex => k_is)
      (case e_ty => k_is)
      (case e_k => k_is)
      (case e_hd => k_is)
      (case e_no => k_is)
      (case e_sub => k_is)
      (case e_self => k_is)
      (case e_sup => ks_is)
      (case e_any => k_is)
      (case e_ha => k_is)
      (case e_hn => k_is)
      (case e_ht => k_is)
      (case e_hm => k_is)
      (case e_i => k_is)
      (case e_it => k_is)
      (case e_f => k_is)
      (case e_c => k_is)
      (case e_cd => k_is)
      (case e_fi => rfl)
      (case e_pf => first | rfl | decide +kernel)
      (case e_cc => k_is)
      (case e_df => rfl)
      (case htop => first | rfl | decide +kernel)
      (case n_super => k_is)
      (case hb1 => exact fun _ _ => .all fun us hl => match us, hl with | [_, _], _ => rfl)
      (case hb2 => exact ⟨fun s us w h => match us, h with | [_], _ => .of_eq rfl⟩)
      (case hfn => exact fun base ns T => Rm.fn_err (ars := []) T rfl rfl rfl rfl rfl rfl rfl ns (by first | rfl | decide +kernel) (by decide +kernel) (by decide +kernel) (by decide +kernel) (by decide +kernel) (pl := _) (fun env => rfl) (by decide +kernel) (by decide +kernel)))
    (case E_TooMany =>
      refine' Rm.ef_mk (st := K08.s_TooMany___init__) KX G ?e_g ?e_l ?e_v ?e_t ?e_sa ?e_ga ?e_gg ?e_ex ?e_ty ?e_k ?e_hd ?e_no ?e_sub ?e_self ?e_sup ?e_any ?e_ha ?e_hn ?e_ht ?e_hm ?e_i ?e_it ?e_f ?e_c ?e_cd ?e_fi ?e_pf ?e_cc ?e_df ?htop ?n_super ?hb1 ?hb2 ?hfn
      (case e_g => k_is)
      (case e_l => k_is)
      (case e_v => decide +kernel)
      (case e_t => first | rfl | decide +kernel)
      (case e_sa => k_is)
      (case e_ga => k_is)
      (case e_gg => k_is)
      (case e_ex => k_is)
      (case e_ty => k_is)
      (case e_k => k_is)
      (case e_hd => k_is)
      (case e_no => k_is)
      (case e_sub => k_is)
      (case e_self => k_is)
      (case e_sup => ks_is)
      (case e_any => k_is)
      (case e_ha => k_is)
      (case e_hn => k_is)
      (case e_ht => k_is)
      (case e_hm => k_is)
      (case e_i => k_is)
      (case e_it => k_is)
      (case e_f => k_is)
      (case e_c => k_is)
      (case e_cd => k_is)
      (case e_fi => rfl)
      (case e_pf => first | rfl | decide +kernel)
      (case e_cc => k_is)
      (case e_df => rfl)
      (case htop => first | rfl | decide +kernel)
      (case n_super => k_is)
      (case hb1 => exact fun _ _ => .all fun us hl => match us, hl with | [_, _], _ => rfl)
      (case hb2 => exact ⟨fun s us w h => match us, h with | [_], _ => .of_eq rfl⟩)
      (case hfn => exact fun base ns T => Rm.fn_err (ars := []) T rfl rfl rfl rfl rfl rfl rfl ns (by first | rfl | decide +kernel) (by decide +kernel) (by decide +kernel) (by decide +kernel) (by decide +kernel) (pl := _) (fun env => rfl) (by decide +kernel) (by decide +kernel)))
    (case E_UnknownPart =>
      refine' Rm.ef_mk (st := K08.s_UnknownPart___init__) KX G ?e_g ?e_l ?e_v ?e_t ?e_sa ?e_ga ?e_gg ?e_ex ?e_ty ?e_k ?e_hd ?e_no ?e_sub ?e_self ?e_sup ?e_any ?e_ha ?e_hn ?e_ht ?e_hm ?e_i ?e_it ?e_f ?e_c ?e_cd ?e_fi ?e_pf ?e_cc ?e_df ?htop ?n_super ?hb1 ?hb2 ?hfn
      (case e_g => k_is)
      (case e_l => k_is)
      (case e_v => decide +kernel)
      (case e_t => first | rfl | decide +kernel)
      (case e_sa => k_is)
      (case e_ga => k_is)
      (case e_gg => k_is)
      (case e_ex => k_is)
      (case e_ty => k_is)
      (case e_k => k_is)
      (case e_hd => k_is)
      (case e_no => k_is)
      (case e_sub => k_is)
      (case e_self => k_is)
      (case e_sup => ks_is)
      (case e_any => k_is)
      (case e_ha => k_is)
      (case e_hn => k_is)
      (case e_ht => k_is)
      (case e_hm => k_is)
      (case e_i => k_is)
      (case e_it => k_is)
      (case e_f => k_is)
      (case e_c => k_is)
      (case e_cd => k_is)
      (case e_fi => rfl)
      (case e_pf => first | rfl | decide +kernel)
      (case e_cc => k_is)
      (case e_df => rfl)
      (case htop => first | rfl | decide +kernel)
      (case n_super => k_is)
      (case hb1 => exact fun _ _ => .all fun us hl => match us, hl with | [_, _], _ => rfl)
      (case hb2 => exact ⟨fun s us w h => match us, h with | [_], _ => .of_eq rfl⟩)
      (case hfn => exact fun base ns T => Rm.fn_err (ars := []) T rfl rfl rfl rfl rfl rfl rfl ns (by first | rfl | decide +kernel) (by decide +kernel) (by decide +kernel) (by decide +kernel) (by decide +kernel) (pl := _) (fun env => rfl) (by decide +kernel) (by decide +kernel)))
    (case g_Fates => k_is); (case cls_Fates_pg => k_is); (case cls_Fates_hd => k_is); (case cls_Fates_po => k_is); (case cls_Fates_sa => k_is); (case mk_Fates => k_is); (case kp_Fates => k_is); (case na_Fates_0 => k_is); (case na_Fates_1 => k_is); (case na_Fates_2 => k_is); (case na_Fates_3 => k_is); (case na_Fates_4 => k_is); (case na_Fates_5 => k_is); (case g_Part => k_is); (case cls_Part_pg => k_is); (case cls_Part_hd => k_is); (case cls_Part_po => k_is); (case cls_Part_sa => k_is); (case mk_Part => k_is); (case kp_Part => k_is); (case na_Part_0 => k_is); (case na_Part_1 => k_is); (case na_Part_2 => k_is); (case na_Part_3 => k_is); (case na_Part_4 => k_is)
    (case g_RUN => k_is); (case g_OPEN => k_is)
    (case hinj => intro k k' q; cases k <;> cases k' <;> first | rfl | exact absurd q (by decide))
    (case hnm => intro k; cases k <;> decide)
    (case a_is_whole => k_is); (case l_is_whole => k_is); (case c_is_whole => k_is); (case k_is_whole => k_is)
    (case a_is_within => k_is); (case l_is_within => k_is); (case c_is_within => k_is); (case k_is_within => k_is)
    (case a_Fates__count_operation => k_is); (case i_Fates__count_operation => k_is); (case l_Fates__count_operation => k_is); (case c_Fates__count_operation => k_is); (case k_Fates__count_operation => k_is)
    (case a_Fates_is_transaction => k_is); (case i_Fates_is_transaction => k_is); (case l_Fates_is_transaction => k_is); (case c_Fates_is_transaction => k_is); (case k_Fates_is_transaction => k_is)
    (case a_Fates__check_known => k_is); (case i_Fates__check_known => k_is); (case l_Fates__check_known => k_is); (case c_Fates__check_known => k_is); (case k_Fates__check_known => k_is)
    (case a_Fates__check_running => k_is); (case i_Fates__check_running => k_is); (case l_Fates__check_running => k_is); (case c_Fates__check_running => k_is); (case k_Fates__check_running => k_is)
    (case a_Fates__check_free => k_is); (case i_Fates__check_free => k_is); (case l_Fates__check_free => k_is); (case c_Fates__check_free => k_is); (case k_Fates__check_free => k_is)
    (case a_Part___init__ => k_is); (case i_Part___init__ => k_is); (case l_Part___init__ => k_is); (case c_Part___init__ => k_is); (case k_Part___init__ => k_is)
    (case a_Fates__open_part => k_is); (case i_Fates__open_part => k_is); (case l_Fates__open_part => k_is); (case c_Fates__open_part => k_is); (case k_Fates__open_part => k_is)
    (case a_Fates_begin => k_is); (case i_Fates_begin => k_is); (case l_Fates_begin => k_is); (case c_Fates_begin => k_is); (case k_Fates_begin => k_is)
    (case a_Fates__end_part => k_is); (case i_Fates__end_part => k_is); (case l_Fates__end_part => k_is); (case c_Fates__end_part => k_is); (case k_Fates__end_part => k_is)
    (case a_Fates__take_innermost => k_is); (case i_Fates__take_innermost => k_is); (case l_Fates__take_innermost => k_is); (case c_Fates__take_innermost => k_is); (case k_Fates__take_innermost => k_is)
    (case a_Fates_save => k_is); (case i_Fates_save => k_is); (case l_Fates_save => k_is); (case c_Fates_save => k_is); (case k_Fates_save => k_is)
    (case a_Fates_release => k_is); (case i_Fates_release => k_is); (case l_Fates_release => k_is); (case c_Fates_release => k_is); (case k_Fates_release => k_is)
    (case a_Fates_back => k_is); (case i_Fates_back => k_is); (case l_Fates_back => k_is); (case c_Fates_back => k_is); (case k_Fates_back => k_is)
    (case a_Fates_prepare => k_is); (case i_Fates_prepare => k_is); (case l_Fates_prepare => k_is); (case c_Fates_prepare => k_is); (case k_Fates_prepare => k_is)
    (case a_Fates__end_transaction => k_is); (case i_Fates__end_transaction => k_is); (case l_Fates__end_transaction => k_is); (case c_Fates__end_transaction => k_is); (case k_Fates__end_transaction => k_is)
    (case a_Fates_commit => k_is); (case i_Fates_commit => k_is); (case l_Fates_commit => k_is); (case c_Fates_commit => k_is); (case k_Fates_commit => k_is)
    (case a_Fates_abort => k_is); (case i_Fates_abort => k_is); (case l_Fates_abort => k_is); (case c_Fates_abort => k_is); (case k_Fates_abort => k_is)
    (case a_Fates_crash => k_is); (case i_Fates_crash => k_is); (case l_Fates_crash => k_is); (case c_Fates_crash => k_is); (case k_Fates_crash => k_is)
    (case a_Fates_moment => k_is); (case i_Fates_moment => k_is); (case l_Fates_moment => k_is); (case c_Fates_moment => k_is); (case k_Fates_moment => k_is)
    (case a_Fates_running => k_is); (case i_Fates_running => k_is); (case l_Fates_running => k_is); (case c_Fates_running => k_is); (case k_Fates_running => k_is)
    (case a_Fates_state => k_is); (case i_Fates_state => k_is); (case l_Fates_state => k_is); (case c_Fates_state => k_is); (case k_Fates_state => k_is)
    (case a_Fates_parts => k_is); (case i_Fates_parts => k_is); (case l_Fates_parts => k_is); (case c_Fates_parts => k_is); (case k_Fates_parts => k_is)
    (case a_Fates___init__ => k_is); (case i_Fates___init__ => k_is); (case l_Fates___init__ => k_is); (case c_Fates___init__ => k_is); (case k_Fates___init__ => k_is)
    (case a__law_world => k_is); (case l__law_world => k_is); (case c__law_world => k_is); (case k__law_world => k_is)
    (case a__law_running => k_is); (case l__law_running => k_is); (case c__law_running => k_is); (case k__law_running => k_is)
    (case a__law_over => k_is); (case l__law_over => k_is); (case c__law_over => k_is); (case k__law_over => k_is)
    (case a__law_opened => k_is); (case l__law_opened => k_is); (case c__law_opened => k_is); (case k__law_opened => k_is)
    (case a__law_done => k_is); (case l__law_done => k_is); (case c__law_done => k_is); (case k__law_done => k_is)
    (case a__law_refusal => k_is); (case l__law_refusal => k_is); (case c__law_refusal => k_is); (case k__law_refusal => k_is)
    (case a__law_pick => k_is); (case l__law_pick => k_is); (case c__law_pick => k_is); (case k__law_pick => k_is)
    (case a__law_one_of => k_is); (case l__law_one_of => k_is); (case c__law_one_of => k_is); (case k__law_one_of => k_is)
    (case a__law_tape => k_is); (case l__law_tape => k_is); (case c__law_tape => k_is); (case k__law_tape => k_is)
    (case a__law_step => k_is); (case l__law_step => k_is); (case c__law_step => k_is); (case k__law_step => k_is)
    (case a__law_call => k_is); (case l__law_call => k_is); (case c__law_call => k_is); (case k__law_call => k_is)
    (case a__law_told => k_is); (case l__law_told => k_is); (case c__law_told => k_is); (case k__law_told => k_is)
    (case a__law_both => k_is); (case l__law_both => k_is); (case c__law_both => k_is); (case k__law_both => k_is)
    (case a_Fates_is_part => k_is); (case i_Fates_is_part => k_is); (case l_Fates_is_part => k_is); (case c_Fates_is_part => k_is); (case k_Fates_is_part => k_is)
    (case a_Fates__check_part => k_is); (case i_Fates__check_part => k_is); (case l_Fates__check_part => k_is); (case c_Fates__check_part => k_is); (case k_Fates__check_part => k_is)
    (case a_Fates_transaction => k_is); (case i_Fates_transaction => k_is); (case l_Fates_transaction => k_is); (case c_Fates_transaction => k_is); (case k_Fates_transaction => k_is)
    (case a_Fates_root => k_is); (case i_Fates_root => k_is); (case l_Fates_root => k_is); (case c_Fates_root => k_is); (case k_Fates_root => k_is)
    (case a_Fates_owner => k_is); (case i_Fates_owner => k_is); (case l_Fates_owner => k_is); (case c_Fates_owner => k_is); (case k_Fates_owner => k_is)
    (case a_Fates_fate => k_is); (case i_Fates_fate => k_is); (case l_Fates_fate => k_is); (case c_Fates_fate => k_is); (case k_Fates_fate => k_is)
    (case a_Fates_around => k_is); (case i_Fates_around => k_is); (case l_Fates_around => k_is); (case c_Fates_around => k_is); (case k_Fates_around => k_is)
    (case a_Fates_ended_at => k_is); (case i_Fates_ended_at => k_is); (case l_Fates_ended_at => k_is); (case c_Fates_ended_at => k_is); (case k_Fates_ended_at => k_is)
    (case a__law_chain_right => k_is); (case l__law_chain_right => k_is); (case c__law_chain_right => k_is); (case k__law_chain_right => k_is)
    (case a__law_alive_right => k_is); (case l__law_alive_right => k_is); (case c__law_alive_right => k_is); (case k__law_alive_right => k_is)
    (case a__law_roots_right => k_is); (case l__law_roots_right => k_is); (case c__law_roots_right => k_is); (case k__law_roots_right => k_is)
    (case a__law_told_of => k_is); (case l__law_told_of => k_is); (case c__law_told_of => k_is); (case k__law_told_of => k_is)
    (case a_law => k_is); (case l_law => k_is); (case c_law => k_is); (case k_law => k_is)
    (case q_cd0 => rfl); (case tb_c0 => k_is); (case tb_v0 => rfl); (case tb_h0 => first | kernel_rfl | decide +kernel); (case tb_n0 => first | k_is | kernel_rfl | decide +kernel); (case tb_t0 => exact hT _ (by simp))
    (case n_int => k_is); (case n_len => k_is); (case n_isinstance => k_is); (case n_str => k_is); (case n_range => k_is); (case n_max => k_is); (case n_min => k_is); (case n_list => k_is); (case n_repr => k_is); (case n_enumerate => k_is); (case n_tuple => k_is); (case n_sorted => k_is); (case n_bool => k_is); (case n_dict => k_is); (case n_set => k_is); (case n_ValueError => k_is)

