import PyProof.Rows.All
import Wide.All
import OpenK.AllK
import Wide.FinOn
import HandS.ForMost
import HandS.ForExc
import HandS.Wide
import HandS.WideBits
import HandS.IsInst
import HandS.Evl
import HandS.Flow
import HandS.TupAny
import HandS.Zip
import HandS.TryMany
import HandS.ExcBuiltin
import HandS.CallSlots
import HandS.Property
import HandS.Sort
import HandS.Style
import HandS.Iter
import HandS.Dict
import HandS.Deep
import HandS.Text
import HandS.RaiseMore
import HandS.Lambda
import HandS.EndOwn
import HandS.ExcInit
import HandS.ExcField
import HandS.FStr
import PySem.Challenge.RW_signedcounts_k09_errors_of_leading_patte
set_option Elab.async false
set_option linter.all false
set_option maxRecDepth 100000
set_option maxHeartbeats 2000000
/-! G1: defs called where no repr is under way (guards = some []), over HandS. -/
namespace Sg
open PySem PySem.Spec PyProof.Rows L2

abbrev NoG (A : Around) : Prop := A.guards = some []

/-- FnOk, asked only where no repr is under way -/
structure FnG (P : Program) (w : World) (K : PySem.W.Frag) (mg : Str → Option Value) (base : Heap)
    (CX : CXT) (k : Nat) (f : Addr) (fd : FuncData) (ps : List Str) (sp : Sp) : Prop where
  len : ∀ vs H Q E, sp vs H Q E → vs.length = ps.length
  run : ∀ (A : Around) (outer : List Env) (s : Shared) (H : Hp) (args : Args) (us : List Value)
    (vs : List V) (Q : VK) (E : XK), NoG A → Room k A → Env0 P w K mg base A outer s H →
    BindsTo s fd args (ps.zip us) → Vals vs us → sp vs H Q E →
    codeAny (model P w) A (.call (.ref f) args) (CR CX outer P w H s Q E) s

section
variable {P : Program} {w : World} {K : PySem.W.Frag} {mg : Str → Option Value} {base : Heap}
  {CX : CXT} {j k : Nat} {f : Addr} {fd : FuncData} {ps : List Str} {sp sp' : Sp}
theorem FnG.of (F : FnOk P w K mg base CX k f fd ps sp) : FnG P w K mg base CX k f fd ps sp where
  len := F.len
  run := fun A outer s H args us vs Q E _ hr e hb hv hs => F.run A outer s H args us vs Q E hr e hb hv hs
theorem FnG.mono (F : FnG P w K mg base CX j f fd ps sp) (h : j ≤ k) : FnG P w K mg base CX k f fd ps sp where
  len := F.len
  run := fun A outer s H args us vs Q E g hr => F.run A outer s H args us vs Q E g (hr.mono h)
theorem FnG.imp (F : FnG P w K mg base CX k f fd ps sp) (h : ∀ vs H Q E, sp' vs H Q E → sp vs H Q E) :
    FnG P w K mg base CX k f fd ps sp' where
  len := fun vs H Q E q => F.len vs H Q E (h _ _ _ _ q)
  run := fun A outer s H args us vs Q E g hr e hb hv hs =>
    F.run A outer s H args us vs Q E g hr e hb hv (h _ _ _ _ hs)
end

/-- a def's promise from its body -/
theorem fnG {CX : CXT} {P : Program} {w : World} {K : PySem.W.Frag} {mg : Str → Option Value} {base : Heap}
    {k : Nat} {f : Addr} {fd : FuncData} {x qual : Str} {st : Stmt} {N ps : List Str} {sp : Sp}
    (F : Fun K x qual st f fd) (S : FnScope N ps (defScope st))
    (len : ∀ vs H Q E, sp vs H Q E → vs.length = ps.length)
    (body : ∀ (cdv : Value) (A : Around) (outer : List Env) (s : Shared) (H : Hp) (vs : List V) (Q : VK) (E : XK),
      NoG A → Room k (A.deeper (envOfC qual (defScope st) s.heap.objs.size f cdv)) → sp vs H Q E → fd.code = cdv →
      ∃ t, PSs (cxOf CX P w K mg base N qual (defScope st) f cdv A outer s H E) (defBody st) t ∧
        t { nx := fun _ H' => Q .non H', rt := Q } (start N vs) H) :
    FnG P w K mg base CX (k + 1) f fd ps sp := by
  obtain ⟨oc, od, kV, doc, pm, an, cdv, ct, osl, rfl, lk, hcd⟩ := F.ex
  refine ⟨len, fun A outer s H args us vs Q E hG hr e0 hb r hsp => ?_⟩
  -- FnOk of the one def for the one promise that asks for this A, outer, s and H alone
  have hl := len _ _ _ _ hsp
  have keep : ∀ b o, base.get? b = some o → s.heap.get? b = some o := fun b o e => (e0.bs b o e).1
  have hk : ∀ y ∈ ps.zip us, (defScope st).names.lookup y.1 = some .local ∨
      ((defScope st).names.lookup y.1 = some .cell ∧
        ((cellsFrom (s.heap.objs.size + 1) (defScope st).names []).lookup y.1).isSome = true) := by
    rintro ⟨n, v⟩ hy
    rcases S.par n (List.of_mem_zip hy).1 with q | q
    · exact .inl q
    · exact .inr ⟨q, PySem.W.cellsFrom_some _ _ _ (.inl q)⟩
  refine codeAny_call_function hr.depth (e0.mod.kin.keeps keep _ _ lk) rfl S.co S.gen rfl
    (PySem.W.codeRec_of (e0.mod.kin.keeps keep) hcd) (hb _ _ _ _ ?_)
  refine wpAny_newFunctionEnv_cells S.kind hk ?_
  rintro env rfl s1 x
  refine ⟨(e0.mod.nolimit.keeps keep).keeps x.toInCall.keep, codeAny_func ?_⟩
  obtain ⟨t, ht, hq⟩ := body cdv A outer s H vs Q E hG (hr.deeper _) hsp rfl
  have I := inv_start (CX := CX) (E := E) (cd := cdv) S hr.hd e0 hl r x
  refine wpAny_mono (ht.run [] s1 (start N vs) H _ I hq) (fun fl s' hs => ?_) (fun e s' hs => hs)
  cases fl with
  | ret u =>
    rcases hs with ⟨v, σ', H', J, rv, q⟩
    exact ⟨v, H', J.os, J.bare, J.base, J.hok, rv, q⟩
  | next =>
    rcases hs with ⟨σ', H', J, q⟩
    exact ⟨.non, H', J.os, J.bare, J.base, J.hok, rfl, q⟩
  | brk => rcases hs with ⟨_, _, _, q⟩; exact q.elim
  | cont => rcases hs with ⟨_, _, _, q⟩; exact q.elim

section
variable {X : Cx} {CX : CXT} {k : Nat} {f C : Addr} {fd : FuncData} {ps : List Str} {sp : Sp}
  {dvs : List V} {ds : List Value} {E : XK} {x m : Str} {p pos apos : Pos} {e o : Expr} {es : List Expr} {ta : TE} {t : TA}

theorem runG {pins : List (Addr × Obj)} {σ : L2.St} {H : Hp} {s : Shared} {Q : VK} {us : List Value} {vs : List V}
    (F : FnG X.prog X.w X.K X.mg X.base CX k f fd ps sp) (g : NoG X.A) (hr : Room k X.A) (hb : Binds X.K fd ps ds)
    (hd : Vals dvs ds) (hx : Passes CX X E) (I : Inv X pins σ H s) (r : Vals vs us) (h : sp (vs ++ dvs) H Q E) :
    wpAny (model X.prog X.w) X.A (call (.ref f) us) (EP X pins σ Q) X.xe s := by
  have r2 := r.append hd
  have hl : (us ++ ds).length = ps.length := r2.length ▸ F.len _ _ _ _ h
  have c := F.run X.A X.stack s H ⟨us, []⟩ (us ++ ds) _ Q E g hr I.env0 (hb s us I.kIn hl) r2 h
  refine wpAny_call (codeAny_mono c fun res s' hq => ?_)
  match res, hq with
  | .error e, hq => exact hx pins σ H s e s' I hq
  | .ok (.ret u), hq => exact I.after hq

/-- f(e, ..) -/
theorem pe_callG (F : FnG X.prog X.w X.K X.mg X.base CX k f fd ps sp) (g : NoG X.A) (hr : Room k X.A) (hg : Gl X x)
    (hm : X.mg x = some (.ref f)) (hk : PySem.W.keepIn X.K (.ref f) = true) (hb : Binds X.K fd ps ds)
    (hd : Vals dvs ds) (hx : Passes CX X E) (ha : PA X (e :: es) t)
    (hdb : (x == ("__debug__" : Str)) = false := by decide)
    (he : starEach (e :: es) X.env = (false, eval e X.env) :: starEach es X.env := by rfl)
    (hpl : (backTo pos (starEach es X.env)).any (·.1) = false := by rfl) :
    PE X (.Call (.Name x p) (e :: es) [] pos) (tCall sp dvs E t) where
  run := fun pins s σ H Q I h => wpAny_Call_Name_kw (ld_glob I hg hm (PySem.W.callWith_K (h₀ := X.base) I.ok.mod.kin hk
    (thn (ha.run pos pins s σ H _ I h) fun us s1 ⟨vs, H1, I1, r, q⟩ => ⟨I1.kIn, runG F g hr hb hd hx I1 r q⟩) he hpl) hdb)

/-- f() -/
theorem pe_callG0 (F : FnG X.prog X.w X.K X.mg X.base CX k f fd ps sp) (g : NoG X.A) (hr : Room k X.A) (hg : Gl X x)
    (hm : X.mg x = some (.ref f)) (hk : PySem.W.keepIn X.K (.ref f) = true) (hb : Binds X.K fd ps ds)
    (hd : Vals dvs ds) (hx : Passes CX X E) (hdb : (x == ("__debug__" : Str)) = false := by decide) :
    PE X (.Call (.Name x p) [] [] pos) (tCall sp dvs E tNil) where
  run := fun pins s σ H Q I h => wpAny_Call_Name_kw (ld_glob I hg hm
    (PySem.W.callWith_K0 I.kIn hk (runG (us := []) F g hr hb hd hx I .nil h)) hdb)

/-- o.m(e, ..) -/
theorem pe_methG {pl : Sem Bool} (he : PE X o ta) (c : Cls X.K C) (hm : Meth X.K C m f)
    (F : FnG X.prog X.w X.K X.mg X.base CX k f fd ps sp) (g : NoG X.A) (hr : Room k X.A) (hb : Binds X.K fd ps ds)
    (hd : Vals dvs ds) (hx : Passes CX X E) (ha : PA X (e :: es) t)
    (hst : starEach (e :: es) X.env = (false, eval e X.env) :: starEach es X.env := by rfl)
    (hpl : (backTo pos (starEach es X.env)).any (·.1) = false := by rfl)
    (ht : eval (.Call (.Attribute o m apos) (e :: es) [] pos) X.env = (do
      let ov ← eval o X.env
      standAt apos.atName
      let (fn, fst) ← holding [ov] (getMethod ov m pl)
      callWith pos fn fst (backTo pos (starEach (e :: es) X.env)) (backToKw pos (keywordEach [] X.env))) := by rfl) :
    PE X (.Call (.Attribute o m apos) (e :: es) [] pos) (tMeth C m sp dvs E ta t) := by
  constructor
  intro pins s σ H Q I h
  refine PySem.W.methodCall_KW (pl := pl) (thn (he.run pins s σ H _ I h) ?_) ht
  rintro u s1 ⟨x, H1, I1, rx, a, dx, fs, rfl, ea, l, q⟩
  obtain rfl : u = Value.ref a := rx
  refine getmeth_ok I1 ea c hm l (PySem.W.callWith_K (first := [.ref a]) (h₀ := X.base) I.ok.mod.kin hm.kp
    (thn (ha.run pos pins s1 σ H1 _ I1 q) ?_) hst hpl)
  rintro us s2 ⟨vs, H2, I2, r, q2⟩
  exact ⟨I2.kIn, runG (us := .ref a :: us) (vs := .ref a :: vs) F g hr hb hd hx I2 (.cons rfl r) q2⟩
/-- o.m() -/
theorem pe_methG0 {pl : Sem Bool} (he : PE X o ta) (c : Cls X.K C) (hm : Meth X.K C m f)
    (F : FnG X.prog X.w X.K X.mg X.base CX k f fd ps sp) (g : NoG X.A) (hr : Room k X.A) (hb : Binds X.K fd ps ds)
    (hd : Vals dvs ds) (hx : Passes CX X E)
    (ht : eval (.Call (.Attribute o m apos) [] [] pos) X.env = (do
      let ov ← eval o X.env
      standAt apos.atName
      let (fn, fst) ← holding [ov] (getMethod ov m pl)
      callWith pos fn fst (backTo pos (starEach [] X.env)) (backToKw pos (keywordEach [] X.env))) := by rfl) :
    PE X (.Call (.Attribute o m apos) [] [] pos) (tMeth C m sp dvs E ta tNil) := by
  constructor
  intro pins s σ H Q I h
  refine PySem.W.methodCall_KW (pl := pl) (thn (he.run pins s σ H _ I h) ?_) ht
  rintro u s1 ⟨x, H1, I1, rx, a, dx, fs, rfl, ea, l, q⟩
  obtain rfl : u = Value.ref a := rx
  exact getmeth_ok I1 ea c hm l (PySem.W.callWith_K0 (first := [.ref a]) I1.kIn hm.kp
    (runG (us := [.ref a]) (vs := [.ref a]) F g hr hb hd hx I1 (.cons rfl .nil) q))

theorem noG_make {A : Around} (g : NoG A) (C : Addr) (us : List Value) (kw : List (Str × Value)) :
    NoG (A.under (.builtin "type.__call__" ⟨.ref C :: us, kw⟩)) := by
  have h : (Code.builtin "type.__call__" ⟨.ref C :: us, kw⟩).isGuard = false := by
    show guardIds.contains "type.__call__" = false
    decide +kernel
  have e : (Code.builtin "type.__call__" ⟨.ref C :: us, kw⟩).guards = [] := by
    unfold Code.guards
    rw [h]
    rfl
  show pushGuards (Code.builtin "type.__call__" ⟨.ref C :: us, kw⟩).guards A.guards = some []
  rw [e]
  exact g
/-- a new instance of an own class -/
theorem makeG {pins : List (Addr × Obj)} {σ : L2.St} {H : Hp} {s : Shared} {Q : VK} {us : List Value} {vs : List V}
    (M : Mk X.K C f) (F : FnG X.prog X.w X.K X.mg X.base CX k f fd ps sp) (g : NoG X.A) (hr : Room (k + 1) X.A)
    (hb : Binds X.K fd ps ds) (hd : Vals dvs ds) (hx : Passes CX X E) (I : Inv X pins σ H s) (r : Vals vs us)
    (h : ∀ x dx, H x = none → H dx = none → dx ≠ x → sp (.ref x :: (vs ++ dvs))
      (upd (upd H dx (.own x)) x (.ins C dx [])) (fun v H2 => v = .non ∧ Q (.ref x) H2) E) :
    wpAny (model X.prog X.w) X.A (call (.ref C) us) (EP X pins σ Q) X.xe s := by
  have hq := h (s.heap.objs.size + 1) s.heap.objs.size (I.hok.fresh (Nat.le_succ _)) (I.hok.fresh (Nat.le_refl _)) (Nat.ne_of_lt (Nat.lt_succ_self _))
  have J := Inv.made (C := C) I
  have r2 : Vals (V.ref (s.heap.objs.size + 1) :: (vs ++ dvs)) (Value.ref (s.heap.objs.size + 1) :: (us ++ ds)) :=
    .cons rfl (r.append hd)
  have hl : (Value.ref (s.heap.objs.size + 1) :: us ++ ds).length = ps.length := r2.length ▸ F.len _ _ _ _ hq
  refine wpAny_call (make_map (f := f) I.kIn M.makes M.init (beq_iff_eq.mp M.fn) (codeAny_mono
    (F.run _ X.stack _ _ ⟨Value.ref (s.heap.objs.size + 1) :: us, []⟩ _ _ _ E (noG_make g C us []) (hr.make C us [])
      (J.env0.make C us []) (hb _ (Value.ref (s.heap.objs.size + 1) :: us) J.kIn hl) r2 hq) fun res s' hq' => ?_))
  match res, hq' with
  | .error e, hq' => exact hx pins σ _ _ e s' J hq'
  | .ok (.ret u), hq' =>
    obtain ⟨v, H', I3, rv, rfl, q3⟩ := J.after hq'
    exact ⟨rv, V.ref (s.heap.objs.size + 1), H', I3, rfl, q3⟩
/-- C(e, ..) -/
theorem pe_makeG (M : Mk X.K C f) (F : FnG X.prog X.w X.K X.mg X.base CX k f fd ps sp) (g : NoG X.A)
    (hr : Room (k + 1) X.A) (hg : Gl X x) (hm : X.mg x = some (.ref C)) (hb : Binds X.K fd ps ds) (hd : Vals dvs ds)
    (hx : Passes CX X E) (ha : PA X (e :: es) t) (hdb : (x == ("__debug__" : Str)) = false := by decide)
    (he : starEach (e :: es) X.env = (false, eval e X.env) :: starEach es X.env := by rfl)
    (hpl : (backTo pos (starEach es X.env)).any (·.1) = false := by rfl) :
    PE X (.Call (.Name x p) (e :: es) [] pos) (tMake C sp dvs E t) where
  run := fun pins s σ H Q I h => wpAny_Call_Name_kw (ld_glob I hg hm (PySem.W.callWith_K (h₀ := X.base) I.ok.mod.kin M.kp
    (thn (ha.run pos pins s σ H _ I h) fun us s1 ⟨vs, H1, I1, r, q⟩ => ⟨I1.kIn, makeG M F g hr hb hd hx I1 r q⟩) he hpl) hdb)
end

/-! the law's own call -/
section
variable {P : Program} {w : World} {K : PySem.W.Frag} {mg mb : Str → Option Value} {k : Nat} {fa a : Addr}
  {fd : FuncData} {x : Str} {sp : Sp} {s₁ : Shared} {vs : List Value} {ns : List Int}
/-- from a heap in which at most the script is tracked -/
theorem law_from (KX : K.In s₁.heap) (hns : s₁.heap.Ns mainGlobals mg) (hb : s₁.heap.Ns builtinsNs mb)
    (hbb : ∀ x : Str, x ≠ "__name__" → mb x = bootBuiltins x) (hlim : s₁.heap.NoLimit) (hg : s₁.gens = #[])
    (ha : s₁.heap.get? a = some { cls := .type "list", data := .seq vs.toArray }) (hr : Room k callerA)
    (F : ∀ base : Heap, K.In base → base.Ns mainGlobals mg → FnG P w K mg base CX0 k fa fd [x] sp)
    (hbind : ∀ (s : Shared) (u : Value), BindsTo s fd ⟨[u], []⟩ [(x, u)])
    (H : Hp) (hO : Only H) (hS : SqL K H a (ns.map V.int)) (hok : HOk P w H s₁.heap) (hA : ∀ b, H b ≠ none → b = a)
    (hK : H a ≠ none → K.lookup a = none)
    (hsp : sp [.ref a] H (fun v _ => v = .bl true) fun _ _ _ => False) :
    codeAny (model P w) callerA (.call (.ref fa) ⟨[.ref a], []⟩)
      (fun r s' => r = .ok (.ret (.bool true)) ∧ OldK s₁.heap s'.heap ∧ s'.os = s₁.os ∧ AllBare s'.gens) s₁ := by
  have free : ∀ {b : Addr} {o : Obj} {es : Array DictEntry} {ep : Nat}, s₁.heap.get? b = some o →
      o.data = .dict es ep → H b = none := by
    intro b o es ep e d
    cases q : H b with
    | none => rfl
    | some u =>
      obtain rfl := hA b (by rw [q]; simp)
      rw [ha] at e
      cases e
      cases (show Data.seq vs.toArray _ = Data.dict es ep from d)
  have nsK : ∀ {b : Addr} {m : Str → Option Value}, s₁.heap.Ns b m → (hidT s₁.heap H).Ns b m := by
    rintro b m ⟨o, es, ep, e, d, r⟩
    exact ⟨o, es, ep, hidT_get e (free e d), d, r⟩
  have hKb : K.In (hidT s₁.heap H) := by
    intro b o e
    refine hidT_get (KX b o e) ?_
    cases q : H b with
    | none => rfl
    | some u =>
      obtain rfl := hA b (by rw [q]; simp)
      rw [hK (by rw [q]; simp)] at e
      cases e
  obtain ⟨mc, h1, h2⟩ := hlim
  have e0 : Env0 P w K mg (hidT s₁.heap H) callerA [] s₁ H :=
    ⟨rfl, ⟨hKb, nsK hns, ⟨mb, nsK hb, hbb⟩, ⟨mc, nsK h1, h2⟩⟩, fun b o e => of_hidT e,
      Nat.le_of_eq (hidT_size _ _), trivial, (fun b hb => nomatch (show b ∈ ([] : List Addr) from hb)), hok, .of_eq hg⟩
  have run := (F _ hKb (nsK hns)).run callerA [] s₁ H ⟨[.ref a], []⟩ [.ref a] [.ref a] _ _ rfl hr e0
    (hbind s₁ (.ref a)) (.cons rfl .nil) hsp
  refine codeAny_mono run fun res s' h => ?_
  match res, h with
  | .ok (.ret u), h =>
    obtain ⟨v, H', os, bare, un, hok', r', rfl⟩ := h
    obtain rfl : u = Value.bool true := r'
    refine ⟨rfl, OldK.of_keep fun b o e => ?_, os, bare⟩
    cases q : H b with
    | none => exact un.keep b o e q (by rintro z; cases z) (by simp)
    | some u =>
      rcases hO b with z | ⟨ob, xs, z⟩
      · rw [q] at z
        cases z
      · obtain ⟨e1, _⟩ := hok b _ z
        obtain ⟨e2, _⟩ := hok' b _ (un.frzs b ob _ z)
        rw [e] at e1
        cases e1
        exact e2
theorem law_callG (KX : K.In s₁.heap) (hns : s₁.heap.Ns mainGlobals mg) (hb : s₁.heap.Ns builtinsNs mb)
    (hbb : ∀ x : Str, x ≠ "__name__" → mb x = bootBuiltins x) (hlim : s₁.heap.NoLimit) (hg : s₁.gens = #[])
    (ha : s₁.heap.get? a = some { cls := .type "list", data := .seq vs.toArray }) (hi : IntsAre vs ns)
    (hl : ns.length ≤ sizeLine) (hr : Room k callerA)
    (F : ∀ base : Heap, K.In base → base.Ns mainGlobals mg → FnG P w K mg base CX0 k fa fd [x] sp)
    (hbind : ∀ (s : Shared) (u : Value), BindsTo s fd ⟨[u], []⟩ [(x, u)])
    (hsp : ∀ H : Hp, Only H → SqL K H a (ns.map V.int) → sp [.ref a] H (fun v _ => v = .bl true) fun _ _ _ => False) :
    codeAny (model P w) callerA (.call (.ref fa) ⟨[.ref a], []⟩)
      (fun r s' => r = .ok (.ret (.bool true)) ∧ OldK s₁.heap s'.heap ∧ s'.os = s₁.os ∧ AllBare s'.gens) s₁ := by
  have rv := vals_ints hi
  have go := fun H hO hS hok hA hK => law_from KX hns hb hbb hlim hg ha hr F hbind H hO hS hok hA hK (hsp H hO hS)
  let ob : Obj := { cls := .type "list", data := .seq vs.toArray }
  cases hk : K.lookup a with
  | some o =>
    have e := KX a o hk
    rw [ha] at e
    cases e
    exact go (fun _ => none) (fun _ => .inl rfl)
      (.inr ⟨_, vs.toArray, _, hk, rfl, rfl, rfl, by rw [List.size_toArray, hi.length]; exact hl, by simpa using rv⟩)
      (fun b u z => nomatch z) (fun b z => absurd rfl z) (fun z => absurd rfl z)
  | none =>
    let H : Hp := fun b => if b = a then some (.frz ob (.lst (ns.map V.int))) else none
    have at_a : H a = some (.frz ob (.lst (ns.map V.int))) := if_pos rfl
    have off : ∀ {b}, b ≠ a → H b = none := fun h => if_neg h
    refine go H (fun b => ?_) (.inl (.inr ⟨ob, at_a⟩)) (fun b u z => ?_) (fun b z => ?_) (fun _ => hk)
    · by_cases h : b = a
      · exact .inr ⟨_, _, h ▸ at_a⟩
      · exact .inl (off h)
    · by_cases h : b = a
      · subst h
        cases at_a.symm.trans z
        exact ⟨ha, by rw [List.length_map]; exact hl, vs, _, rv, ha⟩
      · cases (off h).symm.trans z
    · by_cases h : b = a
      · exact h
      · exact absurd (off h) z
end
/-- the end of a law's row (in the place of L2.walk_of) -/
theorem walkG {l : PySem.W.OpenLaw} {n k : Nat} {q : Program} {loose : List Str} {XP : (Str → Option Value) → Heap → Prop}
    {YP : World → Heap → Prop} {d : DefRec} {K : Params → PySem.W.Frag} {sp : World → Sp} {x : Str}
    (hn : l.most = some n) (hn2 : n ≤ sizeLine) (hdf : d.params.defaults = []) (hr : Room k callerA)
    (hY : ∀ (w : World) (h : Heap), YP w h → (K w.params).In h)
    (F : ∀ (w : World) (mg : Str → Option Value) (fa : Addr) (h : Heap), (K w.params).In h → h.Ns mainGlobals mg →
      mg d.name = some (.ref fa) → ∃ fd : FuncData, (∀ (s : Shared) (u : Value), BindsTo s fd ⟨[u], []⟩ [(x, u)]) ∧
        ∀ base : Heap, (K w.params).In base → base.Ns mainGlobals mg → FnG l.prog w (K w.params) mg base CX0 k fa fd [x] (sp w))
    (hsp : ∀ (w : World) (H : Hp) (a : Addr) (ns : List Int), ns.length ≤ n → Only H → SqL (K w.params) H a (ns.map V.int) →
      sp w [.ref a] H (fun v _ => v = .bl true) fun _ _ _ => False) :
    PySem.W.WalkO q loose XP YP l.row.toRowW d [] (fun f vs => PySem.call f vs) := by
  refine Att.attach_call hn hdf ?_
  intro w s₀ s₁ mg mb fa o pm cd doc a vs ns G Y ho hd hcd hmg hobj hints hlen hg
  obtain ⟨fd, hb, hF⟩ := F w mg fa _ (hY w _ Y) G.T.g hmg
  exact law_callG (hY w _ Y) G.T.g G.T.b G.T.builtins G.T.nolimit hg hobj hints (Nat.le_trans hlen hn2) hr hF hb
    (fun H hO hS => hsp w H a ns hlen hO hS)

end Sg
/-! G2: repr of data, ** of great ints. -/
namespace Sg
open PySem PySem.Spec PyProof.Rows L2

mutual
theorem dp_noDict {K : PySem.W.Frag} {H : Hp} : ∀ (d : PyData) (v : V), Dp K H v d → d.hasDict = false
  | .none, _, _ => by unfold PyData.hasDict; rfl
  | .bool _, _, _ => by unfold PyData.hasDict; rfl
  | .int _, _, _ => by unfold PyData.hasDict; rfl
  | .str _, _, _ => by unfold PyData.hasDict; rfl
  | .list xs, _, h => by
    unfold PyData.hasDict
    cases h with
    | lst _ r => exact dpa_noDict xs _ r
  | .tuple xs, _, h => by
    unfold PyData.hasDict
    cases h with
    | tup _ r => exact dpa_noDict xs _ r
  | .dict _, _, h => nomatch h
theorem dpa_noDict {K : PySem.W.Frag} {H : Hp} : ∀ (ds : List PyData) (vs : List V), DpAll K H vs ds → PyData.hasDictAll ds = false
  | [], _, _ => by unfold PyData.hasDictAll; rfl
  | d :: ds, _, h => by
    unfold PyData.hasDictAll
    cases h with
    | cons a b => rw [dp_noDict d _ a, dpa_noDict ds _ b]; rfl
end

/-- what repr of a datum asks -/
structure Shw (d : PyData) : Prop where
  ok : d.showable = true
  len : d.shown.length ≤ sizeLine
  dep : d.depth ≤ 60
section
variable {X : Cx}
theorem call_reprD (g : NoG X.A) (hu : X.A.units + 100 < cLine) : CallR X (.builtin "repr")
    (fun xs H Q => ∃ x d, xs = [x] ∧ Dp X.K H x d ∧ Shw d ∧ Q (.str d.shown) H) := by
  intro pins s σ H xs us Q I r h
  obtain ⟨x, d, rfl, hd, sh, q⟩ := h
  obtain ⟨u, rfl, ru⟩ := vals1 r
  have z := sh.len
  cases d with
  | dict _ => cases hd
  | none =>
    cases hd
    cases ru
    exact PySem.P.repr_of_none ⟨.str _, H, I.tok _, ⟨_, rfl⟩, by rw [show PyData.none.shown = ("None" : Str) by unfold PyData.shown; rfl] at q; exact q⟩
  | bool b =>
    cases hd
    cases ru
    refine PySem.P.repr_of_bool ⟨.str _, H, I.tok _, ⟨_, rfl⟩, ?_⟩
    rw [PyData.shown_bool] at q
    exact q
  | int i =>
    cases hd
    obtain ⟨t, rfl⟩ := ru
    have hz := sh.ok
    unfold PyData.showable at hz
    refine PySem.P.repr_of_int (of_decide_eq_true hz) ⟨.str _, H, I.tok _, ⟨_, rfl⟩, ?_⟩
    rw [PyData.shown_int] at q
    exact q
  | str y =>
    cases hd
    obtain ⟨t, rfl⟩ := ru
    rw [PyData.shown_str] at z q
    exact PySem.P.repr_of_str (hsz := z) ⟨.str _, H, I.tok _, ⟨_, rfl⟩, q⟩
  | list ds =>
    have hn := dp_noDict _ _ hd
    obtain ⟨as, rd⟩ := Dp.reads I _ _ _ hd ru
    cases hd
    cases ru
    have hz := sh.dep
    exact repr_of_reads' rd sh.ok (PyData.noDict_hsm hn) g (by omega) (fun _ _ e => e)
      (fun h' u tk hk => ⟨.str _, H, I.kept hk, ⟨_, rfl⟩, q⟩) z
  | tuple ds =>
    have hn := dp_noDict _ _ hd
    obtain ⟨as, rd⟩ := Dp.reads I _ _ _ hd ru
    cases hd
    cases ru
    have hz := sh.dep
    exact repr_of_reads' rd sh.ok (PyData.noDict_hsm hn) g (by omega) (fun _ _ e => e)
      (fun h' u tk hk => ⟨.str _, H, I.kept hk, ⟨_, rfl⟩, q⟩) z

/-- a ** n of any size -/
def CPowX (i j : Int) : Prop := 0 ≤ j ∧ (Builtin.Int.intBits i : Int) * j ≤ 2 ^ 27
theorem op_powX : OpR X (binaryOp .Pow) (rI CPowX fun i j => .int (i ^ j.toNat)) :=
  opI fun _ _ _ _ _ _ _ hc q => pow_int hc.1 hc.2 q
end
end Sg
/-! Z1: zip of two texts of ascii signs. -/
namespace Zs
open PySem PySem.Spec PyProof.Rows L2 RZ
abbrev aI : String := "str_ascii_iterator"
section
variable {prog : Program} {w : World} {A : Around} {E : Value → Shared → Prop} {s : Shared} {it : Addr} {x y : Str} {t t2 : Tok} {i c : Nat}
theorem nx_item {Q : Value → Shared → Prop} (g : s.heap.IsStrIter it aI x t i) (hx : x.cps[i]? = some c) (q : ∀ g2, g2.IsStrIter it aI x t (i + 1) → Heap.SameBut it s.heap g2 → Q (.str ⟨#[c]⟩ s.toks) { s with heap := g2, toks := s.toks + 1 }) :
    wpAny (model prog w) A (Builtin.SmallTypes.nextOf (.ref it)) Q E s := by
  obtain ⟨ob, e1, e2, e3⟩ := id g
  unfold Builtin.SmallTypes.nextOf; refine wpAny_bind (wpAny_callSpecial?_slot (name := Str.ofString "__next__") g.typeIs F.slot_str_ascii_iterator_next (wpAny_call_entry F.slot_str_ascii_iterator_next g.typeIs F.entry_str_ascii_iterator_next ?_ (F.args_str_ascii_iterator_next_1 _)))
  show wpAny _ _ (field (.ref it) 0 >>= _) _ _ s; refine wpAny_bind (wpAny_field e1 e3 (x := .str x t) rfl ?_); show wpAny _ _ (field (.ref it) 1 >>= _) _ _ s; refine wpAny_bind (wpAny_field e1 e3 (x := .int i 0) rfl ?_)
  simp only [Int.toNat_natCast, hx]; refine wpAny_bind (wpAny_setField e1 e3 (by simp) (wpAny_bind (wpAny_mkStr (wpAny_pure ⟨_, rfl, wpAny_pure (q _ ⟨_, Heap.get?_update_self _ e1 (Obj.isFreed_of_fields (Obj.data_mapFields e3 _)), (Obj.cls_mapFields ..).trans e2, ?_⟩ (Heap.SameBut.update ..))⟩) (by show 1 ≤ sizeLine; decide))))
  rw [Obj.data_mapFields e3]; simp [rawInt]
theorem nx_end {Q : Value → Shared → Prop} (hh : A.handled = none) (g : s.heap.IsStrIter it aI x t i) (hx : x.cps[i]? = none) (q : ∀ g2 e, Heap.ExtBut it s.heap g2 → (∃ o, g2.get? e = some o ∧ o.cls = .type "StopIteration") → E (.ref e) { s with heap := g2 }) :
    wpAny (model prog w) A (Builtin.SmallTypes.nextOf (.ref it)) Q E s := by
  obtain ⟨ob, e1, e2, e3⟩ := id g
  unfold Builtin.SmallTypes.nextOf; refine wpAny_bind (wpAny_callSpecial?_slot (name := Str.ofString "__next__") g.typeIs F.slot_str_ascii_iterator_next (wpAny_call_entry F.slot_str_ascii_iterator_next g.typeIs F.entry_str_ascii_iterator_next ?_ (F.args_str_ascii_iterator_next_1 _)))
  show wpAny _ _ (field (.ref it) 0 >>= _) _ _ s; refine wpAny_bind (wpAny_field e1 e3 (x := .str x t) rfl ?_); show wpAny _ _ (field (.ref it) 1 >>= _) _ _ s; refine wpAny_bind (wpAny_field e1 e3 (x := .int i 0) rfl ?_)
  simp only [Int.toNat_natCast, hx]; refine wpAny_bind (wpAny_rule (wpAny_bind (wpAny_setField e1 e3 (by simp) (wpAny_bind (wpAny_letGo ?_))))); show wpAny _ _ (newExc (.type "StopIteration") [] >>= _) _ _ _
  refine wpAny_bind ?_; simp only [newExc, newTuple]; refine wpAny_bind (wpAny_newObj_type ?_ (by size_fits)); refine wpAny_bind (m := firstArgMember _ _) (wpAny_of_eq (a := Value.none) (by first | rfl | (simp only [firstArgMember]; rfl)) ?_); refine wpAny_newObj_type ?_ (by size_fits)
  simp only [raiseNew]; refine wpAny_bind (wpAny_handled ?_); first | rw [show A.in1.handled = none from hh] | rw [hh]
  refine wpAny_bind (wpAny_pure (wpAny_throw ?_)); exact q _ _ (((Heap.SameBut.update ..).extBut.push _).push _) ⟨_, Heap.get?_push_size _ rfl, rfl⟩
variable {z TI TO i1 i2 l1 l2 : Addr} {k1 k2 c2 : Nat} {a b : Value}
theorem zs_item {Q : Value → Shared → Prop} (D : ZipApart z TI TO i1 i2 l1 l2) (hz : IsZip s.heap z TI TO .none) (hTI : IsPair s.heap TI (.ref i1) (.ref i2)) (hTO : IsPair s.heap TO a b)
    (g1 : s.heap.IsStrIter i1 aI x t k1) (g2 : s.heap.IsStrIter i2 aI y t2 k2) (hx : x.cps[k1]? = some c) (hy : y.cps[k2]? = some c2)
    (q : ∀ h' u1 u2 tk, IsZip h' z TI TO (rawInt s.heap.objs.size) → IsPair h' TO (.str ⟨#[c]⟩ u1) (.str ⟨#[c2]⟩ u2) → h'.IsStrIter i1 aI x t (k1 + 1) → h'.IsStrIter i2 aI y t2 (k2 + 1) → IsPair h' s.heap.objs.size (.str ⟨#[c]⟩ u1) (.str ⟨#[c2]⟩ u2) → h'.objs.size = s.heap.objs.size + 1 →
      (∀ m o, m ≠ z → m ≠ TO → m ≠ i1 → m ≠ i2 → s.heap.get? m = some o → h'.get? m = some o) → Q (.ref s.heap.objs.size) { s with heap := h', toks := tk }) :
    wpAny (model prog w) A (Builtin.«zip.__next__» ⟨[.ref z], []⟩) (fun fin s' => ∃ v, fin = .done (.ret v) ∧ Q v s') E s := by
  show wpAny _ _ (field (.ref z) 2 >>= _) _ _ _; refine wpAny_bind (wpAny_field hz rfl (x := .bool false) rfl ?_); show wpAny _ _ (field (.ref z) 3 >>= _) _ _ _; refine wpAny_bind (wpAny_field hz rfl (x := .ref TI) rfl (wpAny_bind (wpAny_seqItems hTI rfl ?_)))
  show wpAny _ _ (Builtin.SmallTypes.ownedTupleIsFree (.ref z) >>= _) _ _ _; refine wpAny_bind ?_; unfold Builtin.SmallTypes.ownedTupleIsFree; refine wpAny_bind (wpAny_field hz rfl (x := .none) rfl (wpAny_pure ?_)); simp only [if_true]
  refine wpAny_bind (wpAny_rule (wpAny_bind (wpAny_field hz rfl (x := .ref TO) rfl (wpAny_bind (wpAny_setField_rec hz (by simp) fun m1 y1 d1 => ?_)))))
  replace y1 : IsZip m1 z TI TO .ellipsis := y1
  refine wpAny_bind ?_; simp only [List.zipIdx_cons, List.zipIdx_nil, List.forIn_cons, List.forIn_nil]; refine wpAny_bind (wpAny_bind (wpAny_onRaise ?_)); show wpAny _ _ (Builtin.SmallTypes.nextOf (.ref i1) >>= _) _ _ _
  refine wpAny_bind (nx_item (g1.extBut d1.extBut D.i1z) hx fun m2 w1 d2 => wpAny_pure ?_)
  have p2 : IsPair m2 TO a b := d2.extBut _ _ D.TOi1 (d1.extBut _ _ D.TOz hTO)
  refine wpAny_bind (wpAny_seqItems p2 rfl (wpAny_bind (wpAny_updateSeq_pair p2 fun m3 p3 d3 => ?_)))
  replace p3 : IsPair m3 TO (.str ⟨#[c]⟩ s.toks) b := p3
  refine wpAny_bind (wpAny_letGo (wpAny_pure ?_)); refine wpAny_bind (wpAny_bind (wpAny_onRaise ?_)); show wpAny _ _ (Builtin.SmallTypes.nextOf (.ref i2) >>= _) _ _ _
  refine wpAny_bind (nx_item (((g2.extBut d1.extBut D.i2z).extBut d2.extBut D.i12.symm).extBut d3.extBut D.TOi2.symm) hy fun m4 w2 d4 => wpAny_pure ?_)
  have p4 : IsPair m4 TO (.str ⟨#[c]⟩ s.toks) b := d4.extBut _ _ D.TOi2 p3
  refine wpAny_bind (wpAny_seqItems p4 rfl (wpAny_bind (wpAny_updateSeq_pair p4 fun m5 p5 d5 => ?_)))
  replace p5 : IsPair m5 TO (.str ⟨#[c]⟩ s.toks) (.str ⟨#[c2]⟩ (s.toks + 1)) := p5
  refine wpAny_bind (wpAny_letGo (wpAny_pure (wpAny_pure ?_))); refine wpAny_bind (wpAny_seqItems p5 rfl (wpAny_bind (wpAny_newTuple ?_)))
  have sz : m5.objs.size = s.heap.objs.size := by rw [d5.1, d4.1, d3.1, d2.1, d1.1]
  have y5 : IsZip m5 z TI TO .ellipsis := d5.extBut _ _ D.TOz.symm (d4.extBut _ _ D.i2z.symm (d3.extBut _ _ D.TOz.symm (d2.extBut _ _ D.i1z.symm y1)))
  have kp : ∀ m o, m ≠ z → m ≠ TO → m ≠ i1 → m ≠ i2 → s.heap.get? m = some o → m5.get? m = some o := fun m o n1 n2 n3 n4 e => d5.extBut _ _ n2 (d4.extBut _ _ n4 (d3.extBut _ _ n2 (d2.extBut _ _ n3 (d1.extBut _ _ n1 e))))
  have v1 : m5.IsStrIter i1 aI x t (k1 + 1) := ((w1.extBut d3.extBut D.TOi1.symm).extBut d4.extBut D.i12).extBut d5.extBut D.TOi1.symm
  have v2 : m5.IsStrIter i2 aI y t2 (k2 + 1) := w2.extBut d5.extBut D.TOi2.symm
  have lz : z < m5.objs.size := Heap.lt_size y5
  show wpAny _ _ (Builtin.SmallTypes.ownedTupleHandOut (.ref z) (.ref m5.objs.size) >>= _) _ _ _; refine wpAny_bind ?_; unfold Builtin.SmallTypes.ownedTupleHandOut
  have y6 : IsZip (m5.push { cls := .type "tuple", data := .seq #[.str ⟨#[c]⟩ s.toks, .str ⟨#[c2]⟩ (s.toks + 1)] }) z TI TO .ellipsis := Heap.get?_push_of_some _ y5
  refine wpAny_bind (wpAny_setField_rec y6 (by simp) fun m7 y7 d7 => ?_)
  replace y7 : IsZip m7 z TI TO (rawInt m5.objs.size) := y7
  refine wpAny_setField_rec y7 (by simp) fun m8 y8 d8 => ?_
  replace y8 : IsZip m8 z TI TO (rawInt m5.objs.size) := y8
  have up : ∀ m o, m ≠ z → m5.get? m = some o → m8.get? m = some o := fun m o n1 e => d8.extBut _ _ n1 (d7.extBut _ _ n1 (Heap.get?_push_of_some _ e))
  have pT : IsPair m8 m5.objs.size (.str ⟨#[c]⟩ s.toks) (.str ⟨#[c2]⟩ (s.toks + 1)) := d8.extBut _ _ (Nat.ne_of_gt lz) (d7.extBut _ _ (Nat.ne_of_gt lz) (Heap.get?_push_size _ rfl))
  have sz8 : m8.objs.size = m5.objs.size + 1 := by rw [d8.1, d7.1, Heap.size_push]
  rw [sz] at y8 pT sz8
  refine wpAny_pure ⟨_, rfl, ?_⟩; show Q (.ref m5.objs.size) _; rw [sz]
  have at1 : ∀ {i : Addr} {X : Str} {T : Tok} {k : Nat}, i ≠ z → m5.IsStrIter i aI X T k → m8.IsStrIter i aI X T k := fun n ⟨o, e, r⟩ => ⟨o, up _ o n e, r⟩
  exact q m8 _ _ _ y8 (up _ _ D.TOz p5) (at1 D.i1z v1) (at1 D.i2z v2) pT sz8 fun m o n1 n2 n3 n4 e => up m o n1 (kp m o n1 n2 n3 n4 e)
theorem zs_end {Q : Fin → Shared → Prop} (hh : A.handled = none) (D : ZipApart z TI TO i1 i2 l1 l2) (hz : IsZip s.heap z TI TO .none) (hTI : IsPair s.heap TI (.ref i1) (.ref i2)) (hTO : IsPair s.heap TO a b)
    (g1 : s.heap.IsStrIter i1 aI x t k1) (g2 : s.heap.IsStrIter i2 aI y t2 k2) (hend : x.cps[k1]? = none ∨ y.cps[k2]? = none)
    (q : ∀ h' e tk, (∀ m o, m ≠ z → m ≠ TO → m ≠ i1 → m ≠ i2 → s.heap.get? m = some o → h'.get? m = some o) → (∃ o, h'.get? e = some o ∧ o.cls = .type "StopIteration") → E (.ref e) { s with heap := h', toks := tk }) :
    wpAny (model prog w) A (Builtin.«zip.__next__» ⟨[.ref z], []⟩) Q E s := by
  show wpAny _ _ (field (.ref z) 2 >>= _) _ _ _; refine wpAny_bind (wpAny_field hz rfl (x := .bool false) rfl ?_); show wpAny _ _ (field (.ref z) 3 >>= _) _ _ _; refine wpAny_bind (wpAny_field hz rfl (x := .ref TI) rfl (wpAny_bind (wpAny_seqItems hTI rfl ?_)))
  show wpAny _ _ (Builtin.SmallTypes.ownedTupleIsFree (.ref z) >>= _) _ _ _; refine wpAny_bind ?_; unfold Builtin.SmallTypes.ownedTupleIsFree; refine wpAny_bind (wpAny_field hz rfl (x := .none) rfl (wpAny_pure ?_)); simp only [if_true]
  refine wpAny_bind (wpAny_rule (wpAny_bind (wpAny_field hz rfl (x := .ref TO) rfl (wpAny_bind (wpAny_setField_rec hz (by simp) fun m1 y1 d1 => ?_)))))
  replace y1 : IsZip m1 z TI TO .ellipsis := y1
  refine wpAny_bind ?_; simp only [List.zipIdx_cons, List.zipIdx_nil, List.forIn_cons, List.forIn_nil]; refine wpAny_bind (wpAny_bind (wpAny_onRaise ?_)); show wpAny _ _ (Builtin.SmallTypes.nextOf (.ref i1) >>= _) _ _ _
  cases hx : x.cps[k1]? with
  | none =>
    refine wpAny_bind (nx_end hh (g1.extBut d1.extBut D.i1z) hx fun m2 e d2 he => ?_)
    obtain ⟨oe, he1, he2⟩ := he
    have y2 : IsZip m2 z TI TO .ellipsis := d2 _ _ D.i1z.symm y1
    have ne : e ≠ z := fun w => by subst w; rw [y2] at he1; cases he1; simp at he2
    exact wpAny_setField_rec y2 (by simp) fun m3 _ d3 => q m3 e _ (fun m o n1 _ n3 _ w => d3.extBut _ _ n1 (d2 _ _ n3 (d1.extBut _ _ n1 w))) ⟨oe, d3.extBut _ _ ne he1, he2⟩
  | some c =>
    have hy : y.cps[k2]? = none := hend.resolve_left (by rw [hx]; simp)
    refine wpAny_bind (nx_item (g1.extBut d1.extBut D.i1z) hx fun m2 w1 d2 => wpAny_pure ?_)
    have p2 : IsPair m2 TO a b := d2.extBut _ _ D.TOi1 (d1.extBut _ _ D.TOz hTO)
    refine wpAny_bind (wpAny_seqItems p2 rfl (wpAny_bind (wpAny_updateSeq_pair p2 fun m3 p3 d3 => ?_)))
    refine wpAny_bind (wpAny_letGo (wpAny_pure ?_)); refine wpAny_bind (wpAny_bind (wpAny_onRaise ?_)); show wpAny _ _ (Builtin.SmallTypes.nextOf (.ref i2) >>= _) _ _ _
    refine wpAny_bind (nx_end hh (((g2.extBut d1.extBut D.i2z).extBut d2.extBut D.i12.symm).extBut d3.extBut D.TOi2.symm) hy fun m4 e d4 he => ?_)
    obtain ⟨oe, he1, he2⟩ := he
    have y4 : IsZip m4 z TI TO .ellipsis := d4 _ _ D.i2z.symm (d3.extBut _ _ D.TOz.symm (d2.extBut _ _ D.i1z.symm y1))
    have ne : e ≠ z := fun w => by subst w; rw [y4] at he1; cases he1; simp at he2
    exact wpAny_setField_rec y4 (by simp) fun m5 _ d5 => q m5 e _ (fun m o n1 n2 n3 n4 w => d5.extBut _ _ n1 (d4 _ _ n4 (d3.extBut _ _ n2 (d2.extBut _ _ n3 (d1.extBut _ _ n1 w))))) ⟨oe, d5.extBut _ _ ne he1, he2⟩
theorem pn_item {Q : Option Value → Shared → Prop} (D : ZipApart z TI TO i1 i2 l1 l2) (hz : IsZip s.heap z TI TO .none) (hTI : IsPair s.heap TI (.ref i1) (.ref i2)) (hTO : IsPair s.heap TO a b)
    (g1 : s.heap.IsStrIter i1 aI x t k1) (g2 : s.heap.IsStrIter i2 aI y t2 k2) (hx : x.cps[k1]? = some c) (hy : y.cps[k2]? = some c2)
    (q : ∀ h' u1 u2 tk, IsZip h' z TI TO (rawInt s.heap.objs.size) → IsPair h' TO (.str ⟨#[c]⟩ u1) (.str ⟨#[c2]⟩ u2) → h'.IsStrIter i1 aI x t (k1 + 1) → h'.IsStrIter i2 aI y t2 (k2 + 1) → IsPair h' s.heap.objs.size (.str ⟨#[c]⟩ u1) (.str ⟨#[c2]⟩ u2) → h'.objs.size = s.heap.objs.size + 1 →
      (∀ m o, m ≠ z → m ≠ TO → m ≠ i1 → m ≠ i2 → s.heap.get? m = some o → h'.get? m = some o) → Q (some (.ref s.heap.objs.size)) { s with heap := h', toks := tk }) :
    wpAny (model prog w) A (pyNext (.ref z)) Q E s := by
  have ht : s.TypeIs (.ref z) "zip" := ⟨_, hz, rfl⟩
  unfold pyNext; exact wpAny_bind (wpAny_attempt (wpAny_callSpecial?_slot (name := Str.ofString "__next__") ht F.slot_zip_next (wpAny_call_entry F.slot_zip_next ht F.entry_zip_next (zs_item D hz hTI hTO g1 g2 hx hy fun h' u1 u2 tk b1 b2 b3 b4 b5 b6 b7 => wpAny_pure (q h' u1 u2 tk b1 b2 b3 b4 b5 b6 b7)) (F.args_zip_next_1 _))))
theorem pn_end {Q : Option Value → Shared → Prop} (hh : A.handled = none) (D : ZipApart z TI TO i1 i2 l1 l2) (hz : IsZip s.heap z TI TO .none) (hTI : IsPair s.heap TI (.ref i1) (.ref i2)) (hTO : IsPair s.heap TO a b)
    (g1 : s.heap.IsStrIter i1 aI x t k1) (g2 : s.heap.IsStrIter i2 aI y t2 k2) (hend : x.cps[k1]? = none ∨ y.cps[k2]? = none)
    (q : ∀ h' tk, (∀ m o, m ≠ z → m ≠ TO → m ≠ i1 → m ≠ i2 → s.heap.get? m = some o → h'.get? m = some o) → Q none { s with heap := h', toks := tk }) : wpAny (model prog w) A (pyNext (.ref z)) Q E s := by
  have ht : s.TypeIs (.ref z) "zip" := ⟨_, hz, rfl⟩
  unfold pyNext; refine wpAny_bind (wpAny_attempt (wpAny_callSpecial?_slot (name := Str.ofString "__next__") ht F.slot_zip_next (wpAny_call_entry F.slot_zip_next ht F.entry_zip_next (zs_end hh D hz hTI hTO g1 g2 hend fun h' e tk hk he => ?_) (F.args_zip_next_1 _))))
  obtain ⟨oe, he1, he2⟩ := he
  exact wpAny_bind (wpAny_isInstance (T := "StopIteration") (b := true) ⟨oe, he1, he2⟩ isSubtype_stop (wpAny_pure (q _ _ hk)))
end
/-! the making -/
abbrev m1 (h : Heap) (x : Str) (t : Tok) : Heap := h.push { cls := .type aI, data := .fields #[.str x t, .int 0 0] }
abbrev m2 (h : Heap) (x y : Str) (t t2 : Tok) : Heap := (m1 h x t).push { cls := .type aI, data := .fields #[.str y t2, .int 0 0] }
abbrev m3 (h : Heap) (x y : Str) (t t2 : Tok) : Heap := (m2 h x y t t2).push { cls := .type "tuple", data := .seq #[.ref h.objs.size, .ref (m1 h x t).objs.size] }
abbrev m4 (h : Heap) (x y : Str) (t t2 : Tok) : Heap := (m3 h x y t t2).push { cls := .type "tuple", data := .seq #[.none, .none] }
abbrev m5 (h : Heap) (x y : Str) (t t2 : Tok) : Heap := (m4 h x y t t2).push { cls := .type "zip", data := .fields #[.none, .bool false, .bool false, .ref (m2 h x y t t2).objs.size, .ref (m3 h x y t t2).objs.size] }
theorem mz_new (x y : Str) (t t2 : Tok) (hx : x.cps.all (· < 128) = true) (hy : y.cps.all (· < 128) = true) :
    Meets (Builtin.«zip.__new__» ⟨[.type "zip", .str x t, .str y t2], []⟩) (fun _ R s => R (.ok (.ret (.ref (m4 s.heap x y t t2).objs.size))) { s with heap := m5 s.heap x y t t2 }) :=
  .of_wp fun prog w A R s h => by
    obtain ⟨hp, g, d, tk, os⟩ := s
    have hsub := sub_zip
    wp_walk using wpAny_pyIter_ascii hx, wpAny_pyIter_ascii hy
    exact ⟨_, rfl, h⟩
section
variable {prog : Program} {w : World} {A : Around} {E : Value → Shared → Prop} {s : Shared} {x y : Str} {t t2 : Tok}
theorem call_zs {Q : Value → Shared → Prop} (hx : x.cps.all (· < 128) = true) (hy : y.cps.all (· < 128) = true)
    (q : ∀ h', IsZip h' (s.heap.objs.size + 4) (s.heap.objs.size + 2) (s.heap.objs.size + 3) .none → IsPair h' (s.heap.objs.size + 2) (.ref s.heap.objs.size) (.ref (s.heap.objs.size + 1)) →
      IsPair h' (s.heap.objs.size + 3) .none .none → h'.IsStrIter s.heap.objs.size aI x t 0 → h'.IsStrIter (s.heap.objs.size + 1) aI y t2 0 → (∀ c o, s.heap.get? c = some o → h'.get? c = some o) → Q (.ref (s.heap.objs.size + 4)) { s with heap := h' }) :
    wpAny (model prog w) A (call (.type "zip") [.str x t, .str y t2]) Q E s := by
  refine callType_new F.called_zip (by decide) (F.typeCall_zip_2 _ _) (F.newCall_zip_2 _ _) (fun ob => F.args_object_init_3 ob _ _) F.entry_zip_new (mz_new x y t t2 hx hy) ?_
  have z1 : (m1 s.heap x t).objs.size = s.heap.objs.size + 1 := Heap.size_push ..
  have z2 : (m2 s.heap x y t t2).objs.size = s.heap.objs.size + 2 := by rw [Heap.size_push, z1]
  have z3 : (m3 s.heap x y t t2).objs.size = s.heap.objs.size + 3 := by rw [Heap.size_push, z2]
  have z4 : (m4 s.heap x y t t2).objs.size = s.heap.objs.size + 4 := by rw [Heap.size_push, z3]
  have g5 : (m5 s.heap x y t t2).get? (m4 s.heap x y t t2).objs.size = some _ := Heap.get?_push_size _ rfl
  have g4 : (m5 s.heap x y t t2).get? (m3 s.heap x y t t2).objs.size = some _ := Heap.get?_push_of_some _ (Heap.get?_push_size _ rfl)
  have g3 : (m5 s.heap x y t t2).get? (m2 s.heap x y t t2).objs.size = some _ := Heap.get?_push_of_some _ (Heap.get?_push_of_some _ (Heap.get?_push_size _ rfl))
  have g2 : (m5 s.heap x y t t2).get? (m1 s.heap x t).objs.size = some _ := Heap.get?_push_of_some _ (Heap.get?_push_of_some _ (Heap.get?_push_of_some _ (Heap.get?_push_size _ rfl)))
  have g1 : (m5 s.heap x y t t2).get? s.heap.objs.size = some _ := Heap.get?_push_of_some _ (Heap.get?_push_of_some _ (Heap.get?_push_of_some _ (Heap.get?_push_of_some _ (Heap.get?_push_size _ rfl))))
  show _ ∧ _
  rw [z2, z3, z4] at g5; rw [z1, z2] at g3; rw [z3] at g4; rw [z1] at g2; rw [z4]
  exact ⟨⟨_, g5, rfl⟩, q _ g5 g3 g4 ⟨_, g1, rfl, rfl⟩ ⟨_, g2, rfl, rfl⟩ fun c o u => Heap.get?_push_of_some _ (Heap.get?_push_of_some _ (Heap.get?_push_of_some _ (Heap.get?_push_of_some _ (Heap.get?_push_of_some _ u))))⟩
end
/-! the iterator -/
/-- the signs of two texts, in new pairs -/
def Izs (x y : Str) : It :=
  ⟨fun i _ => i < x.cps.size ∧ i < y.cps.size, fun i H v H' => ∃ T c c2, v = .ref T ∧ H T = none ∧ H' = upd H T (.tup [.str ⟨#[c]⟩, .str ⟨#[c2]⟩]) ∧ x.cps[i]? = some c ∧ y.cps[i]? = some c2, fun i _ => x.cps.size ≤ i ∨ y.cps.size ≤ i⟩
theorem turn_zs {P : Program} {w : World} {K : PySem.W.Frag} {elts : List Expr} {kk : Nat} {tpos : Pos} {l1 l2 z TI TO i1 i2 : Addr} {x y : Str} {t t2 : Tok} (D : ZipApart z TI TO i1 i2 l1 l2) :
    Turn P w K (.Tuple elts kk tpos) (Izs x y) [z, TI, TO, i1, i2] z (fun i h => IsZip h z TI TO .none ∧ IsPair h TI (.ref i1) (.ref i2) ∧ (∃ a b, IsPair h TO a b) ∧ h.IsStrIter i1 aI x t i ∧ h.IsStrIter i2 aI y t2 i) where
  mem := by simp
  obj := fun i h st c hc => by
    obtain ⟨hz, hTI, ⟨a, b, hTO⟩, ⟨o1, e1, _, d1⟩, ⟨o2, e2, _, d2⟩⟩ := st
    simp only [List.mem_cons, List.not_mem_nil, or_false] at hc
    rcases hc with rfl | rfl | rfl | rfl | rfl
    · exact ⟨_, hz, fun v n => nomatch n⟩
    · exact ⟨_, hTI, fun v n => nomatch n⟩
    · exact ⟨_, hTO, fun v n => nomatch n⟩
    · exact ⟨o1, e1, fun v n => by rw [d1] at n; cases n⟩
    · exact ⟨o2, e2, fun v n => by rw [d2] at n; cases n⟩
  keep := fun i h h' st k => by
    obtain ⟨hz, hTI, ⟨a, b, hTO⟩, ⟨o1, e1, r1⟩, ⟨o2, e2, r2⟩⟩ := st
    exact ⟨k z (by simp) _ hz, k TI (by simp) _ hTI, ⟨a, b, k TO (by simp) _ hTO⟩, ⟨o1, k i1 (by simp) _ e1, r1⟩, ⟨o2, k i2 (by simp) _ e2, r2⟩⟩
  item := by
    intro X hP hw hK hc i pins s σ H E I hf st hg
    subst hP hw hK
    obtain ⟨hz, hTI, ⟨a, b, hTO⟩, g1, g2⟩ := st
    obtain ⟨hgx, hgy⟩ := (show i < x.cps.size ∧ i < y.cps.size from hg)
    have hx : x.cps[i]? = some x.cps[i] := Array.getElem?_eq_getElem hgx
    have hy : y.cps[i]? = some y.cps[i] := Array.getElem?_eq_getElem hgy
    have hzl : z < s.heap.objs.size := Heap.lt_size hz
    refine pn_item D hz hTI hTO g1 g2 hx hy fun h' u1 u2 tk z' TO' g1' g2' hT hsz hk => ?_
    refine ⟨_, rfl, wpAny_letOwnedTupleGo_zip (s := { s with heap := h', toks := tk }) z' fun h'' z'' sb => ?_⟩
    have hT2 : h''.get? s.heap.objs.size = some { cls := .type "tuple", data := .seq #[.str ⟨#[x.cps[i]]⟩ u1, .str ⟨#[y.cps[i]]⟩ u2] } := (sb.2 _ (Nat.ne_of_gt hzl)).trans hT
    have new : ObjOk X.prog X.w (upd H s.heap.objs.size (.tup [.str ⟨#[x.cps[i]]⟩, .str ⟨#[y.cps[i]]⟩])) h'' s.heap.objs.size (.tup [.str ⟨#[x.cps[i]]⟩, .str ⟨#[y.cps[i]]⟩]) :=
      ⟨by show 2 ≤ sizeLine; decide, _, .cons ⟨u1, rfl⟩ (.cons ⟨u2, rfl⟩ .nil), ⟨_, hT2, rfl, _, rfl⟩⟩
    have far : ∀ c o, c ∉ [z, TI, TO, i1, i2] → s.heap.get? c = some o → h''.get? c = some o := fun c o hb q => by
      simp only [List.mem_cons, List.not_mem_nil, or_false, not_or] at hb
      exact (sb.2 c hb.1).trans (hk c o hb.1 hb.2.2.1 hb.2.2.2.1 hb.2.2.2.2 q)
    have I1 : Inv X pins σ (upd H s.heap.objs.size (.tup [.str ⟨#[x.cps[i]]⟩, .str ⟨#[y.cps[i]]⟩])) { s with heap := h'', toks := tk } := I.turnedNew (ch := [z, TI, TO, i1, i2]) far hf (Nat.le_refl _) new
    refine ⟨.ref s.heap.objs.size, _, I1, rfl, ⟨_, _, _, rfl, I.hok.fresh (Nat.le_refl _), rfl, hx, hy⟩, ⟨z'', (sb.2 _ D.TIz).trans (hk _ _ D.TIz D.TITO D.TIi1 D.TIi2 hTI), ⟨_, _, (sb.2 _ D.TOz).trans TO'⟩, ?_, ?_⟩, fun c hcm => ?_⟩
    · obtain ⟨o, e, r⟩ := g1'; exact ⟨o, (sb.2 _ D.i1z).trans e, r⟩
    · obtain ⟨o, e, r⟩ := g2'; exact ⟨o, (sb.2 _ D.i2z).trans e, r⟩
    · have hlt : c < s.heap.objs.size := by
        simp only [List.mem_cons, List.not_mem_nil, or_false] at hcm
        rcases hcm with rfl | rfl | rfl | rfl | rfl
        · exact hzl
        · exact Heap.lt_size hTI
        · exact Heap.lt_size hTO
        · obtain ⟨_, e, _⟩ := g1; exact Heap.lt_size e
        · obtain ⟨_, e, _⟩ := g2; exact Heap.lt_size e
      rw [upd_ne (Nat.ne_of_lt hlt)]; exact (hf c hcm).1
  done := by
    intro X hP hw hK hc i pins s σ H E I hf st hg
    subst hP hw hK
    obtain ⟨hz, hTI, ⟨a, b, hTO⟩, g1, g2⟩ := st
    have he : x.cps[i]? = none ∨ y.cps[i]? = none := hg.imp (fun n => Array.getElem?_eq_none n) (fun n => Array.getElem?_eq_none n)
    exact pn_end (I.ok.hd hc) D hz hTI hTO g1 g2 he fun h' tk hk => ⟨rfl, I.turnedL (ch := [z, TI, TO, i1, i2]) (fun c o hb q => by
      simp only [List.mem_cons, List.not_mem_nil, or_false, not_or] at hb
      exact hk c o hb.1 hb.2.2.1 hb.2.2.2.1 hb.2.2.2.2 q) hf⟩
  self := fun A i s Q E st h => wpAny_pyIter_zip st.1 h
def iZs (ta : TA) : TI := fun σ H R => ta σ H fun vs H1 => ∃ x y, vs = [.str x, .str y] ∧ x.cps.all (· < 128) = true ∧ y.cps.all (· < 128) = true ∧ R (Izs x y) H1
theorem apart_new (n : Nat) : ZipApart (n + 4) (n + 2) (n + 3) n (n + 1) (n + 10) (n + 11) := by
  constructor <;> (show (_ : Nat) ≠ _; omega)
theorem pi_zs {X : Cx} {e e2 : Expr} {ta : TA} {p pos tpos : Pos} {elts : List Expr} {kk : Nat} (hg : Gl X "zip") (hm : X.mg "zip" = none) (ha : PA X [e, e2] ta)
    (hs : starEach [e, e2] X.env = (false, eval e X.env) :: starEach [e2] X.env) (hpl : (backTo pos (starEach [e2] X.env)).any (·.1) = false) : PI X (.Tuple elts kk tpos) (.Call (.Name "zip" p) [e, e2] [] pos) (iZs ta) := by
  refine ⟨fun pins s σ H R I h => ?_⟩
  refine Call_ (ld_blt I hg hm PyProof.Rows.boot_zip (PyProof.Rows.callWith_type1 (thn (ha.run pos pins s σ H _ I h) fun us s1 ⟨vs, H1, I1, r1, x, y, ex, hx, hy, q⟩ => ?_) hs hpl))
  subst ex
  cases r1 with
  | cons r rr =>
    cases rr with
    | cons r' rr =>
      cases rr
      obtain ⟨t, rfl⟩ := r
      obtain ⟨t2, rfl⟩ := r'
      have fresh : ∀ c, c ∈ [s1.heap.objs.size + 4, s1.heap.objs.size + 2, s1.heap.objs.size + 3, s1.heap.objs.size, s1.heap.objs.size + 1] → FpOk X pins H1 c := fun c hcm => by
        have hle : s1.heap.objs.size ≤ c := by
          simp only [List.mem_cons, List.not_mem_nil, or_false] at hcm
          rcases hcm with z | z | z | z | z <;> (rw [z]; first | exact Nat.le_add_right _ _ | exact Nat.le_refl _)
        exact I1.fpOk hle (I1.hok.fresh hle)
      refine call_zs hx hy fun h' hz hTI hTO h1 h2 hk => wpAny_pyIter_zip hz ?_
      have I2 : Inv X pins σ H1 { s1 with heap := h' } := I1.kept (t' := s1.toks) hk
      exact ⟨s1.heap.objs.size + 4, _, _, _, H1, rfl, I2, turn_zs (apart_new s1.heap.objs.size), ⟨hz, hTI, ⟨_, _, hTO⟩, h1, h2⟩, fresh, q⟩
end Zs
/-! E1: data, what a frame holds. -/
namespace Ev
open PySem PySem.Spec PyProof.Rows L2 Sg

/-- no table of code objects -/
def NtO (o : HO) : Prop := ∀ ps, o ≠ .tbl ps
/-- all but such tables stay -/
def Ex (H H' : Hp) : Prop := ∀ a o, H a = some o → NtO o → H' a = some o
theorem Ex.refl (H : Hp) : Ex H H := fun _ _ h _ => h
theorem Ex.trans {H H1 H2 : Hp} (a : Ex H H1) (b : Ex H1 H2) : Ex H H2 := fun x o h n => b x o (a x o h n) n
theorem Ex.new {H : Hp} {p : Addr} {o : HO} (h : H p = none) : Ex H (upd H p o) := fun a u e _ => by rw [upd_ne (ne_of_none e h)]; exact e
theorem Ex.of {H H' : Hp} (e : ∀ a o, H a = some o → H' a = some o) : Ex H H' := fun a o h _ => e a o h
theorem Ex.rd {H H' : Hp} {a : Addr} {u : HO} (e : Ex H H') (n : NtO u) (h : Rd H a u) : Rd H' a u := h.elim (fun h => .inl (e a _ h n)) fun ⟨o, h⟩ => .inr ⟨o, e a _ h fun _ z => by cases z⟩
theorem nt_lst {xs : List V} : NtO (.lst xs) := fun _ z => by cases z
theorem nt_tup {xs : List V} : NtO (.tup xs) := fun _ z => by cases z
theorem nt_ins {C dx : Addr} {fs : List (Str × V)} : NtO (.ins C dx fs) := fun _ z => by cases z
theorem nt_dK {kvs : List (Key × V)} : NtO (.dK kvs) := fun _ z => by cases z
theorem nt_xd {fs : List (Str × V)} : NtO (.xd fs) := fun _ z => by cases z
theorem ex_l {K : PySem.W.Frag} {H H' : Hp} {a : Addr} {xs : List V} (e : Ex H H') (h : SqL K H a xs) : SqL K H' a xs := h.elim (fun h => .inl (e.rd nt_lst h)) .inr
theorem ex_t {K : PySem.W.Frag} {H H' : Hp} {a : Addr} {xs : List V} (e : Ex H H') (h : SqT K H a xs) : SqT K H' a xs := h.elim (fun h => .inl (e.rd nt_tup h)) .inr
/-- something stands there that is no such table -/
def Nt (H : Hp) (p : Addr) : Prop := ∃ o, H p = some o ∧ NtO o
theorem Ex.nt {H H' : Hp} {p : Addr} (e : Ex H H') (h : Nt H p) : Nt H' p := let ⟨o, a, b⟩ := h; ⟨o, e _ _ a b, b⟩
theorem nt_none {H : Hp} {p : Addr} (h : H p = none) : ¬ Nt H p := fun ⟨_, a, _⟩ => by rw [h] at a; cases a
theorem Nt.ne {H : Hp} {p : Addr} (h : Nt H p) : H p ≠ none := fun z => nt_none z h
/-- the tables -/
abbrev Tbs (L : List (Addr × Str)) (H : Hp) : Prop := LamX.Tabs L H
theorem tbs_keep {T : List (Addr × Str)} {H H' : Hp} (t : Tbs T H) (e : ∀ b o, H b = some o → ((∃ ps, o = .tbl ps) ∨ ∃ φ, o = .ext φ) → H' b = some o) : Tbs T H' := fun p hp => by
  obtain ⟨ps, h1, h2, h3⟩ := t p hp
  exact ⟨ps, e _ _ h1 (.inl ⟨_, rfl⟩), h2, fun pos cv hc => let ⟨c, e1, e2⟩ := h3 pos cv hc; ⟨c, e1, e _ _ e2 (.inr ⟨_, rfl⟩)⟩⟩
theorem tbs_new {T : List (Addr × Str)} {H : Hp} {p : Addr} {o : HO} (t : Tbs T H) (h : H p = none) : Tbs T (upd H p o) := t.ext fun b u e => by rw [upd_ne (ne_of_none e h)]; exact e
/-- what may be changed -/
def OwO (o : HO) : Prop := (∀ ps, o ≠ .tbl ps) ∧ ∀ φ, o ≠ .ext φ
theorem tbs_upd {T : List (Addr × Str)} {H : Hp} {p : Addr} {o u : HO} (t : Tbs T H) (h : H p = some o) (n : OwO o) : Tbs T (upd H p u) := tbs_keep t fun b w e z => by
  rw [upd_ne]
  · exact e
  · rintro rfl
    rw [h] at e
    cases e
    rcases z with ⟨ps, z⟩ | ⟨φ, z⟩
    · exact n.1 _ z
    · exact n.2 _ z
/-! ### data -/
inductive Dt where
  | non
  | bl (b : Bool)
  | int (i : Int)
  | str (x : List Nat)
  | lst (l : List Dt)
  | tup (l : List Dt)
  | obj (c : Nat) (l : List Dt)
  | dct (ks : List Key) (l : List Dt)
  | con (n : Nat)
  deriving Inhabited
/-- a text by its signs -/
def mkS (x : List Nat) : Str := ⟨x.toArray⟩
/-- where the program's own things lie: the classes by number, the names of their attributes in order, other values by number -/
structure Kl where
  ad : Nat → Addr
  fl : Nat → List Str
  cv : Nat → V
  /-- the defs by number: where each lies, its record, its parameters -/
  fa : Nat → Addr
  fd : Nat → FuncData
  ps : Nat → List Str
  /-- the classes of errors by number -/
  xv : Nat → Value
  /-- the tables of code objects -/
  tb : List (Addr × Str)
  /-- the code objects of the defs that make lambdas, and their tables -/
  cs : List (Addr × Addr)
  /-- names of attributes by number -/
  nm : Nat → Str
mutual
inductive Im (K : PySem.W.Frag) (L : Kl) (H : Hp) : V → Dt → Prop
  | non : Im K L H .non .non
  | bl (b : Bool) : Im K L H (.bl b) (.bl b)
  | int (i : Int) : Im K L H (.int i) (.int i)
  | str (x : List Nat) : Im K L H (.str (mkS x)) (.str x)
  | lst {a : Addr} {xs : List V} {ds : List Dt} : SqL K H a xs → Ims K L H xs ds → Im K L H (.ref a) (.lst ds)
  | tup {a : Addr} {xs : List V} {ds : List Dt} : SqT K H a xs → Ims K L H xs ds → Im K L H (.ref a) (.tup ds)
  | obj {a dx : Addr} {c : Nat} {fs : List (Str × V)} {ds : List Dt} : H a = some (.ins (L.ad c) dx fs) →
      fs.map (·.1) = L.fl c → Ims K L H (fs.map (·.2)) ds → Im K L H (.ref a) (.obj c ds)
  | dct {a : Addr} {kvs : List (Key × V)} {ks : List Key} {ds : List Dt} : H a = some (.dK kvs) →
      kvs.map (·.1) = ks → Ims K L H (kvs.map (·.2)) ds → Im K L H (.ref a) (.dct ks ds)
  | con (n : Nat) : Im K L H (L.cv n) (.con n)
inductive Ims (K : PySem.W.Frag) (L : Kl) (H : Hp) : List V → List Dt → Prop
  | nil : Ims K L H [] []
  | cons {v : V} {vs : List V} {d : Dt} {ds : List Dt} : Im K L H v d → Ims K L H vs ds → Ims K L H (v :: vs) (d :: ds)
end
section
variable {K : PySem.W.Frag} {L : Kl} {H H' : Hp}
mutual
theorem Im.ext (e : Ex H H') : ∀ {v : V} {d : Dt}, Im K L H v d → Im K L H' v d
  | _, _, .non => .non
  | _, _, .bl b => .bl b
  | _, _, .int b => .int b
  | _, _, .str b => .str b
  | _, _, .lst s r => .lst (ex_l e s) (Ims.ext e r)
  | _, _, .tup s r => .tup (ex_t e s) (Ims.ext e r)
  | _, _, .obj h n r => .obj (e _ _ h nt_ins) n (Ims.ext e r)
  | _, _, .dct h n r => .dct (e _ _ h nt_dK) n (Ims.ext e r)
  | _, _, .con n => .con n
theorem Ims.ext (e : Ex H H') : ∀ {vs : List V} {ds : List Dt}, Ims K L H vs ds → Ims K L H' vs ds
  | _, _, .nil => .nil
  | _, _, .cons a r => .cons (Im.ext e a) (Ims.ext e r)
end
theorem Ims.length : ∀ {vs : List V} {ds : List Dt}, Ims K L H vs ds → vs.length = ds.length
  | _, _, .nil => rfl
  | _, _, .cons _ r => by rw [List.length_cons, List.length_cons, r.length]
theorem Ims.append : ∀ {vs ws : List V} {ds es : List Dt}, Ims K L H vs ds → Ims K L H ws es → Ims K L H (vs ++ ws) (ds ++ es)
  | _, _, _, _, .nil, q => q
  | _, _, _, _, .cons a r, q => .cons a (r.append q)
theorem Ims.split : ∀ {vs ws : List V} {ds es : List Dt}, vs.length = ds.length → Ims K L H (vs ++ ws) (ds ++ es) → Ims K L H vs ds ∧ Ims K L H ws es
  | [], _, [], _, _, q => ⟨.nil, q⟩
  | v :: vs, _, d :: ds, _, h, .cons a r =>
    let ⟨x, y⟩ := Ims.split (vs := vs) (ds := ds) (by simpa using h) r
    ⟨.cons a x, y⟩
theorem Ims.get : ∀ {vs : List V} {ds : List Dt} {i : Nat} {d : Dt}, Ims K L H vs ds → ds[i]? = some d → ∃ v, vs[i]? = some v ∧ Im K L H v d
  | _, _, 0, _, .cons a _, h => by
    obtain rfl := Option.some.inj h
    exact ⟨_, rfl, a⟩
  | _, _, i + 1, _, .cons _ r, h => Ims.get (i := i) r h
theorem Ims.set {v : V} {d : Dt} : ∀ {vs : List V} {ds : List Dt} (n : Nat), Ims K L H vs ds → Im K L H v d → Ims K L H (vs.set n v) (ds.set n d)
  | _, _, _, .nil, _ => .nil
  | _, _, 0, .cons _ r, a => .cons a r
  | _, _, n + 1, .cons b r, a => .cons b (r.set n a)
theorem Ims.drop : ∀ {vs : List V} {ds : List Dt} (n : Nat), Ims K L H vs ds → Ims K L H (vs.drop n) (ds.drop n)
  | _, _, 0, h => h
  | _, _, _ + 1, .nil => .nil
  | _, _, n + 1, .cons _ r => r.drop n
theorem Ims.take : ∀ {vs : List V} {ds : List Dt} (n : Nat), Ims K L H vs ds → Ims K L H (vs.take n) (ds.take n)
  | _, _, 0, _ => by rw [List.take_zero, List.take_zero]; exact .nil
  | _, _, _ + 1, .nil => .nil
  | _, _, n + 1, .cons a r => .cons a (r.take n)
theorem Ims.reverse : ∀ {vs : List V} {ds : List Dt}, Ims K L H vs ds → Ims K L H vs.reverse ds.reverse
  | _, _, .nil => .nil
  | _, _, .cons a r => by
    rw [List.reverse_cons, List.reverse_cons]
    exact (r.reverse).append (.cons a .nil)
theorem im_int {v : V} {i : Int} (h : Im K L H v (.int i)) : v = .int i := by cases h; rfl
theorem im_str {v : V} {i : List Nat} (h : Im K L H v (.str i)) : v = .str (mkS i) := by cases h; rfl
theorem im_bl {v : V} {i : Bool} (h : Im K L H v (.bl i)) : v = .bl i := by cases h; rfl
theorem im_non {v : V} (h : Im K L H v .non) : v = .non := by cases h; rfl
theorem im_con {v : V} {n : Nat} (h : Im K L H v (.con n)) : v = L.cv n := by cases h; rfl
end

/-! ### hidden places -/
def hide (H : Hp) (S : List Addr) : Hp := fun a => if a ∈ S then none else H a
section
variable {H H' : Hp} {S S' : List Addr} {p : Addr} {o : HO}
theorem hide_ex : Ex (hide H S) H := fun a u h _ => by
  unfold hide at h
  split at h
  · cases h
  · exact h
theorem hide_mono (e : Ex H H') : Ex (hide H S) (hide H' S) := fun a u h n => by
  unfold hide at h ⊢
  split at h
  · cases h
  · rename_i q
    rw [if_neg q]
    exact e a u h n
theorem hide_get (h : H p = some o) (n : p ∉ S) : hide H S p = some o := by
  unfold hide
  rw [if_neg n]
  exact h
theorem hide_upd (h : p ∈ S) : hide (upd H p o) S = hide H S := by
  funext a
  unfold hide
  by_cases q : a ∈ S
  · rw [if_pos q, if_pos q]
  · rw [if_neg q, if_neg q]
    exact upd_ne fun e => q (e ▸ h)
theorem hide_sub (h : ∀ q ∈ S, q ∈ S') : Ex (hide H S') (hide H S) := fun a u e _ => by
  unfold hide at e ⊢
  split at e
  · cases e
  · rename_i q
    rw [if_neg fun z => q (h a z)]
    exact e
theorem hide_nil : hide H [] = H := by
  funext a
  unfold hide
  rw [if_neg (by simp)]
theorem hide_in (h : p ∈ S) : hide H S p = none := if_pos h
theorem hide_hide : hide (hide H S) S' = hide H (S ++ S') := by
  funext a
  unfold hide
  by_cases h : a ∈ S <;> by_cases h' : a ∈ S' <;> simp [h, h']
theorem hide_none (h : H p = none) : hide H S p = none := by
  unfold hide
  split
  · rfl
  · exact h
end

/-! ### what is one's own -/
inductive OD where
  | lst (l : List Dt)
  | ins (c : Nat) (ns : List Str) (l : List Dt)
  | dct (ks : List Key) (l : List Dt)
  deriving Inhabited
inductive OAt (K : PySem.W.Frag) (L : Kl) (Hh : Hp) : HO → OD → Prop
  | lst {xs : List V} {l : List Dt} : Ims K L Hh xs l → OAt K L Hh (.lst xs) (.lst l)
  | ins {dx : Addr} {c : Nat} {fs : List (Str × V)} {ns : List Str} {l : List Dt} : fs.map (·.1) = ns → Ims K L Hh (fs.map (·.2)) l → OAt K L Hh (.ins (L.ad c) dx fs) (.ins c ns l)
  | dct {kvs : List (Key × V)} {ks : List Key} {l : List Dt} : kvs.map (·.1) = ks → Ims K L Hh (kvs.map (·.2)) l → OAt K L Hh (.dK kvs) (.dct ks l)
theorem OAt.ext {K : PySem.W.Frag} {L : Kl} {H H' : Hp} {h : HO} {o : OD} (e : Ex H H') (x : OAt K L H h o) : OAt K L H' h o := by
  cases x with
  | lst r => exact .lst (r.ext e)
  | ins n r => exact .ins n (r.ext e)
  | dct n r => exact .dct n (r.ext e)
theorem OAt.ow {K : PySem.W.Frag} {L : Kl} {H : Hp} {h : HO} {o : OD} (x : OAt K L H h o) : OwO h := by
  cases x <;> exact ⟨fun _ z => (by cases z), fun _ z => (by cases z)⟩
theorem OAt.nt {K : PySem.W.Frag} {L : Kl} {H : Hp} {h : HO} {o : OD} (x : OAt K L H h o) : NtO h := x.ow.1
/-- it is changed no more -/
def OD.frz (fl : Nat → List Str) : OD → Option Dt
  | .lst l => some (.lst l)
  | .ins c ns l => if ns = fl c then some (.obj c l) else none
  | .dct ks l => some (.dct ks l)
theorem OAt.im {K : PySem.W.Frag} {L : Kl} {H : Hp} {h : HO} {o : OD} {p : Addr} {d : Dt} (x : OAt K L H h o) (hp : H p = some h) (e : o.frz L.fl = some d) : Im K L H (.ref p) d := by
  cases x with
  | lst r => cases e; exact .lst (SqL.of hp) r
  | ins n r =>
    rename_i dx c fs ns l
    by_cases q : ns = L.fl c
    · rw [show OD.frz L.fl (.ins c ns l) = some (.obj c l) from if_pos q] at e
      cases e
      exact .obj hp (n.trans q) r
    · rw [show OD.frz L.fl (.ins c ns l) = none from if_neg q] at e
      cases e
  | dct n r => cases e; exact .dct hp n r

/-! ### what a frame holds -/
inductive Cell where
  | free
  | im (d : Dt)
  /-- one's own; true: handed over by the caller, who takes it back -/
  | own (b : Bool) (o : OD)
  deriving Inhabited
inductive Slots (K : PySem.W.Frag) (L : Kl) (T : Option Addr) (Hh H : Hp) : L2.St → List Cell → List Addr → Prop
  | nil : Slots K L T Hh H [] [] []
  | free {o : Option V} {σ : L2.St} {ds : List Cell} {os : List Addr} : Slots K L T Hh H σ ds os → Slots K L T Hh H (o :: σ) (.free :: ds) os
  | im {v : V} {d : Dt} {σ : L2.St} {ds : List Cell} {os : List Addr} : Im K L Hh v d → Slots K L T Hh H σ ds os → Slots K L T Hh H (some v :: σ) (.im d :: ds) os
  | own {p : Addr} {b : Bool} {h : HO} {o : OD} {σ : L2.St} {ds : List Cell} {os : List Addr} : H p = some h → OAt K L Hh h o → (T = some p ↔ b = true) →
      Slots K L T Hh H σ ds os → Slots K L T Hh H (some (.ref p) :: σ) (.own b o :: ds) (p :: os)
section
variable {K : PySem.W.Frag} {L : Kl} {T : Option Addr} {H H' Hh Hh' : Hp} {σ σ1 σ2 : L2.St} {ds ds1 ds2 : List Cell} {os : List Addr} {v : V} {d : Dt} {p : Addr} {o : OD} {b : Bool}
theorem Slots.len (s : Slots K L T Hh H σ ds os) : σ.length = ds.length := by
  induction s with
  | nil => rfl
  | free _ ih => simp [ih]
  | im _ _ ih => simp [ih]
  | own _ _ _ _ ih => simp [ih]
theorem Slots.ext (ex : Ex Hh Hh') (k : ∀ p ∈ os, ∀ o, H p = some o → NtO o → H' p = some o) (h : Slots K L T Hh H σ ds os) : Slots K L T Hh' H' σ ds os := by
  induction h with
  | nil => exact .nil
  | free _ ih => exact .free (ih k)
  | im a _ ih => exact .im (a.ext ex) (ih k)
  | own a r t _ ih => exact .own (k _ List.mem_cons_self _ a r.nt) (r.ext ex) t (ih fun p hp => k p (List.mem_cons_of_mem _ hp))
theorem Slots.append {os2 : List Addr} (a : Slots K L T Hh H σ1 ds1 os) (c : Slots K L T Hh H σ2 ds2 os2) : Slots K L T Hh H (σ1 ++ σ2) (ds1 ++ ds2) (os ++ os2) := by
  induction a with
  | nil => exact c
  | free _ ih => exact .free ih
  | im a _ ih => exact .im a ih
  | own a r t _ ih => exact .own a r t ih
theorem Slots.split : ∀ {ds1 : List Cell} {σ1 : L2.St} {os : List Addr}, σ1.length = ds1.length → Slots K L T Hh H (σ1 ++ σ2) (ds1 ++ ds2) os →
    ∃ os1 os2, os = os1 ++ os2 ∧ Slots K L T Hh H σ1 ds1 os1 ∧ Slots K L T Hh H σ2 ds2 os2 := by
  intro ds1
  induction ds1 with
  | nil =>
    intro σ1 os h s
    cases σ1 with
    | nil => exact ⟨[], os, rfl, .nil, s⟩
    | cons => simp at h
  | cons c ds1 ih =>
    intro σ1 os h s
    cases σ1 with
    | nil => simp at h
    | cons x σ1 =>
      have h' : σ1.length = ds1.length := by simpa using h
      have s' : Slots K L T Hh H (x :: (σ1 ++ σ2)) (c :: (ds1 ++ ds2)) os := s
      cases s' with
      | free r =>
        obtain ⟨a, b, e, x, y⟩ := ih h' r
        exact ⟨a, b, e, .free x, y⟩
      | im q r =>
        obtain ⟨a, b, e, x, y⟩ := ih h' r
        exact ⟨a, b, e, .im q x, y⟩
      | own q t w r =>
        obtain ⟨a, b, e, x, y⟩ := ih h' r
        exact ⟨_ :: a, b, by rw [e]; rfl, .own q t w x, y⟩
theorem Slots.get : ∀ {σ : L2.St} {ds : List Cell} {os : List Addr} {i : Nat} {d : Dt}, Slots K L T Hh H σ ds os → ds[i]? = some (.im d) → ∃ v, σ[i]? = some (some v) ∧ Im K L Hh v d
  | _, _, _, 0, _, .im a _, h => by
    cases h
    exact ⟨_, rfl, a⟩
  | _, _, _, i + 1, _, .free r, h => Slots.get (i := i) r h
  | _, _, _, i + 1, _, .im _ r, h => Slots.get (i := i) r h
  | _, _, _, i + 1, _, .own _ _ _ r, h => Slots.get (i := i) r h
theorem Slots.ownAt : ∀ {σ : L2.St} {ds : List Cell} {os : List Addr} {i : Nat} {b : Bool} {o : OD}, Slots K L T Hh H σ ds os → ds[i]? = some (.own b o) →
    ∃ p h, p ∈ os ∧ σ[i]? = some (some (.ref p)) ∧ H p = some h ∧ OAt K L Hh h o ∧ (T = some p ↔ b = true)
  | _, _, _, 0, _, _, .own a r t _, h => by
    cases h
    exact ⟨_, _, List.mem_cons_self, rfl, a, r, t⟩
  | _, _, _, i + 1, _, _, .free r, h => Slots.ownAt (i := i) r h
  | _, _, _, i + 1, _, _, .im _ r, h => Slots.ownAt (i := i) r h
  | _, _, _, i + 1, _, _, .own _ _ _ r, h => let ⟨p, h', a, q⟩ := Slots.ownAt (i := i) r h; ⟨p, h', List.mem_cons_of_mem _ a, q⟩
/-- what is one's own at i is changed -/
theorem Slots.ownSet {h' : HO} {o' : OD} (hx : OAt K L Hh h' o') : ∀ {σ : L2.St} {ds : List Cell} {os : List Addr} {i : Nat} {b : Bool} {o : OD} {p : Addr}, Slots K L T Hh H σ ds os → ds[i]? = some (.own b o) →
    σ[i]? = some (some (.ref p)) → os.Nodup → Slots K L T Hh (upd H p h') σ (ds.set i (.own b o')) os
  | _, _, _, 0, _, _, _, .own a r t q, h, e, n => by
    cases h
    cases e
    refine .own upd_same hx t (q.ext (Ex.refl _) fun q hq u z _ => ?_)
    rw [upd_ne]
    · exact z
    · rintro rfl
      exact (List.nodup_cons.mp n).1 hq
  | _, _, _, i + 1, _, _, _, .free r, h, e, n => .free (Slots.ownSet (i := i) hx r h e n)
  | _, _, _, i + 1, _, _, _, .im a r, h, e, n => .im a (Slots.ownSet (i := i) hx r h e n)
  | _, _, _, i + 1, _, _, p, .own (p := q) a w t r, h, e, n => by
    obtain ⟨n1, n2⟩ := List.nodup_cons.mp n
    obtain ⟨p', _, hp, e', _⟩ := Slots.ownAt (i := i) r h
    have hpp : p' = p := by
      have := e'.symm.trans e
      simpa using this
    refine .own ?_ w t (Slots.ownSet (i := i) hx r h e n2)
    rw [upd_ne (show q ≠ p from fun y => n1 (y ▸ hpp ▸ hp))]
    exact a
/-- what is one's own at i is changed no more -/
theorem Slots.freeze : ∀ {σ : L2.St} {ds : List Cell} {os : List Addr} {i : Nat} {b : Bool} {o : OD} {d : Dt}, Slots K L T Hh H σ ds os → ds[i]? = some (.own b o) → o.frz L.fl = some d → os.Nodup →
    ∃ p os', p ∈ os ∧ σ[i]? = some (some (.ref p)) ∧ (T = some p ↔ b = true) ∧ (∀ q, q ∈ os' ↔ q ∈ os ∧ q ≠ p) ∧ os'.Nodup ∧ ∀ Hh', Ex Hh Hh' → (∀ h, H p = some h → Hh' p = some h) → Slots K L T Hh' H σ (ds.set i (.im d)) os'
  | _, _, _, 0, _, _, _, .own (p := p) (os := os) a r t q, h, f, n => by
    cases h
    obtain ⟨n1, n2⟩ := List.nodup_cons.mp n
    refine ⟨p, os, List.mem_cons_self, rfl, t, fun q => ⟨fun z => ⟨List.mem_cons_of_mem _ z, fun y => n1 (y ▸ z)⟩, fun z => (List.mem_cons.mp z.1).elim (fun y => absurd y z.2) id⟩, n2, fun Hh' e k => ?_⟩
    exact .im ((r.ext e).im (k _ a) f) (q.ext e fun _ _ _ z _ => z)
  | _, _, _, i + 1, _, _, _, .free r, h, f, n =>
    let ⟨p, os', h1, h2, h3, h4, h5, h6⟩ := Slots.freeze (i := i) r h f n
    ⟨p, os', h1, h2, h3, h4, h5, fun Hh' e k => .free (h6 Hh' e k)⟩
  | _, _, _, i + 1, _, _, _, .im a r, h, f, n =>
    let ⟨p, os', h1, h2, h3, h4, h5, h6⟩ := Slots.freeze (i := i) r h f n
    ⟨p, os', h1, h2, h3, h4, h5, fun Hh' e k => .im (a.ext e) (h6 Hh' e k)⟩
  | _, _, _, i + 1, _, _, _, .own (p := p0) a w t r, h, f, n => by
    obtain ⟨n1, n2⟩ := List.nodup_cons.mp n
    obtain ⟨p, os', h1, h2, h3, h4, h5, h6⟩ := Slots.freeze (i := i) r h f n2
    refine ⟨p, p0 :: os', List.mem_cons_of_mem _ h1, h2, h3, fun q => ?_, ?_, fun Hh' e k => .own a (w.ext e) t (h6 Hh' e k)⟩
    · rw [List.mem_cons, List.mem_cons, h4]
      constructor
      · rintro (rfl | z)
        · exact ⟨.inl rfl, fun y => n1 (y ▸ h1)⟩
        · exact ⟨.inr z.1, z.2⟩
      · rintro ⟨rfl | z, y⟩
        · exact .inl rfl
        · exact .inr ⟨z, y⟩
    · exact List.nodup_cons.mpr ⟨fun z => n1 ((h4 p0).mp z).1, h5⟩
/-- the cell at i becomes data -/
theorem Slots.set {v : V} {d : Dt} : ∀ {σ : L2.St} {ds : List Cell} {os : List Addr} (i : Nat), Slots K L T Hh H σ ds os → Im K L Hh v d →
    ∃ os', (∀ q ∈ os', q ∈ os) ∧ (os.Nodup → os'.Nodup) ∧ Slots K L T Hh H (σ.set i (some v)) (ds.set i (.im d)) os'
  | _, _, _, _, .nil, _ => ⟨[], by simp, id, .nil⟩
  | _, _, os, 0, .free r, a => ⟨os, fun _ => id, id, .im a r⟩
  | _, _, os, 0, .im _ r, a => ⟨os, fun _ => id, id, .im a r⟩
  | _, _, _, 0, .own (os := os) _ _ _ r, a => ⟨os, fun _ => List.mem_cons_of_mem _, fun n => (List.nodup_cons.mp n).2, .im a r⟩
  | _, _, _, i + 1, .free r, a => let ⟨o, x, n, y⟩ := r.set i a; ⟨o, x, n, .free y⟩
  | _, _, _, i + 1, .im b r, a => let ⟨o, x, n, y⟩ := r.set i a; ⟨o, x, n, .im b y⟩
  | _, _, _, i + 1, .own (p := p) b c t r, a =>
    let ⟨o, x, n, y⟩ := r.set i a
    ⟨p :: o, fun q hq => (List.mem_cons.mp hq).elim (fun z => z ▸ List.mem_cons_self) fun z => List.mem_cons_of_mem _ (x q z),
      fun w => List.nodup_cons.mpr ⟨fun z => (List.nodup_cons.mp w).1 (x p z), n (List.nodup_cons.mp w).2⟩, .own b c t y⟩
/-- the cell at i is forgotten -/
theorem Slots.wipe {x : Option V} : ∀ {σ : L2.St} {ds : List Cell} {os : List Addr} (i : Nat), Slots K L T Hh H σ ds os →
    ∃ os', (∀ q ∈ os', q ∈ os) ∧ (os.Nodup → os'.Nodup) ∧ Slots K L T Hh H (σ.set i x) (ds.set i .free) os'
  | _, _, _, _, .nil => ⟨[], by simp, id, .nil⟩
  | _, _, os, 0, .free r => ⟨os, fun _ => id, id, .free r⟩
  | _, _, os, 0, .im _ r => ⟨os, fun _ => id, id, .free r⟩
  | _, _, _, 0, .own (os := os) _ _ _ r => ⟨os, fun _ => List.mem_cons_of_mem _, fun n => (List.nodup_cons.mp n).2, .free r⟩
  | _, _, _, i + 1, .free r => let ⟨o, x, n, y⟩ := r.wipe i; ⟨o, x, n, .free y⟩
  | _, _, _, i + 1, .im b r => let ⟨o, x, n, y⟩ := r.wipe i; ⟨o, x, n, .im b y⟩
  | _, _, _, i + 1, .own (p := p) b c t r =>
    let ⟨o, x, n, y⟩ := r.wipe i
    ⟨p :: o, fun q hq => (List.mem_cons.mp hq).elim (fun z => z ▸ List.mem_cons_self) fun z => List.mem_cons_of_mem _ (x q z),
      fun w => List.nodup_cons.mpr ⟨fun z => (List.nodup_cons.mp w).1 (x p z), n (List.nodup_cons.mp w).2⟩, .own b c t y⟩
/-- the cell at i becomes one's own, at a new place -/
theorem Slots.setOwn {h : HO} {o : OD} (hp : H p = some h) (x : OAt K L Hh h o) (t : T = some p ↔ b = true) : ∀ {σ : L2.St} {ds : List Cell} {os : List Addr} (i : Nat), Slots K L T Hh H σ ds os → i < ds.length → p ∉ os →
    ∃ os', (∀ q ∈ os', q = p ∨ q ∈ os) ∧ (os.Nodup → os'.Nodup) ∧ p ∈ os' ∧ Slots K L T Hh H (σ.set i (some (.ref p))) (ds.set i (.own b o)) os'
  | _, _, _, _, .nil, h, _ => absurd h (by simp)
  | _, _, os, 0, .free r, _, np => ⟨p :: os, fun q hq => List.mem_cons.mp hq, fun n => List.nodup_cons.mpr ⟨np, n⟩, List.mem_cons_self, .own hp x t r⟩
  | _, _, os, 0, .im _ r, _, np => ⟨p :: os, fun q hq => List.mem_cons.mp hq, fun n => List.nodup_cons.mpr ⟨np, n⟩, List.mem_cons_self, .own hp x t r⟩
  | _, _, _, 0, .own (os := os) _ _ _ r, _, np => ⟨p :: os, fun q hq => (List.mem_cons.mp hq).imp id (List.mem_cons_of_mem _), fun n => List.nodup_cons.mpr ⟨fun z => np (List.mem_cons_of_mem _ z), (List.nodup_cons.mp n).2⟩, List.mem_cons_self, .own hp x t r⟩
  | _, _, _, i + 1, .free r, h, np => let ⟨o, x, n, m, y⟩ := r.setOwn hp x t i (by simpa using h) np; ⟨o, x, n, m, .free y⟩
  | _, _, _, i + 1, .im b r, h, np => let ⟨o, x, n, m, y⟩ := r.setOwn hp x t i (by simpa using h) np; ⟨o, x, n, m, .im b y⟩
  | _, _, _, i + 1, .own (p := p0) b c t' r, h, np =>
    let ⟨o, x, n, m, y⟩ := r.setOwn hp x t i (by simpa using h) fun z => np (List.mem_cons_of_mem _ z)
    ⟨p0 :: o, fun q hq => (List.mem_cons.mp hq).elim (fun z => .inr (z ▸ List.mem_cons_self)) fun z => (x q z).imp id (List.mem_cons_of_mem _),
      fun w => List.nodup_cons.mpr ⟨fun z => (x p0 z).elim (fun y => np (y ▸ List.mem_cons_self)) (List.nodup_cons.mp w).1, n (List.nodup_cons.mp w).2⟩, List.mem_cons_of_mem _ m, .own b c t' y⟩
end

/-- a def's frame: its entry heap, what is hidden from it, what it may change of that -/
structure Fm where
  H0 : Hp
  S : List Addr
  T : Option Addr
structure FmOk (F : Fm) : Prop where
  sub : ∀ p, F.T = some p → p ∈ F.S
  dom : ∀ p ∈ F.S, Nt F.H0 p
/-- the heap goes on from A -/
structure ExB (L : Kl) (A H : Hp) : Prop where
  ex : Ex A H
  tb : Tbs L.tb H
theorem ExB.trans {L : Kl} {A H H' : Hp} (x : ExB L A H) (e : Ex H H') (t : Tbs L.tb H') : ExB L A H' := ⟨x.ex.trans e, t⟩
theorem ExB.new {L : Kl} {A H : Hp} {p : Addr} {o : HO} (x : ExB L A H) (h : H p = none) : ExB L A (upd H p o) := ⟨x.ex.trans (Ex.new h), tbs_new x.tb h⟩
/-- the cells: what lies on top (temporaries), then the slots -/
structure SD (K : PySem.W.Frag) (L : Kl) (F : Fm) (H : Hp) (σ : L2.St) (ds : List Cell) (ts : List V) (tcs : List Cell) : Prop where
  ok : FmOk F
  tl : ts.length = tcs.length
  ext : ExB L (hide F.H0 F.T.toList) H
  tin : ∀ p, F.T = some p → Nt H p
  sl : ∃ os : List Addr, os.Nodup ∧ (∀ p ∈ os, (¬ Nt F.H0 p ∨ F.T = some p) ∧ Nt H p) ∧
    Slots K L F.T (hide H (os ++ F.S)) H (ts.map some ++ σ) (tcs ++ ds) os
end Ev
/-! E2: what a frame holds: reading, storing, changing. -/
namespace Ev
open PySem PySem.Spec PyProof.Rows L2 Sg
section
variable {K : PySem.W.Frag} {L : Kl} {F : Fm} {H H' Hh : Hp} {σ : L2.St} {ds : List Cell} {ts vs ws : List V} {tcs cs : List Cell} {dvs dws l : List Dt} {v : V} {d : Dt} {p : Addr} {h : HO} {o : OD} {i : Nat} {b : Bool} {c : Cell}
theorem nt_hide {A : Hp} {S : List Addr} {p : Addr} (h : Nt A p) (n : p ∉ S) : Nt (hide A S) p := let ⟨o, a, b⟩ := h; ⟨o, hide_get a n, b⟩
theorem hide_nt {A : Hp} {S : List Addr} {p : Addr} (h : Nt (hide A S) p) : Nt A p ∧ p ∉ S := by
  obtain ⟨o, a, b⟩ := h
  by_cases q : p ∈ S
  · rw [hide_in q] at a
    cases a
  · exact ⟨⟨o, hide_ex _ _ a b, b⟩, q⟩
theorem SD.alive (s : SD K L F H σ ds ts tcs) : ∀ p ∈ F.S, Nt H p := fun p hp => by
  by_cases q : F.T = some p
  · exact s.tin p q
  · exact s.ext.ex.nt (nt_hide (s.ok.dom p hp) (by simpa using q))
theorem SD.fresh (s : SD K L F H σ ds ts tcs) (hp : ¬ Nt H p) : ¬ Nt F.H0 p ∧ F.T ≠ some p ∧ p ∉ F.S := by
  have nS : p ∉ F.S := fun z => hp (s.alive p z)
  have nT : F.T ≠ some p := fun z => nS (s.ok.sub p z)
  exact ⟨fun z => hp (s.ext.ex.nt (nt_hide z (by simpa using nT))), nT, nS⟩
/-- what was tracked stays as it was -/
theorem SD.grow (e : Ex H H') (t : Tbs L.tb H') (s : SD K L F H σ ds ts tcs) : SD K L F H' σ ds ts tcs := by
  obtain ⟨os, n, hd, sl⟩ := s.sl
  exact ⟨s.ok, s.tl, s.ext.trans e t, fun p hp => e.nt (s.tin p hp), os, n, fun p hp => ⟨(hd p hp).1, e.nt (hd p hp).2⟩, sl.ext (hide_mono e) fun p _ o q => e p o q⟩
/-- a datum on top -/
theorem SD.push (s : SD K L F H σ ds ts tcs) (a : ∀ Hh, Im K L Hh v d) : SD K L F H σ ds (v :: ts) (.im d :: tcs) :=
  let ⟨os, n, hd, sl⟩ := s.sl
  ⟨s.ok, congrArg (· + 1) s.tl, s.ext, s.tin, os, n, hd, .im (a _) sl⟩
theorem SD.pop (s : SD K L F H σ ds (v :: ts) (c :: tcs)) : SD K L F H σ ds ts tcs := by
  have tl : ts.length = tcs.length := by have := s.tl; simpa using this
  obtain ⟨os, n, hd, sl⟩ := s.sl
  cases sl with
  | free r => exact ⟨s.ok, tl, s.ext, s.tin, os, n, hd, r⟩
  | im a r => exact ⟨s.ok, tl, s.ext, s.tin, os, n, hd, r⟩
  | own a w t r =>
    obtain ⟨n1, n2⟩ := List.nodup_cons.mp n
    exact ⟨s.ok, tl, s.ext, s.tin, _, n2, fun q hq => hd q (List.mem_cons_of_mem _ hq), r.ext (hide_sub fun q hq => (List.mem_append.mp hq).elim (fun z => List.mem_append_left _ (List.mem_cons_of_mem _ z)) (List.mem_append_right _)) fun _ _ _ z _ => z⟩
theorem SD.popN : ∀ {vs : List V} {cs : List Cell}, vs.length = cs.length → SD K L F H σ ds (vs ++ ts) (cs ++ tcs) → SD K L F H σ ds ts tcs
  | [], [], _, s => s
  | _ :: vs, _ :: cs, h, s => SD.popN (vs := vs) (cs := cs) (by simpa using h) s.pop
theorem SD.bare (s : SD K L F H σ ds ts tcs) : SD K L F H σ ds [] [] := by
  have s' : SD K L F H σ ds (ts ++ []) (tcs ++ []) := by rw [List.append_nil, List.append_nil]; exact s
  exact s'.popN s.tl
theorem Slots.ims {T : Option Addr} {os : List Addr} : ∀ {vs : List V} {dvs : List Dt}, vs.length = dvs.length → Slots K L T Hh H (vs.map some ++ σ) (dvs.map Cell.im ++ ds) os → Ims K L Hh vs dvs ∧ Slots K L T Hh H σ ds os
  | [], [], _, s => ⟨.nil, s⟩
  | v :: vs, d :: dvs, h, s => by
    have s' : Slots K L T Hh H (some v :: (vs.map some ++ σ)) (.im d :: (dvs.map Cell.im ++ ds)) os := s
    cases s' with
    | im a r =>
      obtain ⟨x, y⟩ := Slots.ims (vs := vs) (dvs := dvs) (by simpa using h) r
      exact ⟨.cons a x, y⟩
theorem Slots.pushN {T : Option Addr} {os : List Addr} (s : Slots K L T Hh H σ ds os) : ∀ {vs : List V} {dvs : List Dt}, Ims K L Hh vs dvs → Slots K L T Hh H (vs.map some ++ σ) (dvs.map Cell.im ++ ds) os
  | _, _, .nil => s
  | _, _, .cons a r => .im a (s.pushN r)
theorem assocA {A B : List V} {σ : L2.St} : (A ++ B).map some ++ σ = A.map some ++ (B.map some ++ σ) := by rw [List.map_append, List.append_assoc]
/-- the tops apart from what lies below -/
theorem SD.cut (hl : vs.length = dvs.length) (s : SD K L F H σ ds (vs ++ ts) (dvs.map Cell.im ++ tcs)) :
    ∃ os : List Addr, os.Nodup ∧ (∀ p ∈ os, (¬ Nt F.H0 p ∨ F.T = some p) ∧ Nt H p) ∧ ts.length = tcs.length ∧ Ims K L (hide H (os ++ F.S)) vs dvs ∧ Slots K L F.T (hide H (os ++ F.S)) H (ts.map some ++ σ) (tcs ++ ds) os := by
  have tl := s.tl
  obtain ⟨os, n, hd, sl⟩ := s.sl
  rw [assocA, List.append_assoc] at sl
  obtain ⟨x, y⟩ := sl.ims hl
  refine ⟨os, n, hd, ?_, x, y⟩
  simp only [List.length_append, List.length_map] at tl
  omega
theorem SD.glue {os : List Addr} (ok : FmOk F) (ext : ExB L (hide F.H0 F.T.toList) H) (tin : ∀ p, F.T = some p → Nt H p) (n : os.Nodup) (hd : ∀ p ∈ os, (¬ Nt F.H0 p ∨ F.T = some p) ∧ Nt H p)
    (tl : ts.length = tcs.length) (x : Ims K L (hide H (os ++ F.S)) vs dvs) (y : Slots K L F.T (hide H (os ++ F.S)) H (ts.map some ++ σ) (tcs ++ ds) os) : SD K L F H σ ds (vs ++ ts) (dvs.map Cell.im ++ tcs) := by
  refine ⟨ok, ?_, ext, tin, os, n, hd, ?_⟩
  · simp only [List.length_append, List.length_map, x.length, tl]
  · rw [assocA, List.append_assoc]
    exact y.pushN x
theorem SD.tops (hl : vs.length = dvs.length) (s : SD K L F H σ ds (vs ++ ts) (dvs.map Cell.im ++ tcs)) : Ims K L H vs dvs := by
  obtain ⟨os, n, hd, tl, x, y⟩ := s.cut hl
  exact x.ext hide_ex
theorem SD.top (s : SD K L F H σ ds (v :: ts) (.im d :: tcs)) : Im K L H v d := by
  have := SD.tops (vs := [v]) (dvs := [d]) rfl s
  cases this with
  | cons a _ => exact a
/-- the tops changed for others that lean on nothing new -/
theorem SD.swap (hl : vs.length = dvs.length) (s : SD K L F H σ ds (vs ++ ts) (dvs.map Cell.im ++ tcs)) (f : ∀ Hh, Ex Hh H → Ims K L Hh vs dvs → Ims K L Hh ws dws) : SD K L F H σ ds (ws ++ ts) (dws.map Cell.im ++ tcs) := by
  obtain ⟨os, n, hd, tl, x, y⟩ := s.cut hl
  exact .glue s.ok s.ext s.tin n hd tl (f _ hide_ex x) y
theorem SD.slots (s : SD K L F H σ ds ts tcs) : ∃ o1 o2 : List Addr, (o1 ++ o2).Nodup ∧ (∀ p ∈ o1 ++ o2, (¬ Nt F.H0 p ∨ F.T = some p) ∧ Nt H p) ∧ Slots K L F.T (hide H (o1 ++ o2 ++ F.S)) H (ts.map some) tcs o1 ∧ Slots K L F.T (hide H (o1 ++ o2 ++ F.S)) H σ ds o2 := by
  obtain ⟨os, n, hd, sl⟩ := s.sl
  obtain ⟨o1, o2, rfl, s1, s2⟩ := sl.split (by rw [List.length_map]; exact s.tl)
  exact ⟨o1, o2, n, hd, s1, s2⟩
theorem SD.var (s : SD K L F H σ ds ts tcs) (e : ds[i]? = some (.im d)) : ∃ v, σ[i]? = some (some v) ∧ SD K L F H σ ds (v :: ts) (.im d :: tcs) := by
  obtain ⟨o1, o2, n, hd, s1, s2⟩ := s.slots
  obtain ⟨v, e1, a⟩ := s2.get e
  exact ⟨v, e1, s.ok, congrArg (· + 1) s.tl, s.ext, s.tin, _, n, hd, .im a (s1.append s2)⟩
theorem SD.len (s : SD K L F H σ ds ts tcs) : σ.length = ds.length := by
  obtain ⟨o1, o2, n, hd, s1, s2⟩ := s.slots
  exact s2.len
/-- other hidden places for the slots -/
theorem Slots.sub {T : Option Addr} {os A B : List Addr} (s : Slots K L T (hide H A) H σ ds os) (k : ∀ q ∈ B, q ∈ A) : Slots K L T (hide H B) H σ ds os := s.ext (hide_sub k) fun _ _ _ z _ => z
/-- the top goes into a slot -/
theorem SD.store (s : SD K L F H σ ds (v :: ts) (c :: tcs)) (hc : c ≠ .free) (hi : i < ds.length) : SD K L F H (σ.set i (some v)) (ds.set i c) ts tcs := by
  have tl : ts.length = tcs.length := by have := s.tl; simpa using this
  obtain ⟨o1, o2, n, hd, s1, s2⟩ := s.slots
  cases s1 with
  | free r => exact absurd rfl hc
  | im a r =>
    obtain ⟨o2', k, n', y⟩ := s2.set i a
    have nn := List.nodup_append.mp n
    have sub : ∀ q ∈ o1 ++ o2' ++ F.S, q ∈ o1 ++ o2 ++ F.S := fun q hq => by
      simp only [List.mem_append] at hq ⊢
      exact hq.imp (·.imp id (k q)) id
    refine ⟨s.ok, tl, s.ext, s.tin, o1 ++ o2', List.nodup_append.mpr ⟨nn.1, n' nn.2.1, fun a ha b hb => nn.2.2 a ha b (k b hb)⟩, fun q hq => hd q ?_, (r.append y).sub sub⟩
    exact (List.mem_append.mp hq).elim (List.mem_append_left _) fun z => List.mem_append_right _ (k q z)
  | own a w t r =>
    rename_i p b h o os
    have nn := List.nodup_append.mp n
    have np : p ∉ o2 := fun z => nn.2.2 p List.mem_cons_self p z rfl
    obtain ⟨o2', k, n', m, y⟩ := s2.setOwn a w t i hi np
    have n1 := List.nodup_cons.mp nn.1
    have sub : ∀ q ∈ os ++ o2' ++ F.S, q ∈ p :: os ++ o2 ++ F.S := fun q hq => by
      simp only [List.mem_append, List.mem_cons] at hq ⊢
      rcases hq with (z | z) | z
      · exact .inl (.inl (.inr z))
      · rcases k q z with z | z
        · exact .inl (.inl (.inl z))
        · exact .inl (.inr z)
      · exact .inr z
    refine ⟨s.ok, tl, s.ext, s.tin, os ++ o2', List.nodup_append.mpr ⟨n1.2, n' nn.2.1, fun x hx y hy e => ?_⟩, fun q hq => hd q ?_, (r.append y).sub sub⟩
    · subst e
      rcases k x hy with z | z
      · exact n1.1 (z ▸ hx)
      · exact nn.2.2 x (List.mem_cons_of_mem _ hx) x z rfl
    · rcases List.mem_append.mp hq with z | z
      · exact List.mem_append_left _ (List.mem_cons_of_mem _ z)
      · rcases k q z with z | z
        · exact z ▸ List.mem_append_left _ List.mem_cons_self
        · exact List.mem_append_right _ z
/-- a slot is forgotten -/
theorem SD.wipe {x : Option V} (s : SD K L F H σ ds ts tcs) : SD K L F H (σ.set i x) (ds.set i .free) ts tcs := by
  obtain ⟨o1, o2, n, hd, s1, s2⟩ := s.slots
  obtain ⟨o2', k, n', y⟩ := s2.wipe (x := x) i
  have nn := List.nodup_append.mp n
  have sub : ∀ q ∈ o1 ++ o2' ++ F.S, q ∈ o1 ++ o2 ++ F.S := fun q hq => by
    simp only [List.mem_append] at hq ⊢
    exact hq.imp (·.imp id (k q)) id
  refine ⟨s.ok, s.tl, s.ext, s.tin, o1 ++ o2', List.nodup_append.mpr ⟨nn.1, n' nn.2.1, fun a ha b hb => nn.2.2 a ha b (k b hb)⟩, fun q hq => hd q ?_, (s1.append y).sub sub⟩
  exact (List.mem_append.mp hq).elim (List.mem_append_left _) fun z => List.mem_append_right _ (k q z)
/-- a new object that is one's own -/
theorem SD.new (hl : vs.length = dvs.length) (s : SD K L F H σ ds (vs ++ ts) (dvs.map Cell.im ++ tcs)) (hp : H p = none) (f : ∀ Hh, Ims K L Hh vs dvs → OAt K L Hh h o) :
    SD K L F (upd H p h) σ ds (.ref p :: ts) (.own false o :: tcs) := by
  obtain ⟨f1, f2, f3⟩ := s.fresh (nt_none hp)
  have e : Ex H (upd H p h) := Ex.new hp
  obtain ⟨os, n, hd, tl, x, y⟩ := s.cut hl
  have np : p ∉ os := fun z => (hd p z).2.ne hp
  have hx0 : OAt K L (hide H (os ++ F.S)) h o := f _ x
  have eh : hide (upd H p h) (p :: os ++ F.S) = hide H (os ++ F.S) := by
    funext a
    unfold hide
    by_cases ea : a = p
    · subst ea
      rw [if_pos (by simp), if_neg (by simp [np, f3]), hp]
    · by_cases h2 : a ∈ os ++ F.S
      · rw [if_pos h2, if_pos (show a ∈ p :: os ++ F.S from List.mem_cons_of_mem _ h2)]
      · rw [if_neg h2, if_neg (by simp only [List.cons_append, List.mem_cons, not_or]; exact ⟨ea, h2⟩), upd_ne ea]
  refine ⟨s.ok, congrArg (· + 1) tl, s.ext.new hp, fun q hq => e.nt (s.tin q hq), p :: os, List.nodup_cons.mpr ⟨np, n⟩, fun q hq => ?_, ?_⟩
  · rcases List.mem_cons.mp hq with z | z
    · subst z
      exact ⟨.inl f1, _, upd_same, hx0.nt⟩
    · exact ⟨(hd q z).1, e.nt (hd q z).2⟩
  · rw [eh]
    refine .own upd_same hx0 ⟨fun z => absurd z f2, fun z => by cases z⟩ (y.ext (Ex.refl _) fun q _ u z => e q u z)
/-- a new object that never changes -/
theorem SD.newIm (hl : vs.length = dvs.length) (s : SD K L F H σ ds (vs ++ ts) (dvs.map Cell.im ++ tcs)) (hp : H p = none) (f : ∀ Hh, Hh p = some h → Ims K L Hh vs dvs → Im K L Hh (.ref p) d) :
    SD K L F (upd H p h) σ ds (.ref p :: ts) (.im d :: tcs) := by
  obtain ⟨f1, f2, f3⟩ := s.fresh (nt_none hp)
  have e : Ex H (upd H p h) := Ex.new hp
  obtain ⟨os, n, hd, tl, x, y⟩ := s.cut hl
  have np : p ∉ os := fun z => (hd p z).2.ne hp
  refine SD.glue (vs := [.ref p]) (dvs := [d]) s.ok (s.ext.new hp) (fun q hq => e.nt (s.tin q hq)) n (fun q hq => ⟨(hd q hq).1, e.nt (hd q hq).2⟩) tl (.cons (f _ (hide_get upd_same fun z => ?_) (x.ext (hide_mono e))) .nil) (y.ext (hide_mono e) fun q _ u z => e q u z)
  · exact (List.mem_append.mp z).elim np f3
/-- the fresh object on top is changed no more -/
theorem SD.frzTop (s : SD K L F H σ ds (v :: ts) (.own false o :: tcs)) (f : o.frz L.fl = some d) : SD K L F H σ ds (v :: ts) (.im d :: tcs) := by
  obtain ⟨os, n, hd, sl⟩ := s.sl
  cases sl with
  | own a w t r =>
    rename_i p h os
    have n1 := List.nodup_cons.mp n
    have sub : ∀ q ∈ os ++ F.S, q ∈ p :: os ++ F.S := fun q hq => List.mem_cons_of_mem _ hq
    have nS : p ∉ F.S := fun z => by
      rcases (hd p List.mem_cons_self).1 with q | q
      · exact q (s.ok.dom p z)
      · exact absurd (t.mp q) (by simp)
    refine ⟨s.ok, s.tl, s.ext, s.tin, os, n1.2, fun q hq => hd q (List.mem_cons_of_mem _ hq), .im ((w.ext (hide_sub sub)).im (hide_get a fun z => ?_) f) (r.sub sub)⟩
    exact (List.mem_append.mp z).elim n1.1 nS
/-- a slot's own is changed no more -/
theorem SD.frzAt (s : SD K L F H σ ds ts tcs) (e : ds[i]? = some (.own false o)) (f : o.frz L.fl = some d) : SD K L F H σ (ds.set i (.im d)) ts tcs := by
  obtain ⟨o1, o2, n, hd, s1, s2⟩ := s.slots
  have nn := List.nodup_append.mp n
  obtain ⟨p, os', h1, h2, h3, h4, h5, h6⟩ := s2.freeze e f nn.2.1
  have sub : ∀ q ∈ o1 ++ os' ++ F.S, q ∈ o1 ++ o2 ++ F.S := fun q hq => by
    simp only [List.mem_append] at hq ⊢
    exact hq.imp (·.imp id fun z => ((h4 q).mp z).1) id
  have nS : p ∉ F.S := fun z => by
    rcases (hd p (List.mem_append_right _ h1)).1 with q | q
    · exact q (s.ok.dom p z)
    · exact absurd (h3.mp q) (by simp)
  have np : p ∉ o1 ++ os' ++ F.S := fun z => by
    simp only [List.mem_append] at z
    rcases z with (z | z) | z
    · exact nn.2.2 p z p h1 rfl
    · exact ((h4 p).mp z).2 rfl
    · exact nS z
  refine ⟨s.ok, s.tl, s.ext, s.tin, o1 ++ os', List.nodup_append.mpr ⟨nn.1, h5, fun a ha b hb => nn.2.2 a ha b ((h4 b).mp hb).1⟩, fun q hq => hd q ?_, (s1.sub sub).append (h6 _ (hide_sub sub) fun h hh => hide_get hh np)⟩
  exact (List.mem_append.mp hq).elim (List.mem_append_left _) fun z => List.mem_append_right _ ((h4 q).mp z).1
/-- the cells at a place in the whole -/
theorem SD.ownC {j : Nat} (hl : vs.length = dvs.length) (s : SD K L F H σ ds (vs ++ ts) (dvs.map Cell.im ++ tcs)) (e : (tcs ++ ds)[j]? = some (.own b o)) :
    ∃ p h, (ts.map some ++ σ)[j]? = some (some (.ref p)) ∧ H p = some h ∧ OAt K L H h o ∧ (F.T = some p ↔ b = true) ∧
      (∀ ws dws, (∀ Hh, Ex Hh H → OAt K L Hh h o → Ims K L Hh vs dvs → Ims K L Hh ws dws) → SD K L F H σ ds (ws ++ ts) (dws.map Cell.im ++ tcs)) ∧
      ∀ h' o' ws dws tcs' ds', (∀ Hh, Ex Hh H → OAt K L Hh h o → Ims K L Hh vs dvs → OAt K L Hh h' o' ∧ Ims K L Hh ws dws) → tcs'.length = tcs.length → tcs' ++ ds' = (tcs ++ ds).set j (.own b o') →
        SD K L F (upd H p h') σ ds' (ws ++ ts) (dws.map Cell.im ++ tcs') := by
  obtain ⟨os, n, hd, tl, x, y⟩ := s.cut hl
  obtain ⟨p, h, hp, e1, e2, hx, t⟩ := y.ownAt e
  have pin : p ∈ os ++ F.S := List.mem_append_left _ hp
  refine ⟨p, h, e1, e2, hx.ext hide_ex, t, fun ws dws f => .glue s.ok s.ext s.tin n hd tl (f _ hide_ex hx x) y, fun h' o' ws dws tcs' ds' f el ee => ?_⟩
  obtain ⟨f1, f2⟩ := f _ hide_ex hx x
  have nt : ∀ q, Nt H q → Nt (upd H p h') q := fun q ⟨u, a1, a2⟩ => by
    by_cases w : q = p
    · exact ⟨h', by rw [w, upd_same], f1.nt⟩
    · exact ⟨u, by rw [upd_ne w]; exact a1, a2⟩
  refine .glue s.ok ⟨fun a u z zn => ?_, tbs_upd s.ext.tb e2 hx.ow⟩ (fun q hq => nt q (s.tin q hq)) n (fun q hq => ⟨(hd q hq).1, nt q (hd q hq).2⟩) (tl.trans el.symm) (by rw [hide_upd pin]; exact f2) (by rw [hide_upd pin, ee]; exact y.ownSet f1 e e1 n)
  have za : a ≠ p := fun w => by
    subst w
    rcases (hd a hp).1 with q | q
    · exact q ⟨u, hide_ex _ _ z zn, zn⟩
    · rw [hide_in (by simp [q])] at z
      cases z
  rw [upd_ne za]
  exact s.ext.ex a u z zn
theorem getC_slot (e : ds[i]? = some c) : (tcs ++ ds)[tcs.length + i]? = some c := by
  rw [List.getElem?_append_right (Nat.le_add_right _ _), Nat.add_sub_cancel_left]
  exact e
theorem getC_top (hi : i < tcs.length) : (tcs ++ ds)[i]? = tcs[i]? := List.getElem?_append_left hi
/-- what a slot has as its own: read, or changed -/
theorem SD.ownS (hl : vs.length = dvs.length) (s : SD K L F H σ ds (vs ++ ts) (dvs.map Cell.im ++ tcs)) (e : ds[i]? = some (.own b o)) :
    ∃ p h, σ[i]? = some (some (.ref p)) ∧ H p = some h ∧ OAt K L H h o ∧ (F.T = some p ↔ b = true) ∧
      (∀ ws dws, (∀ Hh, Ex Hh H → OAt K L Hh h o → Ims K L Hh vs dvs → Ims K L Hh ws dws) → SD K L F H σ ds (ws ++ ts) (dws.map Cell.im ++ tcs)) ∧
      ∀ h' o' ws dws, (∀ Hh, Ex Hh H → OAt K L Hh h o → Ims K L Hh vs dvs → OAt K L Hh h' o' ∧ Ims K L Hh ws dws) → SD K L F (upd H p h') σ (ds.set i (.own b o')) (ws ++ ts) (dws.map Cell.im ++ tcs) := by
  have tl : ts.length = tcs.length := by
    obtain ⟨os, n, hd, tl, x, y⟩ := s.cut hl
    exact tl
  obtain ⟨p, h, a1, a2, a3, a4, a5, a6⟩ := s.ownC hl (getC_slot e)
  refine ⟨p, h, ?_, a2, a3, a4, a5, fun h' o' ws dws f => a6 h' o' ws dws tcs (ds.set i (.own b o')) f rfl ?_⟩
  · rw [List.getElem?_append_right (by rw [List.length_map, tl]; exact Nat.le_add_right _ _), List.length_map, tl, Nat.add_sub_cancel_left] at a1
    exact a1
  · rw [List.set_append_right _ _ (Nat.le_add_right _ _), Nat.add_sub_cancel_left]
/-- what lies on top as one's own, below some data: read, or changed -/
theorem SD.ownT (hl : vs.length = dvs.length) (s : SD K L F H σ ds (vs ++ v :: ts) (dvs.map Cell.im ++ .own b o :: tcs)) :
    ∃ p h, v = .ref p ∧ H p = some h ∧ OAt K L H h o ∧
      (∀ ws dws, (∀ Hh, Ex Hh H → OAt K L Hh h o → Ims K L Hh vs dvs → Ims K L Hh ws dws) → SD K L F H σ ds (ws ++ v :: ts) (dws.map Cell.im ++ .own b o :: tcs)) ∧
      ∀ h' o' ws dws, (∀ Hh, Ex Hh H → OAt K L Hh h o → Ims K L Hh vs dvs → OAt K L Hh h' o' ∧ Ims K L Hh ws dws) → SD K L F (upd H p h') σ ds (ws ++ v :: ts) (dws.map Cell.im ++ .own b o' :: tcs) := by
  obtain ⟨p, h, a1, a2, a3, a4, a5, a6⟩ := s.ownC (j := 0) hl rfl
  refine ⟨p, h, by simpa using a1, a2, a3, a5, fun h' o' ws dws f => a6 h' o' ws dws (.own b o' :: tcs) ds f rfl rfl⟩
end
end Ev
/-! E3: results, errors, calls, a slot laid aside. -/
namespace Ev
open PySem PySem.Spec PyProof.Rows L2 Sg
/-- what an expression comes to: a datum, a fresh object of one's own, or what slot i has -/
inductive RV where
  | val (d : Dt)
  | new (o : OD)
  | ali (i : Nat)
  deriving Inhabited
/-- an error: its class, the attributes of its own dict (names, data) where it has one -/
structure Er where
  c : Nat
  fs : Option (List Nat × List Dt)
def ErIs (K : PySem.W.Frag) (L : Kl) (H : Hp) (cls : Value) (d : Option Addr) (r : Er) : Prop :=
  cls = L.xv r.c ∧ match r.fs with
    | none => d = none
    | some (ns, l) => ∃ dx fv, d = some dx ∧ H dx = some (.xd fv) ∧ fv.map (·.1) = ns.map L.nm ∧ Ims K L H (fv.map (·.2)) l
theorem ErIs.ext {K : PySem.W.Frag} {L : Kl} {H H' : Hp} {cls : Value} {d : Option Addr} {r : Er} (e : Ex H H') (h : ErIs K L H cls d r) : ErIs K L H' cls d r := by
  obtain ⟨c, fs⟩ := r
  obtain ⟨h1, h2⟩ := h
  refine ⟨h1, ?_⟩
  cases fs with
  | none => exact h2
  | some x =>
    obtain ⟨ns, l⟩ := x
    obtain ⟨dx, fv, a1, a2, a3, a4⟩ := h2
    exact ⟨dx, fv, a1, e _ _ a2 nt_xd, a3, a4.ext e⟩
/-- what a computation comes to -/
inductive Res (α : Type) where
  | ok (a : α)
  | er (r : Er) (ds : List Cell)
  | no
def Res.bind {α β : Type} (x : Res α) (f : α → Res β) : Res β :=
  match x with
  | .ok a => f a
  | .er r ds => .er r ds
  | .no => .no
/-- what a call comes to, with what was handed over -/
inductive CRes where
  | ok (r : RV) (o : Option OD)
  | er (r : Er) (o : Option OD)
  | no
/-- what was handed over lies at T -/
def BorAt (K : PySem.W.Frag) (L : Kl) (S : List Addr) (H : Hp) : Option Addr → Option OD → Prop
  | none, none => True
  | some p, some o => p ∈ S ∧ ∃ h, H p = some h ∧ OAt K L (hide H S) h o
  | _, _ => False
/-- a callee's result, as the caller sees it: S hidden, H the heap at the call -/
def RetAt (K : PySem.W.Frag) (L : Kl) (S : List Addr) (T : Option Addr) (bo : Option OD) (H H' : Hp) (v : V) : RV → Prop
  | .val d => BorAt K L S H' T bo ∧ Im K L (hide H' S) v d
  | .new o => ∃ p h, v = .ref p ∧ ¬ Nt H p ∧ H' p = some h ∧ OAt K L (hide H' (p :: S)) h o ∧ BorAt K L (p :: S) H' T bo
  | .ali _ => False
/-- the promise of a def by what it comes to -/
def spC (K : PySem.W.Frag) (L : Kl) (out : Option OD → List Dt → CRes) : Sp := fun vs H Q E =>
  ∃ (S : List Addr) (T : Option Addr) (ws : List V) (bo : Option OD) (dvs : List Dt), vs = T.toList.map V.ref ++ ws ∧ (∀ p ∈ S, Nt H p) ∧ Tbs L.tb H ∧ BorAt K L S H T bo ∧ Ims K L (hide H S) ws dvs ∧
    match out bo dvs with
    | .no => False
    | .ok rv bo' => ∀ v H', ExB L (hide H T.toList) H' → RetAt K L S T bo' H H' v rv → Q v H'
    | .er r bo' => ∀ cls d H', ExB L (hide H T.toList) H' → BorAt K L S H' T bo' → ErIs K L (hide H' S) cls d r → E cls d H'

section
variable {K : PySem.W.Frag} {L : Kl} {F : Fm} {H H' Hh : Hp} {σ : L2.St} {ds : List Cell} {ts vs ws : List V} {tcs cs : List Cell} {dvs dws l : List Dt} {v : V} {d : Dt} {p : Addr} {h : HO} {o : OD} {i : Nat} {b : Bool} {c : Cell}
theorem hide_cons_sub {S : List Addr} : ∀ q ∈ S, q ∈ p :: S := fun _ hq => List.mem_cons_of_mem _ hq
/-- a call: what the callee may see, and what comes back -/
theorem SD.call (hl : vs.length = dvs.length) (s : SD K L F H σ ds (vs ++ ts) (dvs.map Cell.im ++ tcs)) :
    ∃ S : List Addr, (∀ p ∈ S, Nt H p) ∧ Ims K L (hide H S) vs dvs ∧
      ∀ H', ExB L H H' → SD K L F H' σ ds ts tcs ∧ Ex (hide H' S) (hide H' F.S) ∧ (∀ v d, Im K L (hide H' S) v d → SD K L F H' σ ds (v :: ts) (.im d :: tcs)) ∧
        ∀ p h o, ¬ Nt H p → H' p = some h → OAt K L (hide H' (p :: S)) h o → SD K L F H' σ ds (.ref p :: ts) (.own false o :: tcs) := by
  have al := s.alive
  have s0 := s.popN (vs := vs) (cs := dvs.map Cell.im) (by rw [List.length_map]; exact hl)
  obtain ⟨os, n, hd, tl, x, y⟩ := s.cut hl
  refine ⟨os ++ F.S, fun q hq => (List.mem_append.mp hq).elim (fun z => (hd q z).2) (al q), x, fun H' e0 => ?_⟩
  obtain ⟨e, t⟩ := e0
  have tin' : ∀ q, F.T = some q → Nt H' q := fun q hq => e.nt (s.tin q hq)
  have hd' : ∀ q ∈ os, (¬ Nt F.H0 q ∨ F.T = some q) ∧ Nt H' q := fun q hq => ⟨(hd q hq).1, e.nt (hd q hq).2⟩
  have y' : Slots K L F.T (hide H' (os ++ F.S)) H' (ts.map some ++ σ) (tcs ++ ds) os := y.ext (hide_mono e) fun q _ u z => e q u z
  refine ⟨s0.grow e t, hide_sub fun q hq => List.mem_append_right _ hq, fun v d a => ?_, fun p h o hp hp' w => ?_⟩
  · exact SD.glue (vs := [v]) (dvs := [d]) s.ok (s.ext.trans e t) tin' n hd' tl (.cons a .nil) y'
  · obtain ⟨f1, f2, f3⟩ := s.fresh hp
    have np : p ∉ os := fun z => hp (hd p z).2
    refine ⟨s.ok, congrArg (· + 1) tl, s.ext.trans e t, tin', p :: os, List.nodup_cons.mpr ⟨np, n⟩, fun q hq => ?_, ?_⟩
    · rcases List.mem_cons.mp hq with z | z
      · subst z
        exact ⟨.inl f1, _, hp', w.nt⟩
      · exact hd' q z
    · refine .own hp' w ⟨fun z => absurd z f2, fun z => by cases z⟩ (y.ext (fun a u z zn => ?_) fun q _ u z => e q u z)
      have za : a ≠ p := fun z' => by
        subst z'
        exact hp ⟨u, hide_ex _ _ z zn, zn⟩
      have z2 : a ∉ os ++ F.S := fun z' => by
        rw [hide_in z'] at z
        cases z
      refine hide_get (e a u (hide_ex a u z zn) zn) fun z' => ?_
      rcases List.mem_cons.mp (show a ∈ p :: (os ++ F.S) from z') with q | q
      · exact za q
      · exact z2 q
/-- the heap is another: what is one's own at i changed, all else kept -/
theorem Slots.ownNew {T : Option Addr} {Hh' : Hp} {p : Addr} {h' : HO} {o' : OD} (ex : Ex Hh Hh') (hp : H' p = some h') (hx : OAt K L Hh' h' o') : ∀ {σ : L2.St} {ds : List Cell} {os : List Addr} {i : Nat} {b : Bool} {o : OD}, Slots K L T Hh H σ ds os → ds[i]? = some (.own b o) →
    σ[i]? = some (some (.ref p)) → os.Nodup → (∀ q ∈ os, ∀ u, q ≠ p → H q = some u → NtO u → H' q = some u) → Slots K L T Hh' H' σ (ds.set i (.own b o')) os
  | _, _, _, 0, _, _, .own a r t q, h, e, n, k => by
    cases h
    cases e
    refine .own hp hx t (q.ext ex fun q hq u z zn => k q (List.mem_cons_of_mem _ hq) u (fun w => ?_) z zn)
    exact (List.nodup_cons.mp n).1 (w ▸ hq)
  | _, _, _, i + 1, _, _, .free r, h, e, n, k => .free (Slots.ownNew (i := i) ex hp hx r h e n k)
  | _, _, _, i + 1, _, _, .im a r, h, e, n, k => .im (a.ext ex) (Slots.ownNew (i := i) ex hp hx r h e n k)
  | _, _, _, i + 1, _, _, .own (p := q) a w t r, h, e, n, k => by
    obtain ⟨n1, n2⟩ := List.nodup_cons.mp n
    obtain ⟨p', _, hp', e', _⟩ := Slots.ownAt (i := i) r h
    have hpp : p' = p := by
      have := e'.symm.trans e
      simpa using this
    exact .own (k q List.mem_cons_self _ (fun y => n1 (y ▸ hpp ▸ hp')) a w.nt) (w.ext ex) t (Slots.ownNew (i := i) ex hp hx r h e n2 fun q hq => k q (List.mem_cons_of_mem _ hq))
/-- a call that is handed what slot i has -/
theorem SD.callB (hl : vs.length = dvs.length) (s : SD K L F H σ ds (vs ++ ts) (dvs.map Cell.im ++ tcs)) (e : ds[i]? = some (.own b o)) :
    ∃ (S : List Addr) (p : Addr), σ[i]? = some (some (.ref p)) ∧ (∀ p ∈ S, Nt H p) ∧ BorAt K L S H (some p) (some o) ∧ Ims K L (hide H S) vs dvs ∧
      ∀ H' o', ExB L (hide H [p]) H' → (BorAt K L S H' (some p) (some o') → SD K L F H' σ (ds.set i (.own b o')) ts tcs ∧ Ex (hide H' S) (hide H' F.S) ∧
        (∀ v d, Im K L (hide H' S) v d → SD K L F H' σ (ds.set i (.own b o')) (v :: ts) (.im d :: tcs))) ∧
        ∀ p' h o2, ¬ Nt H p' → H' p' = some h → OAt K L (hide H' (p' :: S)) h o2 → BorAt K L (p' :: S) H' (some p) (some o') → SD K L F H' σ (ds.set i (.own b o')) (.ref p' :: ts) (.own false o2 :: tcs) := by
  have al := s.alive
  have s0 := s.popN (vs := vs) (cs := dvs.map Cell.im) (by rw [List.length_map]; exact hl)
  obtain ⟨os, n, hd, tl, x, y⟩ := s.cut hl
  have ec := getC_slot (tcs := tcs) e
  obtain ⟨p, h', hp', e1, e2, hx, t⟩ := y.ownAt ec
  have e1' : σ[i]? = some (some (.ref p)) := by
    rw [List.getElem?_append_right (by rw [List.length_map, tl]; exact Nat.le_add_right _ _), List.length_map, tl, Nat.add_sub_cancel_left] at e1
    exact e1
  have pin : p ∈ os ++ F.S := List.mem_append_left _ hp'
  refine ⟨os ++ F.S, p, e1', fun q hq => (List.mem_append.mp hq).elim (fun z => (hd q z).2) (al q), ⟨pin, h', e2, hx⟩, x, fun H' o' ex => ?_⟩
  obtain ⟨ex, tb'⟩ := ex
  have keep : ∀ q u, q ≠ p → H q = some u → NtO u → H' q = some u := fun q u hq hu hn => ex q u (hide_get hu (by simpa using hq)) hn
  have ext' : ExB L (hide F.H0 F.T.toList) H' := ⟨fun a u z zn => by
    by_cases w : a = p
    · subst w
      rcases (hd a hp').1 with q | q
      · exact absurd ⟨u, hide_ex _ _ z zn, zn⟩ q
      · rw [hide_in (by simp [q])] at z; cases z
    · exact keep a u w (s.ext.ex a u z zn) zn, tb'⟩
  have eset : (tcs ++ ds).set (tcs.length + i) (.own b o') = tcs ++ ds.set i (.own b o') := by
    rw [List.set_append_right _ _ (Nat.le_add_right _ _), Nat.add_sub_cancel_left]
  have ne : Nt H' p → ∀ q, Nt H q → Nt H' q := fun h q ⟨u, a1, a2⟩ => by
    by_cases w : q = p
    · exact w ▸ h
    · exact ⟨u, keep q u w a1 a2, a2⟩
  have go : ∀ B : List Addr, (∀ q ∈ os ++ F.S, q ∈ B) → (∀ q ∈ B, q ∉ os ++ F.S → ¬ Nt H q) → (∃ h2, H' p = some h2 ∧ OAt K L (hide H' B) h2 o') →
      Slots K L F.T (hide H' B) H' (ts.map some ++ σ) (tcs ++ ds.set i (.own b o')) os := by
    rintro B hB hB2 ⟨h2, hh2, hx2⟩
    rw [← eset]
    refine y.ownNew (fun a u z zn => ?_) hh2 hx2 ec e1 n fun q _ u hq => keep q u hq
    have z2 : a ∉ os ++ F.S := fun z' => by
      rw [hide_in z'] at z
      cases z
    have z3 : a ∉ B := fun z' => by
      exact hB2 a z' z2 ⟨u, hide_ex _ _ z zn, zn⟩
    exact hide_get (keep a u (fun w => z2 (w ▸ pin)) (hide_ex a u z zn) zn) z3
  refine ⟨fun hb => ?_, fun p' h o2 hp2 hp2' w hb => ?_⟩
  · obtain ⟨-, h2, hh2, hx2⟩ := hb
    have ne' := ne ⟨h2, hh2, hx2.nt⟩
    have tin' : ∀ q, F.T = some q → Nt H' q := fun q hq => ne' q (s.tin q hq)
    have hd' : ∀ q ∈ os, (¬ Nt F.H0 q ∨ F.T = some q) ∧ Nt H' q := fun q hq => ⟨(hd q hq).1, ne' q (hd q hq).2⟩
    have y2 := go (os ++ F.S) (fun _ h => h) (fun q h h' => absurd h h') ⟨h2, hh2, hx2⟩
    exact ⟨⟨s.ok, tl, ext', tin', os, n, hd', y2⟩, hide_sub fun q hq => List.mem_append_right _ hq, fun v d a => SD.glue (vs := [v]) (dvs := [d]) s.ok ext' tin' n hd' tl (.cons a .nil) y2⟩
  · obtain ⟨-, h2, hh2, hx2⟩ := hb
    have ne' := ne ⟨h2, hh2, hx2.nt⟩
    have tin' : ∀ q, F.T = some q → Nt H' q := fun q hq => ne' q (s.tin q hq)
    have hd' : ∀ q ∈ os, (¬ Nt F.H0 q ∨ F.T = some q) ∧ Nt H' q := fun q hq => ⟨(hd q hq).1, ne' q (hd q hq).2⟩
    obtain ⟨f1, f2, f3⟩ := s.fresh hp2
    have np : p' ∉ os := fun z => hp2 (hd p' z).2
    have y2 := go (p' :: (os ++ F.S)) (fun q hq => List.mem_cons_of_mem _ hq) (fun q h h' => (List.mem_cons.mp h).elim (fun z => z ▸ hp2) fun z => absurd z h') ⟨h2, hh2, hx2⟩
    refine ⟨s.ok, congrArg (· + 1) tl, ext', tin', p' :: os, List.nodup_cons.mpr ⟨np, n⟩, fun q hq => ?_, .own hp2' w ⟨fun z => absurd z f2, fun z => by cases z⟩ y2⟩
    rcases List.mem_cons.mp hq with z | z
    · subst z
      exact ⟨.inl f1, _, hp2', w.nt⟩
    · exact hd' q z
/-- a slot out of the way: its cell lies on top -/
theorem Slots.takeOut {T : Option Addr} : ∀ {σ : L2.St} {ds : List Cell} {os : List Addr} {i : Nat}, Slots K L T Hh H σ ds os → ds[i]? = some c → c ≠ .free →
    ∃ v o1 o2, σ[i]? = some (some v) ∧ (∀ q, q ∈ os ↔ q ∈ o1 ∨ q ∈ o2) ∧ (os.Nodup → (o1 ++ o2).Nodup) ∧ Slots K L T Hh H [some v] [c] o1 ∧ Slots K L T Hh H (σ.set i none) (ds.set i .free) o2
  | _, _, _, 0, .free _, h, hc => by cases h; exact absurd rfl hc
  | _, _, _, 0, .im (v := v) (os := os) a r, h, hc => by
    cases h
    exact ⟨v, [], os, rfl, by simp, by simp, .im a .nil, .free r⟩
  | _, _, _, 0, .own (p := p) (os := os) a w t r, h, hc => by
    cases h
    exact ⟨.ref p, [p], os, rfl, by simp, by simp, .own a w t .nil, .free r⟩
  | _, _, _, i + 1, .free r, h, hc =>
    let ⟨v, o1, o2, e1, m, n, x, y⟩ := Slots.takeOut (i := i) r h hc
    ⟨v, o1, o2, e1, m, n, x, .free y⟩
  | _, _, _, i + 1, .im a r, h, hc =>
    let ⟨v, o1, o2, e1, m, n, x, y⟩ := Slots.takeOut (i := i) r h hc
    ⟨v, o1, o2, e1, m, n, x, .im a y⟩
  | _, _, _, i + 1, .own (p := p) a w t r, h, hc => by
    obtain ⟨v, o1, o2, e1, m, n, x, y⟩ := Slots.takeOut (i := i) r h hc
    refine ⟨v, o1, p :: o2, e1, fun q => ?_, fun w => ?_, x, .own a w t y⟩
    · simp only [List.mem_cons, m]
      constructor
      · rintro (z | z | z)
        · exact .inr (.inl z)
        · exact .inl z
        · exact .inr (.inr z)
      · rintro (z | z | z)
        · exact .inr (.inl z)
        · exact .inl z
        · exact .inr (.inr z)
    · obtain ⟨w1, w2⟩ := List.nodup_cons.mp w
      have q := n w2
      have nm : p ∉ o1 ++ o2 := fun z => w1 ((m p).mpr (List.mem_append.mp z))
      have q' := List.nodup_append.mp q
      refine List.nodup_append.mpr ⟨q'.1, List.nodup_cons.mpr ⟨fun z => nm (List.mem_append_right _ z), q'.2.1⟩, fun a ha b hb e => ?_⟩
      subst e
      rcases List.mem_cons.mp hb with z | z
      · exact nm (List.mem_append_left _ (z ▸ ha))
      · exact q'.2.2 a ha a z rfl
theorem SD.park (s : SD K L F H σ ds ts tcs) (e : ds[i]? = some c) (hc : c ≠ .free) : ∃ v, σ[i]? = some (some v) ∧ SD K L F H (σ.set i none) (ds.set i .free) (v :: ts) (c :: tcs) := by
  obtain ⟨o1, o2, n, hd, s1, s2⟩ := s.slots
  obtain ⟨v, q1, q2, e1, m, n', x, y⟩ := s2.takeOut e hc
  have nn := List.nodup_append.mp n
  have sub : ∀ q, q ∈ q1 ++ (o1 ++ q2) ↔ q ∈ o1 ++ o2 := fun q => by
    simp only [List.mem_append, m]
    constructor
    · rintro (z | z | z)
      · exact .inr (.inl z)
      · exact .inl z
      · exact .inr (.inr z)
    · rintro (z | z | z)
      · exact .inr (.inl z)
      · exact .inl z
      · exact .inr (.inr z)
  have sub' : ∀ q ∈ q1 ++ (o1 ++ q2) ++ F.S, q ∈ o1 ++ o2 ++ F.S := fun q hq => by
    rcases List.mem_append.mp hq with z | z
    · exact List.mem_append_left _ ((sub q).mp z)
    · exact List.mem_append_right _ z
  have nq := List.nodup_append.mp (n' nn.2.1)
  refine ⟨v, e1, s.ok, congrArg (· + 1) s.tl, s.ext, s.tin, q1 ++ (o1 ++ q2), ?_, fun q hq => hd q ((sub q).mp hq), ?_⟩
  · refine List.nodup_append.mpr ⟨nq.1, List.nodup_append.mpr ⟨nn.1, nq.2.1, fun a ha b hb => nn.2.2 a ha b ((m b).mpr (.inr hb))⟩, fun a ha b hb => ?_⟩
    rcases List.mem_append.mp hb with z | z
    · exact fun w => nn.2.2 b z a ((m a).mpr (.inl ha)) w.symm
    · exact nq.2.2 a ha b z
  · exact (x.sub sub').append ((s1.sub sub').append (y.sub sub'))
theorem SD.free1 (s : SD K L F H σ ds ts tcs) (e : ds[i]? = some .free) : SD K L F H (σ.set i none) ds ts tcs := by
  have := s.wipe (i := i) (x := none)
  rw [show ds.set i .free = ds from by
    apply List.ext_getElem?
    intro j
    by_cases hj : i = j
    · subst hj
      obtain ⟨h, -⟩ := List.getElem?_eq_some_iff.mp e
      rw [List.getElem?_set_self h, e]
    · rw [List.getElem?_set_ne hj]] at this
  exact this
end
end Ev
/-! E4: a small language, and what it comes to. -/
namespace Ev
open PySem PySem.Spec PyProof.Rows L2 Sg
/-- built-in types, as they stand in isinstance -/
inductive Bt where
  | int | bool | str | list | tuple | dict
  deriving DecidableEq, Inhabited
inductive Cl where
  | bt (b : Bt)
  | own (c : Nat)
  deriving DecidableEq, Inhabited
/-- built-in functions of one argument -/
inductive Bl where
  | abs | int | len | list | max | min | repr | str | sum | tuple | sorted | all | any | sset
  deriving DecidableEq, Inhabited
/-- of two -/
inductive Bl2 where
  | max | min
  deriving DecidableEq, Inhabited
/-- methods of texts and dicts -/
inductive Mth where
  | upper | lower | islower | join | find | rfind | startswith | split | get
  deriving DecidableEq, Inhabited
inductive CE where
  | lit (d : Dt)
  | var (i : Nat)
  | bin (op : Operator) (a b : CE)
  | rep (a b : CE)
  | neg (a : CE)
  | inv (a : CE)
  | cmp (op : CmpOp) (a b : CE)
  | cmp2 (op op2 : CmpOp) (a b c : CE)
  | isn (y : Bool) (a : CE)
  /-- tests -/
  | and (a b : CE)
  | or (a b : CE)
  | not (a : CE)
  /-- .. as values, of truth values -/
  | andV (a b : CE)
  | orV (a b : CE)
  | notV (a : CE)
  | ife (c a b : CE)
  | lst (es : CE)
  | tup (es : CE)
  | dct (ks : List Key) (es : CE)
  | nil
  | cons (e es : CE)
  | call (f : Nat) (es : CE)
  | callB (f : Nat) (i : Nat) (es : CE)
  | callT (f : Nat) (e es : CE)
  | make (c : Nat) (es : CE)
  | bl (b : Bl) (e : CE)
  | bl2 (b : Bl2) (e e2 : CE)
  | mth (m : Mth) (o es : CE)
  | fld (f : Nat) (o : CE)
  | meth (m : Nat) (o es : CE)
  | methB (m : Nat) (i : Nat) (es : CE)
  | isi (e : CE) (c : Cl)
  | ix (a b : CE)
  | sl (a lo hi : CE)
  | rev (a : CE)
  | pop (i : Nat) (e : CE)
  | comp (tg : List Nat) (it elt : CE)
  | compI (tg : List Nat) (it c elt : CE)
  | rng (a : CE)
  | rng2 (a b : CE)
  | rng3 (a b c : CE)
  | zip (a b : CE)
  | zip3 (a b c : CE)
  | enum (a : CE)
  | items (a : CE)
  | fstr (es : CE)
  | fval (r : Bool) (e : CE)
  | comp2 (tg tg2 : List Nat) (it it2 elt : CE)
  /-- def f called with `lambda: e` -/
  | lamc (f : Nat) (e : CE)
  | bad
  deriving Inhabited
inductive CS where
  | nil
  | pass (rest : CS)
  | set (i : Nat) (e : CE) (rest : CS)
  | setT (is : List Nat) (e : CE) (rest : CS)
  | setIx (i : Nat) (k e : CE) (rest : CS)
  | setFld (i : Nat) (f : Nat) (e : CE) (rest : CS)
  | app (i : Nat) (e : CE) (rest : CS)
  | ext (i : Nat) (e : CE) (rest : CS)
  | expr (e : CE) (rest : CS)
  | ret (e : CE)
  | ifs (c : CE) (a b rest : CS)
  | fors (tg : List Nat) (it : CE) (body rest : CS)
  | whil (c : CE) (body rest : CS)
  | raise (x : Nat) (es : CE)
  | try (body hds rest : CS)
  | hd (x : Nat) (n : Option Nat) (body rest : CS)
  /-- except x as e: return pre + repr(e.f), or of a tuple of such -/
  | hdR (x i : Nat) (pre : List Nat) (fs : List Nat) (tup : Bool) (rest : CS)
  | brk
  | cont
  | bad
  deriving Inhabited
/-- a def: how many parameters, slots; whether its first one is handed over; its body -/
structure Code where
  np : Nat
  ns : Nat
  bor : Bool
  body : CS
  deriving Inhabited
/-- a def that calls what it got: `try: call()` or `try: return call()`, the clauses, what follows -/
structure LCode where
  ns : Nat
  ret : Bool
  hds : CS
  rest : CS
  deriving Inhabited
/-- what an attribute of an own class is -/
inductive At where
  | prop (f : Nat)
  | meth (f : Nat)
/-- what an error's __init__ does -/
inductive EIni where
  | fld (ns : List Nat)
  | cop (f n : Nat)
/-- the program: defs by number, names of attributes by number, classes by number -/
structure Gm where
  code : Nat → Option Code
  nm : Nat → Str
  fl : Nat → List Str
  at_ : Nat → Nat → Option At
  init : Nat → Option Nat
  ops : Nat → Operator → Option Nat
  inv : Nat → Option Nat
  len : Nat → Option Nat
  getitem : Nat → Option Nat
  eq : Nat → Option Nat
  /-- what raise C(..) makes -/
  mkE : Nat → List Dt → Option Er
  sub : Nat → Nat → Option Bool
  eini : Nat → Option EIni
  lcode : Nat → Option LCode
  /-- what such a def makes of what the lambda comes to -/
  lamF : (Nat → Option OD → List Dt → CRes) → Nat → Res Dt → CRes
  /-- how many own classes -/
  nc : Nat
abbrev CallF := Nat → Option OD → List Dt → CRes
abbrev RE := Res (RV × List Cell)
/-! ### data -/
instance (i j : Int) : Decidable (CMulX i j) := inferInstanceAs (Decidable (_ ≤ _))
instance (i j : Int) : Decidable (CDivW i j) := inferInstanceAs (Decidable (_ ∧ _))
instance (i j : Int) : Decidable (CPowX i j) := inferInstanceAs (Decidable (_ ∧ _))
def ints? : List Dt → Option (List Int)
  | [] => some []
  | .int i :: r => (ints? r).map (i :: ·)
  | _ :: _ => none
def bools? : List Dt → Option (List Bool)
  | [] => some []
  | .bl i :: r => (bools? r).map (i :: ·)
  | _ :: _ => none
def strs? : List Dt → Option (List (List Nat))
  | [] => some []
  | .str i :: r => (strs? r).map (i :: ·)
  | _ :: _ => none
mutual
def Dt.py : Dt → PyData
  | .non => .none
  | .bl b => .bool b
  | .int i => .int i
  | .str x => .str (mkS x)
  | .lst l => .list (Dt.pys l)
  | .tup l => .tuple (Dt.pys l)
  | .obj _ _ => .none
  | .dct _ _ => .none
  | .con _ => .none
def Dt.pys : List Dt → List PyData
  | [] => []
  | d :: r => d.py :: Dt.pys r
end
mutual
/-- no object, dict or thing of the program in it -/
def Dt.plain : Dt → Bool
  | .lst l => Dt.plains l
  | .tup l => Dt.plains l
  | .obj _ _ => false
  | .dct _ _ => false
  | .con _ => false
  | _ => true
def Dt.plains : List Dt → Bool
  | [] => true
  | d :: r => d.plain && Dt.plains r
end
/-- the signs of a text -/
def signs (x : List Nat) : List Dt := x.map fun c => .str [c]
def rngs (lo : Int) (n : Nat) : List Dt := (List.range n).map fun (k : Nat) => Dt.int (lo + (k : Int))
def enumD (l : List Dt) : List Dt := (List.range l.length).zipWith (fun (i : Nat) d => Dt.tup [.int (i : Nat), d]) l
def cutN {α : Type} (l : List α) (lo hi : Option Int) : List α := (l.drop (HT.sIx l.length 0 lo)).take (HT.sIx l.length l.length hi - HT.sIx l.length 0 lo)
abbrev cutD (l : List Dt) (lo hi : Option Int) : List Dt := cutN l lo hi
/-- short enough -/
def szB (n : Nat) : Bool := Nat.ble n sizeLine
mutual
/-- == of data -/
def eqD : Dt → Dt → Bool
  | .non, .non => true
  | .bl a, .bl b => a == b
  | .bl a, .int j => (if a then 1 else 0) == j
  | .int i, .bl b => i == (if b then 1 else 0)
  | .int i, .int j => i == j
  | .str x, .str y => x == y
  | .lst l, .lst m => eqDs l m
  | .tup l, .tup m => eqDs l m
  | _, _ => false
def eqDs : List Dt → List Dt → Bool
  | [], [] => true
  | d :: l, e :: m => eqD d e && eqDs l m
  | _, _ => false
end
/-- signs that are some -/
def okS (x : List Nat) : Bool := x.all fun c => Nat.blt c 1114112
mutual
/-- how deep a plain datum is, texts not too long -/
def depD : Dt → Option Nat
  | .str x => if okS x then some 0 else none
  | .lst l => (depDs l).map (· + 1)
  | .tup l => (depDs l).map (· + 1)
  | .obj _ _ => none
  | .dct _ _ => none
  | .con _ => none
  | _ => some 0
def depDs : List Dt → Option Nat
  | [] => some 0
  | d :: r => match depD d, depDs r with
    | some a, some b => some (Nat.max a b)
    | _, _ => none
end
def eqdB (d : Dt) : Bool := match depD d with
  | some n => Nat.ble n 64
  | none => false

def lenS : List (List Nat) → Nat
  | [] => 0
  | x :: r => x.length + lenS r
def joinOk (x : List Nat) (ys : List (List Nat)) : Bool := Nat.ble (lenS ys + ys.length * x.length) 16777216
def glueL (x : List Nat) : List (List Nat) → List Nat
  | [] => []
  | [y] => y
  | y :: r => y ++ (x ++ glueL x r)
/-! how data are shown -/
def shN (n : Nat) : List Nat := (Nat.toDigits 10 n).map Char.toNat
def shI : Int → List Nat
  | .ofNat n => shN n
  | .negSucc n => 45 :: shN (n + 1)
/-- a sign that is shown as it is -/
def plS (c : Nat) : Bool := Nat.ble 32 c && Nat.ble c 126 && !Nat.beq c 39 && !Nat.beq c 92
def shS (x : List Nat) : List Nat := if x.all plS then 39 :: (x ++ [39]) else (PyData.str (mkS x)).shown.cps.toList
mutual
def shD : Dt → List Nat
  | .non => [78, 111, 110, 101]
  | .bl b => if b then [84, 114, 117, 101] else [70, 97, 108, 115, 101]
  | .int i => shI i
  | .str x => shS x
  | .lst l => 91 :: (glueL [44, 32] (shDs l) ++ [93])
  | .tup l => 40 :: (glueL [44, 32] (shDs l) ++ (match l with | [_] => [44, 41] | _ => [41]))
  | _ => []
def shDs : List Dt → List (List Nat)
  | [] => []
  | d :: r => shD d :: shDs r
end
mutual
def shOk : Dt → Bool
  | .int i => Nat.blt (Nat.log2 i.natAbs) 1920
  | .lst l => shOks l
  | .tup l => shOks l
  | .obj _ _ => false
  | .dct _ _ => false
  | .con _ => false
  | _ => true
def shOks : List Dt → Bool
  | [] => true
  | d :: r => shOk d && shOks r
end
def shwB (d : Dt) : Bool := shOk d && (match depD d with
  | some n => Nat.ble n 60
  | none => false) && szB (shD d).length
def inR : Int → Bool
  | .ofNat n => Nat.ble n 4611686018427387903
  | .negSucc n => Nat.ble n 4611686018427387903
def okV (b : Bool) (d : Dt) : Option RV := if b then some (.val d) else none
def okN (b : Bool) (l : List Dt) : Option RV := if b then some (.new (.lst l)) else none
def binD : Operator → Dt → Dt → Option RV
  | .Add, .int i, .int j => some (.val (.int (i + j)))
  | .Sub, .int i, .int j => some (.val (.int (i - j)))
  | .Mult, .int i, .int j => okV (decide (CMulX i j)) (.int (i * j))
  | .Mult, .str x, .int j => okV (inR j && szB (x.length * j.toNat)) (.str (List.replicate j.toNat x).flatten)
  | .Mod, .int i, .int j => okV (decide (0 < j)) (.int (i % j))
  | .FloorDiv, .int i, .int j => okV (decide (CDivW i j)) (.int (i / j))
  | .Pow, .int i, .int j => okV (decide (CPowX i j)) (.int (i ^ j.toNat))
  | .Add, .str x, .str y => okV (szB (x.length + y.length)) (.str (x ++ y))
  | .Add, .lst x, .lst y => okN (szB (x.length + y.length)) (x ++ y)
  | .Add, .tup x, .tup y => okV (szB (x.length + y.length)) (.tup (x ++ y))
  | _, _, _ => none
/-- the order of texts -/
def ltL : List Nat → List Nat → Bool
  | [], [] => false
  | [], _ :: _ => true
  | _ :: _, [] => false
  | a :: x, b :: y => if Nat.blt a b then true else if Nat.beq a b then ltL x y else false
def preL : List Nat → List Nat → Bool
  | [], _ => true
  | _ :: _, [] => false
  | a :: x, b :: y => Nat.beq a b && preL x y
/-- a text within another -/
def infL (x : List Nat) : List Nat → Bool
  | [] => preL x []
  | c :: y => preL x (c :: y) || infL x y
def cmpD : CmpOp → Dt → Dt → Option Bool
  | .Eq, a, b => if eqdB a && eqdB b then some (eqD a b) else none
  | .NotEq, a, b => if eqdB a && eqdB b then some (!eqD a b) else none
  | .Lt, .int i, .int j => some (decide (i < j))
  | .LtE, .int i, .int j => some (decide (i ≤ j))
  | .Gt, .int i, .int j => some (decide (j < i))
  | .GtE, .int i, .int j => some (decide (j ≤ i))
  | .Lt, .str x, .str y => some (ltL x y)
  | .LtE, .str x, .str y => some (!ltL y x)
  | .In, .str x, .str y => some (infL x y)
  | .NotIn, .str x, .str y => some (!infL x y)
  | .In, a, .lst l => if eqdB a && eqdB (.lst l) then some (l.any fun z => eqD z a) else none
  | .NotIn, a, .lst l => if eqdB a && eqdB (.lst l) then some (!l.any fun z => eqD z a) else none
  | _, _, _ => none
def trD : Dt → Option Bool
  | .non => some false
  | .bl b => some b
  | .int i => some (!(i == 0))
  | .str x => if szB x.length then some (!x.isEmpty) else none
  | .lst l => some (!l.isEmpty)
  | .tup l => some (!l.isEmpty)
  | .dct ks _ => some (!ks.isEmpty)
  | _ => none
def ixD : Dt → Dt → Option Dt
  | .lst l, .int i => L2.atI l i
  | .tup l, .int i => L2.atI l i
  | .str x, .int i => if szB x.length then (L2.atI x i).map fun c => .str [c] else none
  | _, _ => none
def slD : Dt → Option Int → Option Int → Option RV
  | .lst l, lo, hi => some (.new (.lst (cutD l lo hi)))
  | .tup l, lo, hi => some (.val (.tup (cutD l lo hi)))
  | .str x, lo, hi => okV (szB x.length) (.str (cutN x lo hi))
  | _, _, _ => none
def revD : Dt → Option RV
  | .lst l => some (.new (.lst l.reverse))
  | .tup l => some (.val (.tup l.reverse))
  | _ => none
def blD : Bl → Dt → Option RV
  | .abs, .int i => some (.val (.int (if i < 0 then -i else i)))
  | .int, .int i => some (.val (.int i))
  | .int, .bl b => some (.val (.int (if b then 1 else 0)))
  | .len, .lst l => some (.val (.int l.length))
  | .len, .tup l => some (.val (.int l.length))
  | .len, .str x => okV (szB x.length) (.int x.length)
  | .list, .lst l => some (.new (.lst l))
  | .list, .tup l => some (.new (.lst l))
  | .tuple, .lst l => some (.val (.tup l))
  | .tuple, .tup l => some (.val (.tup l))
  | .repr, d => okV (shwB d) (.str (shD d))
  | .sum, .lst l => (ints? l).map fun ns => .val (.int ns.sum)
  | .all, .lst l => (bools? l).map fun bs => .val (.bl (bs.all id))
  | .any, .lst l => (bools? l).map fun bs => .val (.bl (bs.any id))
  | .sorted, .lst l => (ints? l).bind fun ns => okN (Nat.blt ns.length 64) ((ns.mergeSort (fun a b => decide (a ≤ b))).map Dt.int)
  | _, _ => none
def bl2D : Bl2 → Dt → Dt → Option RV
  | .max, .int i, .int j => some (.val (.int (if j > i then j else i)))
  | .min, .int i, .int j => some (.val (.int (if j < i then j else i)))
  | _, _, _ => none
/-- signs below 128 alone -/
def ascL (x : List Nat) : Bool := x.all fun c => Nat.blt c 128
def upC (c : Nat) : Nat := if Nat.ble 97 c && Nat.ble c 122 then c - 32 else c
def loC (c : Nat) : Nat := if Nat.ble 65 c && Nat.ble c 90 then c + 32 else c
def mthD : Mth → Dt → List Dt → Option RV
  | .upper, .str x, [] => okV (ascL x && Nat.ble x.length 5592405) (.str (x.map upC))
  | .lower, .str x, [] => okV (ascL x && Nat.ble x.length 5592405) (.str (x.map loC))
  | .join, .str x, [.lst l] => (strs? l).bind fun ys => okV (joinOk x ys) (.str (glueL x ys))
  | .join, .str x, [.tup l] => (strs? l).bind fun ys => okV (joinOk x ys) (.str (glueL x ys))
  | _, _, _ => none
/-- what has the method -/
def mthOk : Mth → Dt → Bool
  | .get, .dct _ _ => true
  | .get, _ => false
  | _, .str _ => true
  | _, _ => false
def btD : Dt → Bt → Bool
  | .bl _, .int => true
  | .bl _, .bool => true
  | .int _, .int => true
  | .str _, .str => true
  | .lst _, .list => true
  | .tup _, .tuple => true
  | .dct _ _, .dict => true
  | _, _ => false
/-- isinstance; own classes have no subclasses here -/
def isD (nc : Nat) : Dt → Cl → Option Bool
  | .con _, _ => none
  | .obj c _, .own c' => if c < nc ∧ c' < nc then some (decide (c = c')) else none
  | .obj c l, .bt b => if c < nc then some (btD (.obj c l) b) else none
  | d, .bt b => some (btD d b)
  | _, .own c' => if c' < nc then some false else none
def pairs (l m : List Dt) : List Dt := l.zipWith (fun a b => Dt.tup [a, b]) m
/-- what zip gives -/
def zipD : Dt → Dt → Option (List Dt)
  | .str x, .str y => if ascL x && ascL y then some (pairs (signs x) (signs y)) else none
  | _, _ => none
/-- a target takes a datum -/
def setTg (ds : List Cell) : List Nat → Dt → Option (List Cell)
  | [i], d => some (ds.set i (.im d))
  | is, .tup l => if is.length = l.length then some ((is.zip l).foldl (fun ds p => ds.set p.1 (.im p.2)) ds) else none
  | _, _ => none
/-- .. where the places are there -/
def setTgB (ds : List Cell) (is : List Nat) (d : Dt) : Option (List Cell) := if is.all (fun i => decide (i < ds.length)) then setTg ds is d else none
theorem setTgB_some {ds ds' : List Cell} {is : List Nat} {d : Dt} (h : setTgB ds is d = some ds') : setTg ds is d = some ds' ∧ ∀ i ∈ is, i < ds.length := by
  unfold setTgB at h
  split at h
  · rename_i hh
    exact ⟨h, fun i hi => by simpa using List.all_eq_true.mp hh i hi⟩
  · cases h
/-! ### what an expression comes to -/
def frzR (fl : Nat → List Str) (rv : RV) (ds : List Cell) : Res (Dt × List Cell) :=
  match rv with
  | .val d => .ok (d, ds)
  | .new o => match o.frz fl with
    | some d => .ok (d, ds)
    | none => .no
  | .ali i => match ds[i]? with
    | some (.own false o) => match o.frz fl with
      | some d => .ok (d, ds.set i (.im d))
      | none => .no
    | _ => .no
def pkR (fl : Nat → List Str) (rv : RV) (ds : List Cell) : Option Dt :=
  match rv with
  | .val d => some d
  | .new o => o.frz fl
  | .ali i => match ds[i]? with
    | some (.own _ o) => o.frz fl
    | _ => none
def opt {α : Type} (x : Option α) (ds : List Cell) : Res (α × List Cell) :=
  match x with
  | some a => .ok (a, ds)
  | none => .no
def goCall (call : CallF) (f : Nat) (dvs : List Dt) (ds : List Cell) : RE :=
  match call f none dvs with
  | .ok rv none => .ok (rv, ds)
  | .er r none => .er r ds
  | _ => .no
def goCallB (call : CallF) (f i : Nat) (dvs : List Dt) (ds : List Cell) : RE :=
  match ds[i]? with
  | some (.own b o) => match call f (some o) dvs with
    | .ok rv (some o') => .ok (rv, ds.set i (.own b o'))
    | .er r (some o') => .er r (ds.set i (.own b o'))
    | _ => .no
  | _ => .no
/-- what is handed over is nobody's afterwards -/
def goCallT (call : CallF) (f : Nat) (o : OD) (dvs : List Dt) (ds : List Cell) : RE :=
  match call f (some o) dvs with
  | .ok rv (some _) => .ok (rv, ds)
  | .er r (some _) => .er r ds
  | _ => .no
def asNewO (x : RV × List Cell) : Res (OD × List Cell) := match x.1 with
  | .new o => .ok (o, x.2)
  | _ => .no
def goMake (call : CallF) (f c : Nat) (dvs : List Dt) (ds : List Cell) : RE :=
  match call f (some (.ins c [] [])) dvs with
  | .ok (.val .non) (some o) => .ok (.new o, ds)
  | .er r (some _) => .er r ds
  | _ => .no
/-- what may stand to the right of an own operator -/
def ownB (c : Nat) : Dt → Bool
  | .obj c' _ => decide (c' = c)
  | .non => true
  | .bl _ => true
  | .int _ => true
  | .str _ => true
  | _ => false
/-- two operands -/
def binR (G : Gm) (call : CallF) (op : Operator) (a b : Dt) (ds : List Cell) : RE :=
  match a with
  | .obj c _ => match G.ops c op with
    | some f => if ownB c b then goCall call f [a, b] ds else .no
    | none => .no
  | _ => opt (binD op a b) ds
def cmpR (G : Gm) (call : CallF) (op : CmpOp) (a b : Dt) (ds : List Cell) : Res (Bool × List Cell) :=
  match a, b, op with
  | .obj c _, .obj c' _, .Eq => match G.eq c with
    | some f => if c = c' then match goCall call f [a, b] ds with
        | .ok (.val (.bl x), ds') => .ok (x, ds')
        | _ => .no
      else .no
    | none => .no
  | _, _, _ => opt (cmpD op a b) ds
/-- the cells of a loop's variables laid aside, and back -/
def parked (ds : List Cell) : List Nat → List Cell
  | [] => ds
  | i :: is => (parked ds is).set i .free
def unparked (ds0 ds : List Cell) : List Nat → List Cell
  | [] => ds
  | i :: is => match ds0[i]? with
    | some c => (unparked ds0 ds is).set i c
    | none => unparked ds0 ds is
/-- a comprehension: f the tests and the item, none where it is left out -/
def compL (tg : List Nat) (f : List Cell → Res (Option Dt × List Cell)) : List Dt → List Dt → List Cell → Res (List Dt × List Cell)
  | [], acc, ds => .ok (acc, ds)
  | d :: l, acc, ds => match setTg ds tg d with
    | none => .no
    | some ds1 => match f ds1 with
      | .ok (some y, ds2) => compL tg f l (acc ++ [y]) (parked ds2 tg)
      | .ok (none, ds2) => compL tg f l acc (parked ds2 tg)
      | _ => .no
def compR (tg : List Nat) (l : List Dt) (f : List Cell → Res (Option Dt × List Cell)) (ds : List Cell) : RE :=
  if l.length ≤ sizeLine ∧ tg.all (fun i => decide (i < ds.length)) then
    match compL tg f l [] (parked ds tg) with
    | .ok (acc, ds') => .ok (.new (.lst acc), unparked ds ds' tg)
    | _ => .no
  else .no
/-- .. of two sources -/
def compLL (tg tg2 : List Nat) (g : List Cell → Res (List Dt × List Cell)) (f : List Cell → Res (Option Dt × List Cell)) : List Dt → List Dt → List Cell → Res (List Dt × List Cell)
  | [], acc, ds => .ok (acc, ds)
  | d :: l, acc, ds => match setTg ds tg d with
    | none => .no
    | some ds1 => match g ds1 with
      | .ok (l2, ds2) => if szB (acc.length + l2.length) then match compL tg2 f l2 acc (parked ds2 tg2) with
        | .ok (acc2, ds3) => compLL tg tg2 g f l acc2 (parked ds3 (tg ++ tg2))
        | _ => .no
        else .no
      | _ => .no
def compR2 (tg tg2 : List Nat) (l : List Dt) (g : List Cell → Res (List Dt × List Cell)) (f : List Cell → Res (Option Dt × List Cell)) (ds : List Cell) : RE :=
  if (tg ++ tg2).all (fun i => decide (i < ds.length)) then match compLL tg tg2 g f l [] (parked ds (tg ++ tg2)) with
    | .ok (acc, dsf) => .ok (.new (.lst acc), unparked ds dsf (tg ++ tg2))
    | _ => .no
  else .no
def int? : Dt → Option Int
  | .int i => some i
  | _ => none
/-- as a datum -/
def vv (G : Gm) (r : RE) : Res (Dt × List Cell) := r.bind fun x => frzR G.fl x.1 x.2
/-- what is only looked at -/
def pp (G : Gm) (r : RV) (ds : List Cell) : Res (Dt × List Cell) := opt (pkR G.fl r ds) ds
/-- as a test -/
def tt (G : Gm) (r : RE) : Res (Bool × List Cell) := r.bind fun x => (pp G x.1 x.2).bind fun y => opt (trD y.1) y.2
def asNew (x : RV × List Cell) : Res (List Dt × List Cell) := match x.1 with
  | .new (.lst l) => .ok (l, x.2)
  | _ => .no
def asInt (x : Dt × List Cell) : Res (Int × List Cell) := match x.1 with
  | .int i => .ok (i, x.2)
  | _ => .no
def asBool (x : Dt × List Cell) : Res (Bool × List Cell) := match x.1 with
  | .bl i => .ok (i, x.2)
  | _ => .no
/-- a slice's part -/
def partR (c : CE) (r : Res (Dt × List Cell)) (ds : List Cell) : Res (Option Int × List Cell) := match c with
  | .nil => .ok (none, ds)
  | _ => (r.bind asInt).bind fun x => .ok (some x.1, x.2)
/-- is None, is not None -/
def isnD (k : Bool) : Dt → Option RV
  | .con _ => none
  | .non => some (.val (.bl k))
  | _ => some (.val (.bl (!k)))
/-- what is walked -/
def asItems (x : Dt × List Cell) : Res (List Dt × List Cell) := match x.1 with
  | .lst l => .ok (l, x.2)
  | .tup l => .ok (l, x.2)
  | .str y => .ok (signs y, x.2)
  | _ => .no
def okR (d : Dt) (ds : List Cell) : RE := .ok (.val d, ds)
/-- slot i has an own object -/
def ownA (i : Nat) (ds : List Cell) : Res Unit := match ds[i]? with
  | some (.own _ _) => .ok ()
  | _ => .no
/-- what a lambda sees: no own objects -/
def seen : Cell → Cell
  | .own _ _ => .free
  | c => c
def thk (r : Res (Dt × List Cell)) : Res Dt := match r with
  | .ok x => .ok x.1
  | .er r _ => .er r []
  | .no => .no
def lamE (r : CRes) (ds : List Cell) : RE := match r with
  | .ok (.val d) none => okR d ds
  | .ok (.new o) none => .ok (.new o, ds)
  | _ => .no
/-- a part of an f-string, as a text -/
def fvD (r : Bool) : Dt → Option RV
  | .str y => if r then okV (shwB (.str y)) (.str (shD (.str y))) else okV (szB y.length) (.str y)
  | .int i => okV (shwB (.int i)) (.str (shD (.int i)))
  | _ => none
mutual
def evE (G : Gm) (call : CallF) : CE → List Cell → RE
  | .lit d, ds => okR d ds
  | .nil, ds => okR .non ds
  | .var i, ds => match ds[i]? with
    | some (.im d) => okR d ds
    | some (.own _ _) => .ok (.ali i, ds)
    | _ => .no
  | .bin op a b, ds => (vv G (evE G call a ds)).bind fun x => (vv G (evE G call b x.2)).bind fun y => binR G call op x.1 y.1 y.2
  | .rep a b, ds => ((evE G call a ds).bind asNew).bind fun x => ((vv G (evE G call b x.2)).bind asInt).bind fun y => opt (okN (decide (-(2 ^ 63) ≤ y.1 ∧ y.1 < 2 ^ 63 ∧ x.1.length * y.1.toNat ≤ sizeLine)) (List.replicate y.1.toNat x.1).flatten) y.2
  | .neg a, ds => ((vv G (evE G call a ds)).bind asInt).bind fun x => okR (.int (-x.1)) x.2
  | .inv a, ds => (vv G (evE G call a ds)).bind fun x => match x.1 with
    | .obj c l => match G.inv c with
      | some f => goCall call f [.obj c l] x.2
      | none => .no
    | _ => .no
  | .cmp op a b, ds => (vv G (evE G call a ds)).bind fun x => (vv G (evE G call b x.2)).bind fun y => (cmpR G call op x.1 y.1 y.2).bind fun r => okR (.bl r.1) r.2
  | .cmp2 op op2 a b c, ds => (vv G (evE G call a ds)).bind fun x => (vv G (evE G call b x.2)).bind fun y => (opt (cmpD op x.1 y.1) y.2).bind fun r =>
      if r.1 then (vv G (evE G call c r.2)).bind fun z => (opt (cmpD op2 y.1 z.1) z.2).bind fun q => okR (.bl q.1) q.2 else okR (.bl false) r.2
  | .isn k a, ds => (vv G (evE G call a ds)).bind fun x => opt (isnD k x.1) x.2
  | .and a b, ds => (tt G (evE G call a ds)).bind fun x => if x.1 then (tt G (evE G call b x.2)).bind fun y => okR (.bl y.1) y.2 else okR (.bl false) x.2
  | .or a b, ds => (tt G (evE G call a ds)).bind fun x => if x.1 then okR (.bl true) x.2 else (tt G (evE G call b x.2)).bind fun y => okR (.bl y.1) y.2
  | .not a, ds => (tt G (evE G call a ds)).bind fun x => okR (.bl (!x.1)) x.2
  | .andV a b, ds => ((vv G (evE G call a ds)).bind asBool).bind fun x => if x.1 then evE G call b x.2 else okR (.bl false) x.2
  | .orV a b, ds => ((vv G (evE G call a ds)).bind asBool).bind fun x => if x.1 then okR (.bl true) x.2 else evE G call b x.2
  | .notV a, ds => ((vv G (evE G call a ds)).bind asBool).bind fun x => okR (.bl (!x.1)) x.2
  | .ife c a b, ds => (tt G (evE G call c ds)).bind fun x => if x.1 then evE G call a x.2 else evE G call b x.2
  | .lst es, ds => (evA G call es ds).bind fun x => opt (okN (decide (x.1.length ≤ sizeLine)) x.1) x.2
  | .tup es, ds => (evA G call es ds).bind fun x => opt (okV (decide (x.1.length ≤ sizeLine)) (.tup x.1)) x.2
  | .call f es, ds => (evA G call es ds).bind fun x => goCall call f x.1 x.2
  | .callB f i es, ds => (ownA i ds).bind fun _ => (evA G call es ds).bind fun x => goCallB call f i x.1 x.2
  | .callT f e es, ds => ((evE G call e ds).bind asNewO).bind fun x => (evA G call es x.2).bind fun l => goCallT call f x.1 l.1 l.2
  | .make c es, ds => (evA G call es ds).bind fun x => match G.init c with
    | some f => goMake call f c x.1 x.2
    | none => .no
  | .bl b e, ds => (evE G call e ds).bind fun r => (pp G r.1 r.2).bind fun x => opt (blD b x.1) x.2
  | .bl2 b e e2, ds => (vv G (evE G call e ds)).bind fun x => (vv G (evE G call e2 x.2)).bind fun y => opt (bl2D b x.1 y.1) y.2
  | .mth m o es, ds => (vv G (evE G call o ds)).bind fun x => if mthOk m x.1 then (evA G call es x.2).bind fun l => opt (mthD m x.1 l.1) l.2 else .no
  | .isi e cs, ds => (evE G call e ds).bind fun r => (pp G r.1 r.2).bind fun x => opt ((isD G.nc x.1 cs).map fun b => .val (.bl b)) x.2
  | .ix a b, ds => (evE G call a ds).bind fun r => (vv G (evE G call b r.2)).bind fun y => (pp G r.1 y.2).bind fun x => opt ((ixD x.1 y.1).map .val) x.2
  | .sl a lo hi, ds => (evE G call a ds).bind fun r => (partR lo (vv G (evE G call lo r.2)) r.2).bind fun i => (partR hi (vv G (evE G call hi i.2)) i.2).bind fun j => (pp G r.1 j.2).bind fun x => opt (slD x.1 i.1 j.1) x.2
  | .rng a, ds => ((vv G (evE G call a ds)).bind asInt).bind fun x => if inR x.1 then okR (.lst (rngs 0 x.1.toNat)) x.2 else .no
  | .rng2 a b, ds => ((vv G (evE G call a ds)).bind asInt).bind fun x => ((vv G (evE G call b x.2)).bind asInt).bind fun y => if inR x.1 && inR y.1 then okR (.lst (rngs x.1 (y.1 - x.1).toNat)) y.2 else .no
  | .zip a b, ds => (vv G (evE G call a ds)).bind fun x => (vv G (evE G call b x.2)).bind fun y => match zipD x.1 y.1 with
    | some l => okR (.lst l) y.2
    | none => .no
  | .comp tg it elt, ds => ((vv G (evE G call it ds)).bind asItems).bind fun l => compR tg l.1 (fun ds => (vv G (evE G call elt ds)).bind fun y => .ok (some y.1, y.2)) l.2
  | .compI tg it c elt, ds => ((vv G (evE G call it ds)).bind asItems).bind fun l => compR tg l.1 (fun ds => (tt G (evE G call c ds)).bind fun b => if b.1 then (vv G (evE G call elt b.2)).bind fun y => .ok (some y.1, y.2) else .ok (none, b.2)) l.2
  | .lamc f e, ds => lamE (G.lamF call f (thk (vv G (evE G call e (ds.map seen))))) ds
  | .fval r e, ds => (vv G (evE G call e ds)).bind fun x => opt (fvD r x.1) x.2
  | .fstr es, ds => evJ G call es [] ds
  | .comp2 tg tg2 it it2 elt, ds => ((vv G (evE G call it ds)).bind asItems).bind fun l => compR2 tg tg2 l.1 (fun ds => (vv G (evE G call it2 ds)).bind asItems) (fun ds => (vv G (evE G call elt ds)).bind fun y => .ok (some y.1, y.2)) l.2
  | _, _ => .no
/-- the parts of an f-string, one behind the other -/
def evJ (G : Gm) (call : CallF) : CE → List Nat → List Cell → RE
  | .nil, acc, ds => okR (.str acc) ds
  | .cons e es, acc, ds => (vv G (evE G call e ds)).bind fun x => match x.1 with
    | .str y => if szB (acc.length + y.length) then evJ G call es (acc ++ y) x.2 else .no
    | _ => .no
  | _, _, _ => .no
def evA (G : Gm) (call : CallF) : CE → List Cell → Res (List Dt × List Cell)
  | .nil, ds => .ok ([], ds)
  | .cons e es, ds => (vv G (evE G call e ds)).bind fun x => (evA G call es x.2).bind fun l => .ok (x.1 :: l.1, l.2)
  | _, _ => .no
end
/-! ### what a block comes to -/
inductive SO where
  | nx
  | rt (r : RV)
  | bk
  | ct
abbrev RS := Res (SO × List Cell)
def thenS (r : RS) (k : List Cell → RS) : RS := r.bind fun x => match x.1 with
  | .nx => k x.2
  | _ => .ok x
def setR (ds : List Cell) (is : List Nat) (d : Dt) : RS := match setTgB ds is d with
  | some ds' => .ok (.nx, ds')
  | none => .no
/-- a value goes into a slot -/
def stR (fl : Nat → List Str) (i : Nat) (rv : RV) (ds : List Cell) : Res (List Cell) :=
  if i < ds.length then match rv with
    | .new o => .ok (ds.set i (.own false o))
    | r => (frzR fl r ds).bind fun x => .ok (x.2.set i (.im x.1))
  else .no
def forL (tg : List Nat) (f : List Cell → RS) : List Dt → List Cell → RS
  | [], ds => .ok (.nx, ds)
  | d :: l, ds => match setTgB ds tg d with
    | none => .no
    | some ds1 => (f ds1).bind fun x => match x.1 with
      | .nx => forL tg f l x.2
      | .ct => forL tg f l x.2
      | .bk => .ok (.nx, x.2)
      | .rt r => .ok (.rt r, x.2)
def whileL (c : List Cell → Res (Bool × List Cell)) (f : List Cell → RS) : Nat → List Cell → RS
  | 0, _ => .no
  | n + 1, ds => (c ds).bind fun b => if b.1 then (f b.2).bind fun x => match x.1 with
      | .nx => whileL c f n x.2
      | .ct => whileL c f n x.2
      | .bk => .ok (.nx, x.2)
      | .rt r => .ok (.rt r, x.2)
    else .ok (.nx, b.2)
def ownL (i : Nat) (ds : List Cell) : Res (Bool × List Dt) := match ds[i]? with
  | some (.own b (.lst l)) => .ok (b, l)
  | _ => .no
/-- i.extend(j) -/
def extR (i j : Nat) (ds : List Cell) : RS := if Nat.beq i j then .no else (ownL i ds).bind fun l => (ownL j ds).bind fun m => if szB (l.2.length + m.2.length) then .ok (.nx, ds.set i (.own l.1 (.lst (l.2 ++ m.2)))) else .no
/-- i.f = d, f new -/
def fldR (G : Gm) (i f : Nat) (d : Dt) (ds : List Cell) : Res (List Cell) := match ds[i]? with
  | some (.own b (.ins c ns l)) => if c < G.nc ∧ G.nm f ∈ G.fl c ∧ G.nm f ∉ ns ∧ l.length < 1000 then .ok (ds.set i (.own b (.ins c (ns ++ [G.nm f]) (l ++ [d])))) else .no
  | _ => .no
/-- a clause's end: no error -/
def noEr (r : RS) : RS := match r with
  | .er _ _ => .no
  | r => r
def raiseD (G : Gm) (call : CallF) (n : Nat) (dvs : List Dt) (ds : List Cell) : RS := match G.eini n with
  | none => (G.mkE n dvs).elim .no fun r => .er r ds
  | some (.fld ns) => if dvs.length = ns.length then .er ⟨n, some (ns.reverse, dvs.reverse)⟩ ds else .no
  | some (.cop f m) => match dvs with
    | [d] => match vv G (goCall call f [d] ds) with
      | .ok x => .er ⟨n, some ([m], [x.1])⟩ x.2
      | _ => .no
    | _ => .no
/-- an error's attribute -/
def lookN (n : Nat) : List Nat → List Dt → Option Dt
  | m :: ns, d :: l => if Nat.beq n m then some d else lookN n ns l
  | _, _ => none
def looksN (ns : List Nat) (l : List Dt) : List Nat → Option (List Dt)
  | [] => some []
  | f :: fs => match lookN f ns l, looksN ns l fs with
    | some d, some r => some (d :: r)
    | _, _ => none
/-- what pre + repr(..) gives -/
def hdRv (e : Er) (pre : List Nat) (fs : List Nat) (tup : Bool) : Option (List Nat) := match e.fs with
  | some (ns, l) => match looksN ns l fs with
    | some r => match tup, r with
      | false, [d] => if shwB d && szB (pre.length + (shD d).length) then some (pre ++ shD d) else none
      | true, r => if shwB (.tup r) && szB (pre.length + (shD (.tup r)).length) then some (pre ++ shD (.tup r)) else none
      | _, _ => none
    | none => none
  | none => none
/-- an error, or what it comes to -/
def catchS (r : RS) (h : Er → List Cell → RS) : RS := match r with
  | .er e ds => h e ds
  | r => r
mutual
def evS (G : Gm) (call : CallF) (W : Nat) : CS → List Cell → RS
  | .nil, ds => .ok (.nx, ds)
  | .pass rest, ds => evS G call W rest ds
  | .set i e rest, ds => (evE G call e ds).bind fun r => (stR G.fl i r.1 r.2).bind fun ds' => evS G call W rest ds'
  | .setT is e rest, ds => (vv G (evE G call e ds)).bind fun x => thenS (setR x.2 is x.1) fun ds' => evS G call W rest ds'
  | .setIx i k e rest, ds => (vv G (evE G call e ds)).bind fun x => (ownL i x.2).bind fun _ => ((vv G (evE G call k x.2)).bind asInt).bind fun y => (ownL i y.2).bind fun l => match ixN l.2.length y.1 with
    | some n => evS G call W rest (y.2.set i (.own l.1 (.lst (l.2.set n x.1))))
    | none => .no
  | .setFld i f e rest, ds => (vv G (evE G call e ds)).bind fun x => (fldR G i f x.1 x.2).bind fun ds' => evS G call W rest ds'
  | .app i e rest, ds => (ownL i ds).bind fun _ => (vv G (evE G call e ds)).bind fun x => (ownL i x.2).bind fun l => if l.2.length < sizeLine then evS G call W rest (x.2.set i (.own l.1 (.lst (l.2 ++ [x.1])))) else .no
  | .ext i (.var j) rest, ds => thenS (extR i j ds) fun ds' => evS G call W rest ds'
  | .expr e rest, ds => (evE G call e ds).bind fun r => evS G call W rest r.2
  | .ret e, ds => (evE G call e ds).bind fun r => .ok (.rt r.1, r.2)
  | .ifs c a b rest, ds => (tt G (evE G call c ds)).bind fun x => thenS (if x.1 then evS G call W a x.2 else evS G call W b x.2) fun ds' => evS G call W rest ds'
  | .fors tg it body rest, ds => ((vv G (evE G call it ds)).bind asItems).bind fun l => thenS (forL tg (fun ds => evS G call W body ds) l.1 l.2) fun ds' => evS G call W rest ds'
  | .whil c body rest, ds => thenS (whileL (fun ds => tt G (evE G call c ds)) (fun ds => evS G call W body ds) W ds) fun ds' => evS G call W rest ds'
  | .brk, ds => .ok (.bk, ds)
  | .cont, ds => .ok (.ct, ds)
  | .raise x es, ds => (evA G call es ds).bind fun l => raiseD G call x l.1 l.2
  | .try body hds rest, ds => thenS (catchS (evS G call W body ds) fun e ds' => evH G call W e hds ds') fun ds' => evS G call W rest ds'
  | _, _ => .no
/-- the clauses of a try -/
def evH (G : Gm) (call : CallF) (W : Nat) (e : Er) : CS → List Cell → RS
  | .nil, ds => .er e ds
  | .hd x none body rest, ds => match G.sub e.c x with
    | some true => noEr (evS G call W body ds)
    | some false => evH G call W e rest ds
    | none => .no
  | .hdR x i pre fs tup rest, ds => match G.sub e.c x with
    | some true => if e.c = x ∧ i < ds.length then match hdRv e pre fs tup with
        | some t => .ok (.rt (.val (.str t)), ds.set i .free)
        | none => .no
      else .no
    | some false => evH G call W e rest ds
    | none => .no
  | _, _ => .no
end
/-! ### calls -/
def cells0 (c : Code) (bo : Option OD) (dvs : List Dt) : List Cell := bo.toList.map (Cell.own true) ++ dvs.map Cell.im ++ List.replicate (c.ns - c.np) Cell.free
/-- what was handed over, as it is now -/
def backO (c : Code) (ds : List Cell) : Option (Option OD) := if c.bor then match (ds[0]? : Option Cell) with
    | some (.own true o) => some (some o)
    | _ => none
  else some none
/-- what a def hands back -/
def retR (rv : RV) (ds : List Cell) : Option RV := match rv with
  | .ali i => match ds[i]? with
    | some (.own false o) => some (.new o)
    | _ => none
  | r => some r
def runC (G : Gm) (call : CallF) (W : Nat) (c : Code) (bo : Option OD) (dvs : List Dt) : CRes :=
  if bo.isSome = c.bor ∧ bo.toList.length + dvs.length = c.np ∧ c.np ≤ c.ns then
    match evS G call W c.body (cells0 c bo dvs) with
    | .ok (.nx, ds) => match backO c ds with
      | some o => .ok (.val .non) o
      | none => .no
    | .ok (.rt rv, ds) => match retR rv ds, backO c ds with
      | some r, some o => .ok r o
      | _, _ => .no
    | .er r ds => match backO c ds with
      | some o => .er r o
      | none => .no
    | _ => .no
  else .no
/-- a def that calls what it got -/
def lamS (G : Gm) (call : CallF) (W : Nat) (c : LCode) (t : Res Dt) : RS :=
  thenS (catchS (match t with
    | .ok d => if c.ret then .ok (.rt (.val d), List.replicate c.ns .free) else .ok (.nx, List.replicate c.ns .free)
    | .er r _ => .er r (List.replicate c.ns .free)
    | .no => .no) fun e ds => evH G call W e c.hds ds) fun ds => evS G call W c.rest ds
def lamK (G : Gm) (W : Nat) (call : CallF) (f : Nat) (t : Res Dt) : CRes := match G.lcode f with
  | none => .no
  | some c => match lamS G call W c t with
    | .ok (.nx, _) => .ok (.val .non) none
    | .ok (.rt rv, ds) => match retR rv ds with
      | some r => .ok r none
      | none => .no
    | _ => .no
/-- the program, its lambdas in -/
def Gm.lam (G : Gm) (W : Nat) : Gm := { G with lamF := lamK G W }
def callK (G : Gm) (W : Nat) : Nat → CallF
  | 0, _, _, _ => .no
  | k + 1, f, bo, dvs => match G.code f with
    | some c => runC G (callK G W k) W c bo dvs
    | none => .no
end Ev
/-! E5: what it means that an expression comes to something. -/
namespace Ev
open PySem PySem.Spec PyProof.Rows L2 Sg
/-! ### weakest preconditions as readings -/
def WE (X : Cx) (e : Expr) : TE := fun σ H Q => ∀ (pins : List (Addr × Obj)) (s : Shared),
  Inv X pins σ H s → wpAny (model X.prog X.w) X.A (eval e X.env) (EP X pins σ Q) X.xe s
def WT (X : Cx) (e : Expr) : TT := fun σ H Q => ∀ (pins : List (Addr × Obj)) (s : Shared),
  Inv X pins σ H s → wpAny (model X.prog X.w) X.A (isTrue e X.env (eval e X.env)) (TP X pins σ Q) X.xe s
def WA (X : Cx) (es : List Expr) : TA := fun σ H Q => ∀ (pos : Pos) (pins : List (Addr × Obj)) (s : Shared),
  Inv X pins σ H s → wpAny (model X.prog X.w) X.A (spliced (backTo pos (starEach es X.env))) (AP X pins σ Q) X.xe s
def WB (X : Cx) (st : List Stmt) : TS := fun D σ H => ∀ (pins : List (Addr × Obj)) (s : Shared),
  Inv X pins σ H s → wpAny (model X.prog X.w) X.A (execs st X.env) (SP X pins D) X.xe s
def WS (X : Cx) (st : Stmt) : TS := fun D σ H => ∀ (pins : List (Addr × Obj)) (s : Shared),
  Inv X pins σ H s → wpAny (model X.prog X.w) X.A (exec st X.env) (SP X pins D) X.xe s
section
variable {X : Cx} {e : Expr} {es : List Expr} {st : List Stmt} {s1 : Stmt} {σ : L2.St} {H : Hp}
theorem pe_we : PE X e (WE X e) := ⟨fun pins s σ H Q I h => h pins s I⟩
theorem pt_wt : PT X e (WT X e) := ⟨fun pins s σ H Q I h => h pins s I⟩
theorem pa_wa : PA X es (WA X es) := ⟨fun pos pins s σ H Q I h => h pos pins s I⟩
theorem pb_wb : PSs X st (WB X st) := ⟨fun pins s σ H D I h => h pins s I⟩
theorem ps_ws : PS X s1 (WS X s1) := ⟨fun pins s σ H D I h => h pins s I⟩
theorem we {t : TE} {Q : VK} (p : PE X e t) (h : t σ H Q) : WE X e σ H Q := fun pins s I => p.run pins s σ H Q I h
theorem wt {t : TT} {Q : Bool → Hp → Prop} (p : PT X e t) (h : t σ H Q) : WT X e σ H Q := fun pins s I => p.run pins s σ H Q I h
theorem wa {t : TA} {Q : List V → Hp → Prop} (p : PA X es t) (h : t σ H Q) : WA X es σ H Q := fun pos pins s I => p.run pos pins s σ H Q I h
theorem wb {t : TS} {D : Ends} (p : PSs X st t) (h : t D σ H) : WB X st D σ H := fun pins s I => p.run pins s σ H D I h
theorem ws {t : TS} {D : Ends} (p : PS X s1 t) (h : t D σ H) : WS X s1 D σ H := fun pins s I => p.run pins s σ H D I h
end
/-- the context takes the error -/
def Tk (X : Cx) (L : Kl) (F : Fm) (σ : L2.St) (ts : List V) (tcs : List Cell) (r : Er) (ds : List Cell) : Prop := ∃ W : WX, Takes X W ∧ ∀ cls d H, SD X.K L F H σ ds ts tcs → ErIs X.K L (hide H F.S) cls d r → W cls d σ H
theorem Tk.up {X : Cx} {L : Kl} {F : Fm} {σ : L2.St} {ts : List V} {tcs : List Cell} {r : Er} {ds : List Cell} {v : V} {c : Cell} (h : Tk X L F σ ts tcs r ds) : Tk X L F σ (v :: ts) (c :: tcs) r ds :=
  let ⟨W, tk, f⟩ := h
  ⟨W, tk, fun cls d H s e => f cls d H s.pop e⟩
theorem Tk.upN {X : Cx} {L : Kl} {F : Fm} {σ : L2.St} {ts vs : List V} {tcs cs : List Cell} {r : Er} {ds : List Cell} (hl : vs.length = cs.length) (h : Tk X L F σ ts tcs r ds) : Tk X L F σ (vs ++ ts) (cs ++ tcs) r ds :=
  let ⟨W, tk, f⟩ := h
  ⟨W, tk, fun cls d H s e => f cls d H (s.popN hl) e⟩
/-- a result with some data above it -/
def Has (K : PySem.W.Frag) (L : Kl) (F : Fm) (H : Hp) (σ : L2.St) (ds : List Cell) (vs : List V) (dvs : List Dt) (v : V) (ts : List V) (tcs : List Cell) : RV → Prop
  | .val d => SD K L F H σ ds (vs ++ v :: ts) (dvs.map Cell.im ++ .im d :: tcs)
  | .new o => SD K L F H σ ds (vs ++ v :: ts) (dvs.map Cell.im ++ .own false o :: tcs)
  | .ali i => σ[i]? = some (some v) ∧ SD K L F H σ ds (vs ++ ts) (dvs.map Cell.im ++ tcs)
def After (X : Cx) (L : Kl) (F : Fm) (σ : L2.St) (ts : List V) (tcs : List Cell) (Q : VK) : RE → Prop
  | .ok (rv, ds) => ∀ v H, Has X.K L F H σ ds [] [] v ts tcs rv → Q v H
  | .er r ds => Tk X L F σ ts tcs r ds
  | .no => False
def AfterV (X : Cx) (L : Kl) (F : Fm) (σ : L2.St) (ts : List V) (tcs : List Cell) (Q : VK) : Res (Dt × List Cell) → Prop
  | .ok (d, ds) => ∀ v H, SD X.K L F H σ ds (v :: ts) (.im d :: tcs) → Q v H
  | .er r ds => Tk X L F σ ts tcs r ds
  | .no => False
/-- .. with nothing of it kept -/
def After0 {α : Type} (X : Cx) (L : Kl) (F : Fm) (σ : L2.St) (ts : List V) (tcs : List Cell) (Q : α → Hp → Prop) : Res (α × List Cell) → Prop
  | .ok (b, ds) => ∀ H, SD X.K L F H σ ds ts tcs → Q b H
  | .er r ds => Tk X L F σ ts tcs r ds
  | .no => False
def AfterA (X : Cx) (L : Kl) (F : Fm) (σ : L2.St) (ts : List V) (tcs : List Cell) (Q : List V → Hp → Prop) : Res (List Dt × List Cell) → Prop
  | .ok (l, ds) => ∀ vs H, vs.length = l.length → SD X.K L F H σ ds (vs ++ ts) (l.map Cell.im ++ tcs) → Q vs H
  | .er r ds => Tk X L F σ ts tcs r ds
  | .no => False
def SndE (X : Cx) (L : Kl) (F : Fm) (e : Expr) (ds : List Cell) (r : RE) : Prop := ∀ σ H ts tcs Q, SD X.K L F H σ ds ts tcs → After X L F σ ts tcs Q r → WE X e σ H Q
def SndT (X : Cx) (L : Kl) (F : Fm) (e : Expr) (ds : List Cell) (r : Res (Bool × List Cell)) : Prop := ∀ σ H ts tcs Q, SD X.K L F H σ ds ts tcs → After0 X L F σ ts tcs Q r → WT X e σ H Q
def SndA (X : Cx) (L : Kl) (F : Fm) (es : List Expr) (ds : List Cell) (r : Res (List Dt × List Cell)) : Prop := ∀ σ H ts tcs Q, SD X.K L F H σ ds ts tcs → AfterA X L F σ ts tcs Q r → WA X es σ H Q
section
variable {X : Cx} {L : Kl} {F : Fm} {ds : List Cell} {e : Expr} {es : List Expr} {r : RE} {σ : L2.St} {H : Hp} {ts : List V} {tcs : List Cell} {Q : VK}
theorem res_bind_ok {α β : Type} {a : α} {f : α → Res β} : (Res.ok a).bind f = f a := rfl
theorem res_bind_er {α β : Type} {r : Er} {ds : List Cell} {f : α → Res β} : (Res.er r ds).bind f = .er r ds := rfl
theorem res_bind_no {α β : Type} {f : α → Res β} : (Res.no).bind f = .no := rfl
/-- a value wanted -/
theorem After.vv {G : Gm} (hL : L.fl = G.fl) (h : AfterV X L F σ ts tcs Q (vv G r)) : After X L F σ ts tcs Q r := by
  cases r with
  | no => exact h
  | er r ds => exact h
  | ok a =>
    obtain ⟨rv, ds⟩ := a
    intro v H s
    cases rv with
    | val d => exact h v H s
    | new o =>
      have h' : AfterV X L F σ ts tcs Q (match o.frz G.fl with | some d => .ok (d, ds) | none => .no) := h
      cases e : o.frz G.fl with
      | none => rw [e] at h'; exact h'.elim
      | some d =>
        rw [e] at h'
        rw [← hL] at e
        exact h' v H (SD.frzTop s e)
    | ali i =>
      obtain ⟨hv, s⟩ := s
      have h' : AfterV X L F σ ts tcs Q (match ds[i]? with | some (.own false o) => (match o.frz G.fl with | some d => .ok (d, ds.set i (.im d)) | none => .no) | _ => .no) := h
      cases ei : ds[i]? with
      | none => rw [ei] at h'; exact h'.elim
      | some c =>
        rw [ei] at h'
        cases c with
        | free => exact h'.elim
        | im d => exact h'.elim
        | own b o =>
          cases b with
          | true => exact h'.elim
          | false =>
            cases e : o.frz G.fl with
            | none => simp only [e] at h'; exact h'.elim
            | some d =>
              simp only [e] at h'
              rw [← hL] at e
              have s2 := SD.frzAt s ei e
              have hi : i < ds.length := (List.getElem?_eq_some_iff.mp ei).1
              obtain ⟨v', hv', s3⟩ := s2.var (i := i) (List.getElem?_set_self hi)
              have : v' = v := by rw [hv] at hv'; simpa using hv'.symm
              subst this
              exact h' v' H s3
theorem SndE.v {G : Gm} (hL : L.fl = G.fl) (h : SndE X L F e ds r) (s : SD X.K L F H σ ds ts tcs) (q : AfterV X L F σ ts tcs Q (vv G r)) : WE X e σ H Q := h σ H ts tcs Q s (.vv hL q)
/-- what a result is, looked at -/
theorem Has.im {K : PySem.W.Frag} {vs : List V} {dvs : List Dt} {v : V} {rv : RV} {d : Dt} (hl : vs.length = dvs.length) (h : Has K L F H σ ds vs dvs v ts tcs rv) (e : pkR L.fl rv ds = some d) : Im K L H v d ∧ SD K L F H σ ds (vs ++ ts) (dvs.map Cell.im ++ tcs) := by
  cases rv with
  | val d' =>
    obtain rfl : d' = d := by simpa [pkR] using e
    have h' : SD K L F H σ ds ((vs ++ [v]) ++ ts) ((dvs ++ [d']).map Cell.im ++ tcs) := by
      simpa [Has] using h
    have hl' : (vs ++ [v]).length = (dvs ++ [d']).length := by simp [hl]
    have t := h'.tops hl'
    obtain ⟨-, t2⟩ := Ims.split hl t
    cases t2 with
    | cons a _ => exact ⟨a, h'.swap hl' fun Hh _ r => (Ims.split hl r).1⟩
  | new o =>
    obtain ⟨p, h1, rfl, hp, hx, f1, f2⟩ := SD.ownT (vs := vs) (dvs := dvs) hl h
    refine ⟨hx.im hp e, ?_⟩
    -- the fresh object is let go
    obtain ⟨os, n, hd, tl, x, y⟩ := SD.cut (vs := vs) (ts := .ref p :: ts) (tcs := .own false o :: tcs) hl h
    have s0 : SD K L F H σ ds ([] ++ (V.ref p :: ts)) ([].map Cell.im ++ (.own false o :: tcs)) := f1 [] [] fun _ _ _ _ => .nil
    cases y with
    | own a w t r =>
      obtain ⟨n1, n2⟩ := List.nodup_cons.mp n
      have sub : ∀ A : List Addr, ∀ q ∈ A ++ F.S, q ∈ p :: A ++ F.S := fun A q hq => List.mem_cons_of_mem _ hq
      exact SD.glue s0.ok s0.ext s0.tin n2 (fun q hq => hd q (List.mem_cons_of_mem _ hq)) (by simpa using tl) (x.ext (hide_sub (sub _))) (r.sub (sub _))
  | ali i =>
    obtain ⟨hv, s⟩ := h
    have e' : (match ds[i]? with | some (.own _ o) => o.frz L.fl | _ => none) = some d := e
    cases ei : ds[i]? with
    | none => rw [ei] at e'; cases e'
    | some c =>
      rw [ei] at e'
      cases c with
      | free => cases e'
      | im d => cases e'
      | own b o =>
        obtain ⟨p, h1, a1, a2, a3, a4, a5, a6⟩ := s.ownS hl ei
        have : v = .ref p := by rw [hv] at a1; simpa using a1
        subst this
        exact ⟨a3.im a2 e', s⟩
theorem After.pp {G : Gm} (hL : L.fl = G.fl) (h : After0 X L F σ ts tcs (fun d H => ∀ v, Im X.K L H v d → Q v H) (r.bind fun x => pp G x.1 x.2)) : After X L F σ ts tcs Q r := by
  cases r with
  | no => exact h
  | er r ds => exact h
  | ok a =>
    obtain ⟨rv, ds⟩ := a
    intro v H s
    have h' : After0 X L F σ ts tcs (fun d H => ∀ v, Im X.K L H v d → Q v H) (opt (pkR G.fl rv ds) ds) := h
    cases e : pkR G.fl rv ds with
    | none => rw [e] at h'; exact h'.elim
    | some d =>
      rw [e] at h'
      rw [← hL] at e
      obtain ⟨x, y⟩ := Has.im (vs := []) (dvs := []) rfl s e
      exact h' H y v x
/-- a list or a tuple, its items -/
theorem SD.spreadL {K : PySem.W.Frag} {vs : List V} {dvs l : List Dt} {v : V} (hl : vs.length = dvs.length) (s : SD K L F H σ ds (vs ++ v :: ts) (dvs.map Cell.im ++ .im (Dt.lst l) :: tcs)) :
    ∃ a xs, v = .ref a ∧ SqL K H a xs ∧ xs.length = l.length ∧ SD K L F H σ ds (vs ++ (xs ++ ts)) (dvs.map Cell.im ++ (l.map Cell.im ++ tcs)) := by
  have h' : SD K L F H σ ds ((vs ++ [v]) ++ ts) ((dvs ++ [Dt.lst l]).map Cell.im ++ tcs) := by simpa using s
  obtain ⟨os, n, hd, tl, x, y⟩ := h'.cut (by simp [hl])
  obtain ⟨x1, x2⟩ := Ims.split hl x
  cases x2 with
  | cons a _ =>
    cases a with
    | lst q r =>
      rename_i a xs
      have := SD.glue h'.ok h'.ext h'.tin n hd tl (x1.append r) y
      refine ⟨a, xs, rfl, ex_l hide_ex q, r.length, by simpa using this⟩
theorem SD.spreadT {K : PySem.W.Frag} {vs : List V} {dvs l : List Dt} {v : V} (hl : vs.length = dvs.length) (s : SD K L F H σ ds (vs ++ v :: ts) (dvs.map Cell.im ++ .im (Dt.tup l) :: tcs)) :
    ∃ a xs, v = .ref a ∧ SqT K H a xs ∧ xs.length = l.length ∧ SD K L F H σ ds (vs ++ (xs ++ ts)) (dvs.map Cell.im ++ (l.map Cell.im ++ tcs)) := by
  have h' : SD K L F H σ ds ((vs ++ [v]) ++ ts) ((dvs ++ [Dt.tup l]).map Cell.im ++ tcs) := by simpa using s
  obtain ⟨os, n, hd, tl, x, y⟩ := h'.cut (by simp [hl])
  obtain ⟨x1, x2⟩ := Ims.split hl x
  cases x2 with
  | cons a _ =>
    cases a with
    | tup q r =>
      rename_i a xs
      have := SD.glue h'.ok h'.ext h'.tin n hd tl (x1.append r) y
      refine ⟨a, xs, rfl, ex_t hide_ex q, r.length, by simpa using this⟩
theorem Has.items {K : PySem.W.Frag} {vs : List V} {dvs l : List Dt} {v : V} {rv : RV} (hl : vs.length = dvs.length) (h : Has K L F H σ ds vs dvs v ts tcs rv) (e : pkR L.fl rv ds = some (.lst l)) :
    ∃ a xs, v = .ref a ∧ SqL K H a xs ∧ xs.length = l.length ∧ SD K L F H σ ds (vs ++ (xs ++ ts)) (dvs.map Cell.im ++ (l.map Cell.im ++ tcs)) := by
  have fz : ∀ o : OD, o.frz L.fl = some (.lst l) → o = .lst l := by
    intro o ho
    cases o with
    | lst l' => simpa [OD.frz] using ho
    | ins c ns l' => simp only [OD.frz] at ho; split at ho <;> cases ho
    | dct ks l' => cases ho
  have fin : ∀ {p : Addr} {xs : List V}, H p = some (.lst xs) → (∀ ws dws, (∀ Hh, Ex Hh H → OAt K L Hh (.lst xs) (.lst l) → Ims K L Hh vs dvs → Ims K L Hh ws dws) → SD K L F H σ ds (ws ++ ts) (dws.map Cell.im ++ tcs)) →
      xs.length = l.length → ∃ a xs, V.ref p = .ref a ∧ SqL K H a xs ∧ xs.length = l.length ∧ SD K L F H σ ds (vs ++ (xs ++ ts)) (dvs.map Cell.im ++ (l.map Cell.im ++ tcs)) := by
    intro p xs hp f hx
    refine ⟨p, xs, rfl, SqL.of hp, hx, ?_⟩
    have := f (vs ++ xs) (dvs ++ l) fun Hh _ o r => by
      cases o with
      | lst q => exact r.append q
    simpa using this
  cases rv with
  | val d' =>
    obtain rfl : d' = .lst l := by simpa [pkR] using e
    exact SD.spreadL hl h
  | new o =>
    obtain rfl := fz o e
    obtain ⟨p, h1, rfl, hp, hx, f1, f2⟩ := SD.ownT (vs := vs) (dvs := dvs) hl h
    cases hx with
    | lst q =>
      rename_i xs
      refine fin hp (fun ws dws f => ?_) q.length
      have s1 := f1 (ws) dws f
      -- the fresh list is let go
      have := Has.im (rv := .new (.lst l)) (d := .lst l) (vs := ws) (dvs := dws) (v := .ref p) (ts := ts) (tcs := tcs) (K := K) (L := L) (F := F) (H := H) (σ := σ) (ds := ds) ?_ s1 rfl
      · exact this.2
      · obtain ⟨os, n, hd, tl, x, y⟩ := SD.cut (vs := vs) (ts := .ref p :: ts) (tcs := .own false (.lst l) :: tcs) hl h
        cases y with
        | own a w t r =>
          rw [hp] at a
          cases a
          exact (f _ hide_ex w x).length
  | ali i =>
    obtain ⟨hv, s⟩ := h
    have e' : (match ds[i]? with | some (.own _ o) => o.frz L.fl | _ => none) = some (.lst l) := e
    cases ei : ds[i]? with
    | none => rw [ei] at e'; cases e'
    | some c =>
      rw [ei] at e'
      cases c with
      | free => cases e'
      | im d => cases e'
      | own b o =>
        obtain rfl := fz o e'
        obtain ⟨p, h1, a1, a2, a3, a4, a5, a6⟩ := s.ownS hl ei
        have : v = .ref p := by rw [hv] at a1; simpa using a1
        subst this
        cases a3 with
        | lst q => exact fin a2 a5 q.length
theorem Has.itemsT {K : PySem.W.Frag} {vs : List V} {dvs l : List Dt} {v : V} {rv : RV} (hl : vs.length = dvs.length) (h : Has K L F H σ ds vs dvs v ts tcs rv) (e : pkR L.fl rv ds = some (.tup l)) :
    ∃ a xs, v = .ref a ∧ SqT K H a xs ∧ xs.length = l.length ∧ SD K L F H σ ds (vs ++ (xs ++ ts)) (dvs.map Cell.im ++ (l.map Cell.im ++ tcs)) := by
  have fz : ∀ o : OD, o.frz L.fl ≠ some (.tup l) := by
    intro o ho
    cases o with
    | lst l' => cases ho
    | ins c ns l' => simp only [OD.frz] at ho; split at ho <;> cases ho
    | dct ks l' => cases ho
  cases rv with
  | val d' =>
    obtain rfl : d' = .tup l := by simpa [pkR] using e
    exact SD.spreadT hl h
  | new o => exact absurd e (fz o)
  | ali i =>
    have e' : (match ds[i]? with | some (.own _ o) => o.frz L.fl | _ => none) = some (.tup l) := e
    cases ei : ds[i]? with
    | none => rw [ei] at e'; cases e'
    | some c =>
      rw [ei] at e'
      cases c with
      | free => cases e'
      | im d => cases e'
      | own b o => exact absurd e' (fz o)
end
end Ev
/-! E6: constants, names, operators. -/
namespace Ev
open PySem PySem.Spec PyProof.Rows L2 Sg
section
variable {X : Cx} {L : Kl} {F : Fm} {ds : List Cell} {e : Expr} {σ : L2.St} {H : Hp} {ts : List V} {tcs : List Cell} {Q : VK}
/-- what follows a datum -/
theorem AfterV.of {β : Type} {x : Res (Dt × List Cell)} {f : Dt × List Cell → Res β} {Z : Res β → Prop} (q : Z (x.bind f)) (hno : Z .no → False) (her : ∀ r ds, Z (.er r ds) → Tk X L F σ ts tcs r ds)
    (k : ∀ d ds', Z (f (d, ds')) → ∀ v H, SD X.K L F H σ ds' (v :: ts) (.im d :: tcs) → Q v H) : AfterV X L F σ ts tcs Q x := by
  cases x with
  | no => exact hno q
  | er r ds => exact her r ds q
  | ok a => exact fun v H s => k a.1 a.2 q v H s
theorem After0.of {α β : Type} {x : Res (α × List Cell)} {f : α × List Cell → Res β} {Z : Res β → Prop} {Q : α → Hp → Prop} (q : Z (x.bind f)) (hno : Z .no → False) (her : ∀ r ds, Z (.er r ds) → Tk X L F σ ts tcs r ds)
    (k : ∀ d ds', Z (f (d, ds')) → ∀ H, SD X.K L F H σ ds' ts tcs → Q d H) : After0 X L F σ ts tcs Q x := by
  cases x with
  | no => exact hno q
  | er r ds => exact her r ds q
  | ok a => exact fun H s => k a.1 a.2 q H s
theorem AfterA.of {β : Type} {x : Res (List Dt × List Cell)} {f : List Dt × List Cell → Res β} {Z : Res β → Prop} {Q : List V → Hp → Prop} (q : Z (x.bind f)) (hno : Z .no → False) (her : ∀ r ds, Z (.er r ds) → Tk X L F σ ts tcs r ds)
    (k : ∀ l ds', Z (f (l, ds')) → ∀ vs H, vs.length = l.length → SD X.K L F H σ ds' (vs ++ ts) (l.map Cell.im ++ tcs) → Q vs H) : AfterA X L F σ ts tcs Q x := by
  cases x with
  | no => exact hno q
  | er r ds => exact her r ds q
  | ok a => exact fun vs H hl s => k a.1 a.2 q vs H hl s
theorem After.of {β : Type} {x : RE} {f : RV × List Cell → Res β} {Z : Res β → Prop} (q : Z (x.bind f)) (hno : Z .no → False) (her : ∀ r ds, Z (.er r ds) → Tk X L F σ ts tcs r ds)
    (k : ∀ rv ds', Z (f (rv, ds')) → ∀ v H, Has X.K L F H σ ds' [] [] v ts tcs rv → Q v H) : After X L F σ ts tcs Q x := by
  cases x with
  | no => exact hno q
  | er r ds => exact her r ds q
  | ok a => exact fun v H s => k a.1 a.2 q v H s
theorem bind_assoc {α β γ : Type} (x : Res α) (f : α → Res β) (g : β → Res γ) : (x.bind f).bind g = x.bind fun a => (f a).bind g := by
  cases x <;> rfl
/-- a datum that leans on nothing -/
theorem After.d {d : Dt} {v : V} (q : After X L F σ ts tcs Q (okR d ds)) (s : SD X.K L F H σ ds ts tcs) (a : ∀ Hh, Im X.K L Hh v d) : Q v H := q v H (s.push a)
/-! constants, names -/
theorem snd_int {i : Int} {j pos} : SndE X L F (.Constant (.int i) j pos) ds (okR (.int i) ds) := fun σ H ts tcs Q s q => we pe_int (q.d s fun _ => .int i)
theorem mkS_of (x : Str) : mkS x.cps.toList = x := by cases x; simp [mkS]
theorem mkS_app (x y : List Nat) : mkS x ++ mkS y = mkS (x ++ y) := by show Str.append _ _ = _; simp [Str.append, mkS]
theorem mkS_len (x : List Nat) : (mkS x).length = x.length := by simp [Str.length, mkS]
theorem mkS_inj {x y : List Nat} (h : mkS x = mkS y) : x = y := by have := congrArg (fun s : Str => s.cps.toList) h; simpa [mkS] using this
theorem szB_le {n : Nat} (h : szB n = true) : n ≤ sizeLine := Nat.le_of_ble_eq_true h
theorem inR_of {i : Int} (h : inR i = true) : -(2 ^ 62) ≤ i ∧ i < 2 ^ 62 := by
  cases i with
  | ofNat n =>
    have : n ≤ 4611686018427387903 := Nat.le_of_ble_eq_true h
    constructor <;> (have e : (Int.ofNat n) = (n : Int) := rfl) <;> omega
  | negSucc n =>
    have : n ≤ 4611686018427387903 := Nat.le_of_ble_eq_true h
    constructor <;> omega
/-- a text again and again -/
theorem op_mulS : OpR X (binaryOp .Mult) (fun x y H Q => ∃ (i : List Nat) (j : Int), x = .str (mkS i) ∧ y = .int j ∧ (-(2 ^ 62) ≤ j ∧ j < 2 ^ 62) ∧ i.length * j.toNat ≤ sizeLine ∧ Q (.str (mkS (List.replicate j.toNat i).flatten)) H) := by
  intro pins s σ H x y v u Q I rx ry h
  obtain ⟨i, j, rfl, rfl, hr, hz, q⟩ := h
  obtain ⟨t, rfl⟩ := rx
  obtain ⟨t', rfl⟩ := ry
  have e0 : (decide (j < -(2 ^ 63 : Int)) || decide (j ≥ 2 ^ 63)) = false := by rw [decide_eq_false (by omega), decide_eq_false (by omega)]; rfl
  have fl : ∀ (m : Nat) (acc : List Nat), (List.replicate m (mkS i).cps).foldl (· ++ ·) acc.toArray = (acc ++ (List.replicate m i).flatten).toArray := by
    intro m
    induction m with
    | zero => intro acc; simp
    | succ m ih => intro acc; rw [List.replicate_succ, List.foldl_cons, show acc.toArray ++ (mkS i).cps = (acc ++ i).toArray by simp [mkS], ih]; simp [List.replicate_succ]
  have hpos : ¬ j < 1 → (j.toNat : Int) = j := fun h => Int.toNat_of_nonneg (by omega)
  refine PySem.P.mul_str e0 (fun h1 h2 => ?_) (fun h1 h2 => ?_) ?_
  · intro z
    rw [mkS_len] at z
    have h3 : (9223372036854775807 : Int) < (i.length : Int) * j := by
      have := (Int.ediv_lt_iff_lt_mul (show (0 : Int) < j by omega)).mp (show (2 ^ 63 - 1) / j < (i.length : Int) from z)
      omega
    have h4 : ((i.length * j.toNat : Nat) : Int) = (i.length : Int) * j := by rw [Int.natCast_mul, hpos h1]
    have h5 : i.length * j.toNat ≤ 16777216 := by rw [← sizeLine_eq]; exact hz
    omega
  · rw [mkS_len]
    exact decide_eq_false (Nat.not_lt.mpr hz)
  · by_cases h1 : j < 1
    · rw [if_pos h1]
      have : j.toNat = 0 := by omega
      rw [this] at q
      exact ⟨by decide, ⟨.str (mkS []), H, I.tok _, ⟨_, rfl⟩, q⟩⟩
    · rw [if_neg h1]
      by_cases h2 : (j == 1 || (mkS i).length == 0) = true
      · rw [if_pos h2]
        have e : (List.replicate j.toNat i).flatten = i := by
          simp only [Bool.or_eq_true, beq_iff_eq, mkS_len] at h2
          rcases h2 with h2 | h2
          · rw [h2]; simp
          · rw [List.eq_nil_of_length_eq_zero h2]; simp
        rw [e] at q
        exact ⟨.str (mkS i), H, I.tok _, ⟨_, rfl⟩, q⟩
      · rw [if_neg h2]
        have e := fl j.toNat []
        rw [List.nil_append] at e
        have e' : (⟨(List.replicate j.toNat (mkS i).cps).foldl (· ++ ·) #[]⟩ : Str) = mkS (List.replicate j.toNat i).flatten := by
          show (⟨_⟩ : Str) = ⟨_⟩
          rw [← e]
        rw [e']
        refine ⟨?_, ⟨.str (mkS (List.replicate j.toNat i).flatten), H, I.tok _, ⟨_, rfl⟩, q⟩⟩
        rw [mkS_len, List.length_flatten]
        simp
        first | exact hz | (rw [Nat.mul_comm]; exact hz)
theorem snd_str {x : Str} {j pos} : SndE X L F (.Constant (.str x) j pos) ds (okR (.str x.cps.toList) ds) := fun σ H ts tcs Q s q => we pe_str (q.d s fun _ => by have := Im.str (K := X.K) (L := L) (H := ‹Hp›) x.cps.toList; rw [mkS_of] at this; exact this)
theorem snd_bl {b : Bool} {j pos} : SndE X L F (.Constant (.bool b) j pos) ds (okR (.bl b) ds) := fun σ H ts tcs Q s q => we pe_bl (q.d s fun _ => .bl b)
theorem snd_non {j pos} : SndE X L F (.Constant .none j pos) ds (okR .non ds) := fun σ H ts tcs Q s q => we pe_non (q.d s fun _ => .non)
/-- a thing of the program -/
theorem snd_glob {x : Str} {pos : Pos} {d : Dt} {v : V} {u : Value} (hg : Gl X x) (hm : X.mg x = some u) (r : RelV v u) (hd : (x == ("__debug__" : Str)) = false) (a : ∀ Hh, Im X.K L Hh v d) : SndE X L F (.Name x pos) ds (okR d ds) :=
  fun σ H ts tcs Q s q => we (pe_glob hg hm r hd) (q.d s a)
theorem snd_bltn {x : Str} {pos : Pos} {d : Dt} {v : V} {u : Value} (hg : Gl X x) (hm : X.mg x = none) (hv : bootBuiltins x = some u) (r : RelV v u) (hn : x ≠ "__name__") (hd : (x == ("__debug__" : Str)) = false) (a : ∀ Hh, Im X.K L Hh v d) : SndE X L F (.Name x pos) ds (okR d ds) :=
  fun σ H ts tcs Q s q => we (pe_bltn hg hm hv r hn hd) (q.d s a)
def varR (i : Nat) (ds : List Cell) : RE := match ds[i]? with
    | some (.im d) => okR d ds
    | some (.own _ _) => .ok (.ali i, ds)
    | _ => .no
theorem snd_var {x : Str} {pos : Pos} {i : Nat} (hN : X.N[i]? = some x) (hv : Vis X.env.scope x) (hd : (x == ("__debug__" : Str)) = false) (hcd : (x == ("__classdict__" : Str)) = false) : SndE X L F (.Name x pos) ds (varR i ds) := by
  intro σ H ts tcs Q s q
  unfold varR at q
  cases e : ds[i]? with
  | none => rw [e] at q; exact q.elim
  | some c =>
    rw [e] at q
    cases c with
    | free => exact q.elim
    | im d =>
      obtain ⟨v, hv', s2⟩ := s.var e
      exact we (pe_var hN hv hd hcd) ⟨v, hv', q v H s2⟩
    | own b o =>
      obtain ⟨p, h, a1, -⟩ := s.ownS (vs := []) (dvs := []) rfl e
      exact we (pe_var hN hv hd hcd) ⟨.ref p, a1, q (.ref p) H ⟨a1, s⟩⟩
/-! two operands -/
/-- an operation on two values, as a reading -/
def W2 (X : Cx) (f : Value → Value → Sem Value) (σ : L2.St) : R2 := fun x y H Q => ∀ (pins : List (Addr × Obj)) (s : Shared) (v u : Value), Inv X pins σ H s → RelV x v → RelV y u → wpAny (model X.prog X.w) X.A (f v u) (EP X pins σ Q) X.xe s
theorem w2 {f : Value → Value → Sem Value} {r : R2} {x y : V} (ho : OpR X f r) (h : r x y H Q) : W2 X f σ x y H Q := fun pins s v u I rx ry => ho pins s σ H x y v u Q I rx ry h
theorem we_bin {a b : Expr} {op : Operator} {pos : Pos} (h : WE X a σ H fun x H1 => WE X b σ H1 fun y H2 => W2 X (binaryOp op) σ x y H2 Q) : WE X (.BinOp a op b pos) σ H Q := by
  intro pins s I
  refine wpAny_BinOp ?_
  exact thn (h pins s I) fun v s1 ⟨x, H1, I1, r1, q1⟩ => thn (q1 pins s1 I1) fun u s2 ⟨y, H2, I2, r2, q2⟩ => q2 pins s2 v u I2 r1 r2
theorem op_catL : OpR X (binaryOp .Add) (fun x y H Q => ∃ l b xs zs, x = .ref l ∧ y = .ref b ∧ SqL X.K H l xs ∧ SqL X.K H b zs ∧ xs.length + zs.length ≤ sizeLine ∧ ∀ p, H p = none → Q (.ref p) (upd H p (.lst (xs ++ zs)))) := by
  intro pins s σ H x y v u Q I rx ry h
  obtain ⟨l, b, xs, zs, rfl, rfl, hl, hb, hz, q⟩ := h
  cases rx
  cases ry
  obtain ⟨its, r, ⟨⟨cls, dd, data, sl⟩, n, e, hc, h0, hd⟩, _⟩ := I.list hl
  obtain ⟨its2, r2, ⟨⟨cls2, dd2, data2, sl2⟩, n2, e2, hc2, h02, hd2⟩, _⟩ := I.list hb
  simp only at hc h0 hd hc2 h02 hd2
  subst hc h0 hd hc2 h02 hd2
  have ea : its.toArray ++ its2.toArray = (its ++ its2).toArray := by simp
  refine PySem.concat_meets ⟨_, e, rfl⟩ ⟨_, e2, rfl⟩ noFill_list_add seq_list_add PySem.F.slot_list_add PySem.F.entry_list_add (PySem.F.args_list_add_2 _ _) (list_addW l b its.toArray its2.toArray n n2 none none sl sl2 (by rw [List.size_toArray, List.size_toArray, ← r.length, ← r2.length]; exact hz)) ⟨e, e2, ?_⟩
  rw [ea]
  exact ⟨.ref _, _, I.lnew (t' := s.toks) (r.append r2) (by rw [List.length_append]; exact hz), rfl, q _ I.fresh⟩
/-! by data -/
theorem rev_two {K : PySem.W.Frag} {x y : V} {a b : Dt} (s : SD K L F H σ ds (y :: x :: ts) (.im b :: .im a :: tcs)) : Im K L H x a ∧ Im K L H y b ∧ SD K L F H σ ds ts tcs := ⟨s.pop.top, s.top, s.pop.pop⟩
theorem bin_ok {op : Operator} {a b : Dt} {x y : V} (s : SD X.K L F H σ ds (y :: x :: ts) (.im b :: .im a :: tcs)) (q : After X L F σ ts tcs Q (opt (binD op a b) ds)) : W2 X (binaryOp op) σ x y H Q := by
  obtain ⟨ax, ay, s0⟩ := rev_two s
  have val : ∀ {v : V} {d : Dt}, binD op a b = some (.val d) → (∀ Hh, Im X.K L Hh v d) → Q v H := by
    intro v d e im
    rw [e] at q
    exact q v H (s0.push im)
  have gv : ∀ {c : Bool} {d : Dt}, binD op a b = okV c d → c = true ∧ ∀ v, (∀ Hh, Im X.K L Hh v d) → Q v H := by
    intro c d e
    cases c with
    | false => rw [e] at q; exact q.elim
    | true => exact ⟨rfl, fun v im => val e im⟩
  cases op with
  | Add =>
    cases a with
    | int i =>
      cases b with
      | int j =>
        obtain rfl := im_int ax
        obtain rfl := im_int ay
        exact w2 op_add ⟨i, j, rfl, rfl, val rfl fun _ => .int _⟩
      | _ => exact q.elim
    | str i =>
      cases b with
      | str j =>
        obtain rfl := im_str ax
        obtain rfl := im_str ay
        obtain ⟨h, k⟩ := gv (c := szB (i.length + j.length)) rfl
        exact w2 op_add_str ⟨mkS i, mkS j, rfl, rfl, by rw [mkS_len, mkS_len]; exact szB_le h, by rw [mkS_app]; exact k _ fun _ => .str _⟩
      | _ => exact q.elim
    | lst l1 =>
      cases b with
      | lst l2 =>
        have q' : After X L F σ ts tcs Q (opt (okN (szB (l1.length + l2.length)) (l1 ++ l2)) ds) := q
        cases hzb : szB (l1.length + l2.length) with
        | true =>
          rw [hzb] at q'
          have hz := szB_le hzb
          obtain ⟨p, xs, rfl, sq, hx, s1⟩ := SD.spreadL (vs := [y]) (dvs := [.lst l2]) rfl s
          obtain ⟨p2, zs, rfl, sq2, hx2, s2⟩ := SD.spreadL (vs := []) (dvs := []) rfl s1
          refine w2 op_catL ⟨p, p2, xs, zs, rfl, rfl, sq, sq2, by omega, fun p3 hp => q' _ _ ?_⟩
          have s3 : SD X.K L F H σ ds ((zs ++ xs) ++ ts) ((l2 ++ l1).map Cell.im ++ tcs) := by simpa using s2
          exact s3.new (by simp [hx, hx2]) hp fun Hh r => .lst (by
            obtain ⟨r1, r2⟩ := Ims.split hx2 r
            exact r2.append r1)
        | false =>
          rw [hzb] at q'
          exact q'.elim
      | _ => exact q.elim
    | tup l1 =>
      cases b with
      | tup l2 =>
        obtain ⟨h, k⟩ := gv (c := szB (l1.length + l2.length)) (d := .tup (l1 ++ l2)) rfl
        have hz := szB_le h
        have q' : After X L F σ ts tcs Q (okR (.tup (l1 ++ l2)) ds) := by
          have q2 : After X L F σ ts tcs Q (opt (okV (szB (l1.length + l2.length)) (.tup (l1 ++ l2))) ds) := q
          rw [h] at q2
          exact q2
        obtain ⟨p, xs, rfl, sq, hx, s1⟩ := SD.spreadT (vs := [y]) (dvs := [.tup l2]) rfl s
        obtain ⟨p2, zs, rfl, sq2, hx2, s2⟩ := SD.spreadT (vs := []) (dvs := []) rfl s1
        refine w2 op_catA ⟨p, p2, xs, zs, rfl, rfl, sq, sq2, by omega, fun z => ?_, fun _ z => ?_, fun _ _ p3 hp => ?_⟩
        · have : l1 = [] := by
            rw [z] at hx
            exact List.length_eq_zero_iff.mp hx.symm
          subst this
          rw [List.nil_append] at q'
          refine q' _ _ ?_
          have := SD.swap (vs := [.ref p2, .ref p]) (dvs := [.tup l2, .tup []]) (ws := [.ref p2]) (dws := [.tup l2]) rfl s fun Hh _ r => by
            cases r with
            | cons a _ => exact .cons a .nil
          exact this
        · have : l2 = [] := by
            rw [z] at hx2
            exact List.length_eq_zero_iff.mp hx2.symm
          subst this
          rw [List.append_nil] at q'
          refine q' _ _ ?_
          exact s.pop
        · refine q' _ _ ?_
          have s3 : SD X.K L F H σ ds ((zs ++ xs) ++ ts) ((l2 ++ l1).map Cell.im ++ tcs) := by simpa using s2
          exact s3.newIm (by simp [hx, hx2]) hp fun Hh hh r => .tup (SqT.of hh) (by
            obtain ⟨r1, r2⟩ := Ims.split hx2 r
            exact r2.append r1)
      | _ => exact q.elim
    | _ => cases b <;> exact q.elim
  | Sub =>
    cases a with
    | int i =>
      cases b with
      | int j =>
        obtain rfl := im_int ax
        obtain rfl := im_int ay
        exact w2 op_sub ⟨i, j, rfl, rfl, val rfl fun _ => .int _⟩
      | _ => exact q.elim
    | _ => cases b <;> exact q.elim
  | Mult =>
    cases a with
    | int i =>
      cases b with
      | int j =>
        obtain rfl := im_int ax
        obtain rfl := im_int ay
        obtain ⟨h, k⟩ := gv (c := decide (CMulX i j)) rfl
        exact w2 op_mulX ⟨i, j, rfl, rfl, of_decide_eq_true h, k _ fun _ => .int _⟩
      | _ => exact q.elim
    | str i =>
      cases b with
      | int j =>
        obtain rfl := im_str ax
        obtain rfl := im_int ay
        obtain ⟨h, k⟩ := gv (c := inR j && szB (i.length * j.toNat)) rfl
        obtain ⟨h1, h2⟩ := Bool.and_eq_true _ _ |>.mp h
        exact w2 op_mulS ⟨i, j, rfl, rfl, inR_of h1, szB_le h2, k _ fun _ => .str _⟩
      | _ => exact q.elim
    | _ => cases b <;> exact q.elim
  | Mod =>
    cases a with
    | int i =>
      cases b with
      | int j =>
        obtain rfl := im_int ax
        obtain rfl := im_int ay
        obtain ⟨h, k⟩ := gv (c := decide (0 < j)) rfl
        exact w2 op_mod ⟨i, j, rfl, rfl, of_decide_eq_true h, k _ fun _ => .int _⟩
      | _ => exact q.elim
    | _ => cases b <;> exact q.elim
  | FloorDiv =>
    cases a with
    | int i =>
      cases b with
      | int j =>
        obtain rfl := im_int ax
        obtain rfl := im_int ay
        obtain ⟨h, k⟩ := gv (c := decide (CDivW i j)) rfl
        exact w2 op_fdivW ⟨i, j, rfl, rfl, of_decide_eq_true h, k _ fun _ => .int _⟩
      | _ => exact q.elim
    | _ => cases b <;> exact q.elim
  | Pow =>
    cases a with
    | int i =>
      cases b with
      | int j =>
        obtain rfl := im_int ax
        obtain rfl := im_int ay
        obtain ⟨h, k⟩ := gv (c := decide (CPowX i j)) rfl
        exact w2 op_powX ⟨i, j, rfl, rfl, of_decide_eq_true h, k _ fun _ => .int _⟩
      | _ => exact q.elim
    | _ => cases b <;> exact q.elim
  | _ => cases a <;> cases b <;> exact q.elim
end
end Ev
/-! E7: calls of defs, arguments, displays. -/
namespace Ev
open PySem PySem.Spec PyProof.Rows L2 Sg
def bnames : List Str := ["abs", "int", "len", "list", "max", "min", "repr", "str", "sum", "tuple", "sorted", "all", "any", "set", "isinstance", "range", "zip", "enumerate", "bool", "dict", "iter"]
/-- an own class as the top has made it -/
structure KCls (K : PySem.W.Frag) (L : Kl) (c : Nat) : Prop where
  cl : Cls K (L.ad c)
  nd : (L.fl c).Nodup
  na : ∀ f ∈ L.fl c, NoAttr K (L.ad c) f
/-- the type of a datum -/
def tyD (L : Kl) : Dt → Value
  | .non => .type "NoneType"
  | .bl _ => .type "bool"
  | .int _ => .type "int"
  | .str _ => .type "str"
  | .lst _ => .type "list"
  | .tup _ => .type "tuple"
  | .obj c _ => .ref (L.ad c)
  | .dct _ _ => .type "dict"
  | .con _ => .none
def btN : Bt → String
  | .int => "int"
  | .bool => "bool"
  | .str => "str"
  | .list => "list"
  | .tuple => "tuple"
  | .dict => "dict"
def clV (L : Kl) : Cl → Value
  | .bt b => .type (btN b)
  | .own c => .ref (L.ad c)
/-- what isinstance asks of an own class -/
structure KTy (K : PySem.W.Frag) (L : Kl) (c : Nat) : Prop where
  cl : Cls K (L.ad c)
  ha : PySem.W.findIn K (.ref (L.ad c)) "__class__" = some (some (.builtin "object.__class__"))
  hn : PySem.W.specialIn K (.builtin "object.__class__") "__get__" = some (some (.builtin "getset_descriptor.__get__"))
  htk : PySem.W.takesIn K (.builtin "object.__class__") = some true
  hm : PySem.W.mroIn K (L.ad c) (.type "object") = some true
theorem Im.ty {K : PySem.W.Frag} {L : Kl} {H : Hp} {v : V} {d : Dt} (h : Im K L H v d) (ok : ∀ c l, d = .obj c l → KTy K L c) (hc : ∀ n, d ≠ .con n) : TyX K H v (tyD L d) := by
  cases h with
  | non => exact .base .non
  | bl b => exact .base (.bl b)
  | int i => exact .base (.int i)
  | str x => exact .base (.str (mkS x))
  | lst s _ =>
    rcases s with (e | ⟨o, e⟩) | ⟨o, its, n, e, c, _⟩
    · exact .base (.lst e)
    · exact .base (.frz e)
    · exact .kList e c
  | tup s _ =>
    rcases s with (e | ⟨o, e⟩) | ⟨o, its, n, e, c, _⟩
    · exact .base (.tup e)
    · exact .fTuple e
    · exact .kTuple e c
  | @obj a dx c fs l e _ _ =>
    have k := ok c l rfl
    exact .base (.ins e k.cl k.ha k.hn k.htk k.hm)
  | dct e _ _ => exact .base (.dK e)
  | con n => exact absurd rfl (hc n)
/-- what an expression's context gives -/
structure Ctx (X : Cx) (L : Kl) (G : Gm) (call : CallF) (k : Nat) : Prop where
  hL : L.fl = G.fl
  fn : ∀ f c, G.code f = some c → FnG X.prog X.w X.K X.mg X.base (L2.CX X.prog X.w) k (L.fa f) (L.fd f) (L.ps f) (spC X.K L (call f))
  bd : ∀ f c, G.code f = some c → Binds X.K (L.fd f) (L.ps f) []
  kp : ∀ f c, G.code f = some c → PySem.W.keepIn X.K (.ref (L.fa f)) = true
  no : ∀ f, G.code f = none → ∀ bo dvs, call f bo dvs = .no
  g : NoG X.A
  hr : Room (k + 2) X.A
  nd : X.N.Nodup
  /-- the built-in names are nobody else's -/
  bn : ∀ x ∈ bnames, X.mg x = none
  kty : ∀ c, c < G.nc → KTy X.K L c
  kcl : ∀ c, c < G.nc → KCls X.K L c
  xm : ∀ c n b, G.sub c n = some b → PySem.W.exmOne X.K (L.xv c) (L.xv n) = some b
  is1 : ∀ d cl b, isD G.nc d cl = some b → PySem.W.kitOne X.K (tyD L d) (clV L cl) = some b
theorem takes_never (X : Cx) : Takes X fun _ _ _ _ => False := by
  intro u s' x
  obtain ⟨a, B, sI, pins, σ, H, cls, d, _, _, _, _, _, _, _, _, w⟩ := x
  exact w.elim
section
variable {X : Cx} {k : Nat} {f : Addr} {fd : FuncData} {ps : List Str} {sp : Sp} {E : L2.St → XK}
theorem runAtS {A : Around} {CX : CXT} {pins : List (Addr × Obj)} {σ : L2.St} {H : Hp} {s : Shared} {Q : VK} {us : List Value} {vs : List V} (F : FnG X.prog X.w X.K X.mg X.base CX k f fd ps sp) (g : NoG A) (hr : Room k A) (e0 : Env0 X.prog X.w X.K X.mg X.base A X.stack s H)
    (hbd : Binds X.K fd ps []) (hx : PassesAt CX X σ (E σ)) (I : Inv X pins σ H s) (r : Vals vs us) (h : sp vs H Q (E σ)) : wpAny (model X.prog X.w) A (call (.ref f) us) (EP X pins σ Q) X.xe s := by
  have r2 : Vals (vs ++ []) (us ++ []) := r.append .nil
  rw [← List.append_nil vs] at h
  have hl : (us ++ []).length = ps.length := r2.length ▸ F.len _ _ _ _ h
  have c := F.run A X.stack s H ⟨us, []⟩ (us ++ []) _ Q (E σ) g hr e0 (hbd s us I.kIn hl) r2 h
  refine wpAny_call (codeAny_mono c fun res s' hq => ?_)
  match res, hq with
  | .error e, hq => exact hx pins H s e s' I hq
  | .ok (.ret u), hq => exact I.after hq
end
section
variable {X : Cx} {L : Kl} {F : Fm} {G : Gm} {cf : CallF} {k : Nat} {ds : List Cell} {σ : L2.St} {H : Hp} {ts vs : List V} {tcs : List Cell} {dvs : List Dt} {Q : VK}
/-- the promise of def f at given arguments, from what is to follow -/
theorem spC_of (hl : vs.length = dvs.length) (s : SD X.K L F H σ ds (vs ++ ts) (dvs.map Cell.im ++ tcs)) {f : Nat} (q : After X L F σ ts tcs Q (goCall cf f dvs ds)) :
    ∃ W : WX, Takes X W ∧ spC X.K L (cf f) vs H Q (L2.WE W σ) := by
  obtain ⟨S, al, im, go⟩ := s.call hl
  have mk : ∀ W : WX, (match cf f none dvs with
    | .no => False
    | .ok rv bo' => ∀ v H', ExB L (hide H []) H' → RetAt X.K L S none bo' H H' v rv → Q v H'
    | .er r bo' => ∀ cls d H', ExB L (hide H []) H' → BorAt X.K L S H' none bo' → ErIs X.K L (hide H' S) cls d r → L2.WE W σ cls d H') → spC X.K L (cf f) vs H Q (L2.WE W σ) :=
    fun W h => ⟨S, none, vs, none, dvs, rfl, al, s.ext.tb, trivial, im, h⟩
  unfold goCall at q
  cases e : cf f none dvs with
  | no => rw [e] at q; exact q.elim
  | ok rv bo =>
    cases bo with
    | some o => rw [e] at q; exact q.elim
    | none =>
      rw [e] at q mk
      refine ⟨_, takes_never X, mk _ fun v H' ex r => ?_⟩
      rw [hide_nil] at ex
      obtain ⟨g1, g2, g3, g4⟩ := go H' ex
      cases rv with
      | val d => exact q v H' (g3 v d r.2)
      | new o =>
        obtain ⟨p, h, rfl, h1, h2, h3, -⟩ := r
        exact q _ H' (g4 p h o h1 h2 h3)
      | ali i => exact r.elim
  | er r bo =>
    cases bo with
    | some o => rw [e] at q; exact q.elim
    | none =>
      rw [e] at q mk
      obtain ⟨W, tk, give⟩ := q
      refine ⟨W, tk, mk W fun cls d H' ex _ hr => ?_⟩
      rw [hide_nil] at ex
      obtain ⟨g1, g2, g3, g4⟩ := go H' ex
      exact give cls d H' g1 (hr.ext g2)
theorem run_call {A : Around} (C : Ctx X L G cf k) {f : Nat} (hl : vs.length = dvs.length) (s : SD X.K L F H σ ds (vs ++ ts) (dvs.map Cell.im ++ tcs)) (q : After X L F σ ts tcs Q (goCall cf f dvs ds))
    {pins : List (Addr × Obj)} {st : Shared} {us : List Value} (I : Inv X pins σ H st) (r : Vals vs us) (g : NoG A) (hr : Room k A) (e0 : Env0 X.prog X.w X.K X.mg X.base A X.stack st H) :
    wpAny (model X.prog X.w) A (PySem.call (.ref (L.fa f)) us) (EP X pins σ Q) X.xe st := by
  obtain ⟨W, tk, sp⟩ := spC_of hl s q
  cases hc : G.code f with
  | none =>
    unfold goCall at q
    rw [C.no f hc] at q
    exact q.elim
  | some c => exact runAtS (E := L2.WE W) (C.fn f c hc) g hr e0 (C.bd f c hc) (passAt tk σ) I r sp
/-! arguments -/
def star1 : Expr → Bool
  | .Starred _ _ => true
  | _ => false
theorem starEach_cons {e : Expr} {es : List Expr} {env : Env} (h : star1 e = false) : starEach (e :: es) env = (false, eval e env) :: starEach es env := by
  cases e <;> first | rfl | cases h
theorem plainS {pos : Pos} {env : Env} : ∀ {es : List Expr}, es.all (fun e => !star1 e) = true → (backTo pos (starEach es env)).any (·.1) = false
  | [], _ => rfl
  | e :: es, h => by
    have h1 : star1 e = false := by
      have := List.all_eq_true.mp h e List.mem_cons_self
      simpa using this
    have h2 : es.all (fun e => !star1 e) = true := List.all_eq_true.mpr fun x hx => List.all_eq_true.mp h x (List.mem_cons_of_mem _ hx)
    rw [starEach_cons h1]
    show (false || (backTo pos (starEach es env)).any (·.1)) = false
    rw [plainS h2]
    rfl
theorem sna_nil : SndA X L F [] ds (.ok ([], ds)) := fun σ H ts tcs Q s q => wa pa_nil (q [] H rfl s)
theorem SD.rot {K : PySem.W.Frag} {v : V} {d : Dt} (hl : vs.length = dvs.length) (s : SD K L F H σ ds (vs ++ v :: ts) (dvs.map Cell.im ++ .im d :: tcs)) : SD K L F H σ ds (v :: vs ++ ts) ((d :: dvs).map Cell.im ++ tcs) := by
  have h' : SD K L F H σ ds ((vs ++ [v]) ++ ts) ((dvs ++ [d]).map Cell.im ++ tcs) := by simpa using s
  exact h'.swap (by simp [hl]) fun Hh _ r => by
    obtain ⟨r1, r2⟩ := Ims.split hl r
    cases r2 with
    | cons a _ => exact .cons a r1
theorem sna_cons {e : Expr} {es : List Expr} {ce cs : CE} (hL : L.fl = G.fl) (h1 : star1 e = false) (ha : ∀ ds, SndE X L F e ds (evE G cf ce ds)) (hr : ∀ ds, SndA X L F es ds (evA G cf cs ds)) : SndA X L F (e :: es) ds (evA G cf (.cons ce cs) ds) := by
  intro σ H ts tcs Q s q
  refine wa (pa_cons pe_we pa_wa (starEach_cons h1)) ?_
  refine (ha ds).v hL s (AfterV.of q id (by first | exact fun _ _ h => h | exact fun _ _ h => Tk.up h | exact fun _ _ h => Tk.up (Tk.up h) | exact fun _ _ h => Tk.upN (by assumption) h) fun d ds1 q v H1 s1 => ?_)
  refine hr ds1 σ H1 _ _ _ s1 (AfterA.of q id (by first | exact fun _ _ h => h | exact fun _ _ h => Tk.up h | exact fun _ _ h => Tk.up (Tk.up h) | exact fun _ _ h => Tk.upN (by assumption) h) fun l ds2 q vs H2 hl s2 => ?_)
  exact q (v :: vs) H2 (by simp [hl]) (s2.rot hl)
/-! displays -/
theorem snd_lst {es : List Expr} {pos : Pos} {cs : CE} (ha : ∀ ds, SndA X L F es ds (evA G cf cs ds)) : SndE X L F (.List es pos) ds (evE G cf (.lst cs) ds) := by
  intro σ H ts tcs Q s q
  refine we (pe_lst pa_wa) ?_
  refine ha ds σ H ts tcs _ s (AfterA.of q id (by first | exact fun _ _ h => h | exact fun _ _ h => Tk.up h | exact fun _ _ h => Tk.up (Tk.up h) | exact fun _ _ h => Tk.upN (by assumption) h) fun l ds1 q vs H1 hl s1 => ?_)
  by_cases hz : l.length ≤ sizeLine
  · rw [show okN (decide (l.length ≤ sizeLine)) l = some (.new (.lst l)) by rw [decide_eq_true hz]; rfl] at q
    exact ⟨by rw [hl]; exact hz, fun a ha => q _ _ (s1.new hl ha fun _ r => .lst r)⟩
  · rw [show okN (decide (l.length ≤ sizeLine)) l = none by rw [decide_eq_false hz]; rfl] at q
    exact q.elim
theorem snd_tup {es : List Expr} {x1} {pos : Pos} {cs : CE} (ha : ∀ ds, SndA X L F es ds (evA G cf cs ds)) : SndE X L F (.Tuple es x1 pos) ds (evE G cf (.tup cs) ds) := by
  intro σ H ts tcs Q s q
  refine we (pe_tup pa_wa) ?_
  refine ha ds σ H ts tcs _ s (AfterA.of q id (by first | exact fun _ _ h => h | exact fun _ _ h => Tk.up h | exact fun _ _ h => Tk.up (Tk.up h) | exact fun _ _ h => Tk.upN (by assumption) h) fun l ds1 q vs H1 hl s1 => ?_)
  by_cases hz : l.length ≤ sizeLine
  · rw [show okV (decide (l.length ≤ sizeLine)) (Dt.tup l) = some (.val (.tup l)) by rw [decide_eq_true hz]; rfl] at q
    exact ⟨by rw [hl]; exact hz, fun a ha => q _ _ (s1.newIm hl ha fun _ hh r => .tup (SqT.of hh) r)⟩
  · rw [show okV (decide (l.length ≤ sizeLine)) (Dt.tup l) = none by rw [decide_eq_false hz]; rfl] at q
    exact q.elim
/-! calls by name -/
theorem we_call {x : Str} {u : Value} {p pos : Pos} {e : Expr} {es : List Expr} (hg : Gl X x) (hm : X.mg x = some u) (hk : PySem.W.keepIn X.K u = true) (hdb : (x == ("__debug__" : Str)) = false) (h1 : star1 e = false) (h2 : es.all (fun e => !star1 e) = true)
    (h : WA X (e :: es) σ H fun vs H1 => ∀ pins s us, Inv X pins σ H1 s → Vals vs us → wpAny (model X.prog X.w) X.A (PySem.call u us) (EP X pins σ Q) X.xe s) : WE X (.Call (.Name x p) (e :: es) [] pos) σ H Q := by
  intro pins s I
  refine wpAny_Call_Name_kw (ld_glob I hg hm ?_ hdb)
  refine PySem.W.callWith_K (first := []) (h₀ := X.base) I.ok.mod.kin hk ?_ (starEach_cons h1) (plainS h2)
  exact thn (h pos pins s I) fun us s1 ⟨vs, H1, I1, r, q⟩ => ⟨I1.kIn, q pins s1 us I1 r⟩
theorem we_call0 {x : Str} {u : Value} {p pos : Pos} (hg : Gl X x) (hm : X.mg x = some u) (hk : PySem.W.keepIn X.K u = true) (hdb : (x == ("__debug__" : Str)) = false)
    (h : ∀ pins s, Inv X pins σ H s → wpAny (model X.prog X.w) X.A (PySem.call u []) (EP X pins σ Q) X.xe s) : WE X (.Call (.Name x p) [] [] pos) σ H Q := by
  intro pins s I
  refine wpAny_Call_Name_kw (ld_glob I hg hm ?_ hdb)
  exact PySem.W.callWith_K0 (first := []) I.kIn hk (h pins s I)
/-- f(e, ..) -/
theorem snd_call {x : Str} {p pos : Pos} {f : Nat} {e : Expr} {es : List Expr} {cs : CE} (C : Ctx X L G cf k) (hf : (G.code f).isSome = true) (hg : Gl X x) (hm : X.mg x = some (.ref (L.fa f))) (hdb : (x == ("__debug__" : Str)) = false) (h1 : star1 e = false) (h2 : es.all (fun e => !star1 e) = true)
    (ha : ∀ ds, SndA X L F (e :: es) ds (evA G cf cs ds)) : SndE X L F (.Call (.Name x p) (e :: es) [] pos) ds (evE G cf (.call f cs) ds) := by
  intro σ H ts tcs Q s q
  obtain ⟨c, hc⟩ := Option.isSome_iff_exists.mp hf
  refine we_call hg hm (C.kp f c hc) hdb h1 h2 ?_
  refine ha ds σ H ts tcs _ s (AfterA.of q id (by first | exact fun _ _ h => h | exact fun _ _ h => Tk.up h | exact fun _ _ h => Tk.up (Tk.up h) | exact fun _ _ h => Tk.upN (by assumption) h) fun l ds1 q vs H1 hl s1 => ?_)
  exact fun pins st us I r => run_call C hl s1 q I r C.g (C.hr.mono (by omega)) I.env0
theorem snd_call0 {x : Str} {p pos : Pos} {f : Nat} (C : Ctx X L G cf k) (hf : (G.code f).isSome = true) (hg : Gl X x) (hm : X.mg x = some (.ref (L.fa f))) (hdb : (x == ("__debug__" : Str)) = false) :
    SndE X L F (.Call (.Name x p) [] [] pos) ds (evE G cf (.call f .nil) ds) := by
  intro σ H ts tcs Q s q
  obtain ⟨c, hc⟩ := Option.isSome_iff_exists.mp hf
  refine we_call0 hg hm (C.kp f c hc) hdb fun pins st I => ?_
  exact run_call (vs := []) (dvs := []) C rfl s q I .nil C.g (C.hr.mono (by omega)) I.env0
end
end Ev
/-! E8: comparisons, tests. -/
namespace Ev
open PySem PySem.Spec PyProof.Rows L2 Sg
section
variable {K : PySem.W.Frag} {L : Kl} {H : Hp}
mutual
theorem Im.dp : ∀ {v : V} {d : Dt}, Im K L H v d → d.plain = true → Dp K H v d.py
  | _, _, .non, _ => by unfold Dt.py; exact .non
  | _, _, .bl b, _ => by unfold Dt.py; exact .bl b
  | _, _, .int b, _ => by unfold Dt.py; exact .int b
  | _, _, .str b, _ => by unfold Dt.py; exact .str _
  | _, _, .lst s r, h => by
    unfold Dt.plain at h
    unfold Dt.py
    exact .lst s (Ims.dp r h)
  | _, _, .tup s r, h => by
    unfold Dt.plain at h
    unfold Dt.py
    exact .tup s (Ims.dp r h)
  | _, _, .obj _ _ _, h => by
    unfold Dt.plain at h
    cases h
  | _, _, .dct _ _ _, h => by
    unfold Dt.plain at h
    cases h
  | _, _, .con _, h => by
    unfold Dt.plain at h
    cases h
theorem Ims.dp : ∀ {vs : List V} {ds : List Dt}, Ims K L H vs ds → Dt.plains ds = true → DpAll K H vs (Dt.pys ds)
  | _, _, .nil, _ => by unfold Dt.pys; exact .nil
  | _, _, .cons a r, h => by
    unfold Dt.plains at h
    unfold Dt.pys
    rw [Bool.and_eq_true] at h
    exact .cons (Im.dp a h.1) (Ims.dp r h.2)
end
end
/-! what the reckoning of data means -/
theorem py_str (x : List Nat) : (Dt.str x).py = .str (mkS x) := by unfold Dt.py; rfl
mutual
theorem eqD_py : ∀ {a b : Dt}, a.plain = true → b.plain = true → eqD a b = PyData.eqv a.py b.py
  | .non, b, _, h => by cases b <;> simp_all [eqD, Dt.py, PyData.eqv, Dt.plain]
  | .bl x, b, _, h => by cases b <;> simp_all [eqD, Dt.py, PyData.eqv, Dt.plain]
  | .int x, b, _, h => by cases b <;> simp_all [eqD, Dt.py, PyData.eqv, Dt.plain]
  | .str x, b, _, h => by
    cases b <;> simp_all [eqD, Dt.py, PyData.eqv, Dt.plain]
    rename_i y
    show (x == y) = (mkS x == mkS y)
    by_cases e : x = y
    · subst e
      simp
    · have : mkS x ≠ mkS y := fun z => e (mkS_inj z)
      rw [beq_eq_false_iff_ne.mpr e, beq_eq_false_iff_ne.mpr this]
  | .lst l, b, ha, hb => by
    cases b with
    | lst m =>
      unfold Dt.plain at ha hb
      unfold eqD Dt.py PyData.eqv
      exact eqDs_py ha hb
    | _ => simp_all [eqD, Dt.py, PyData.eqv, Dt.plain]
  | .tup l, b, ha, hb => by
    cases b with
    | tup m =>
      unfold Dt.plain at ha hb
      unfold eqD Dt.py PyData.eqv
      exact eqDs_py ha hb
    | _ => simp_all [eqD, Dt.py, PyData.eqv, Dt.plain]
  | .obj _ _, _, ha, _ => by unfold Dt.plain at ha; cases ha
  | .dct _ _, _, ha, _ => by unfold Dt.plain at ha; cases ha
  | .con _, _, ha, _ => by unfold Dt.plain at ha; cases ha
theorem eqDs_py : ∀ {l m : List Dt}, Dt.plains l = true → Dt.plains m = true → eqDs l m = PyData.eqvAll (Dt.pys l) (Dt.pys m)
  | [], [], _, _ => by simp [eqDs, Dt.pys, PyData.eqvAll]
  | [], _ :: _, _, _ => by simp [eqDs, Dt.pys, PyData.eqvAll]
  | _ :: _, [], _, _ => by simp [eqDs, Dt.pys, PyData.eqvAll]
  | a :: l, b :: m, ha, hb => by
    unfold Dt.plains at ha hb
    rw [Bool.and_eq_true] at ha hb
    unfold eqDs Dt.pys PyData.eqvAll
    rw [eqD_py ha.1 hb.1, eqDs_py ha.2 hb.2]
end
mutual
theorem depD_ok : ∀ {d : Dt} {n : Nat}, depD d = some n → d.plain = true ∧ d.py.canLay0 = true ∧ d.py.depth = n
  | .non, n, h => by cases h; exact ⟨by unfold Dt.plain; rfl, by simp [Dt.py, PyData.canLay0], by simp [Dt.py, PyData.depth]⟩
  | .bl _, n, h => by cases h; exact ⟨by unfold Dt.plain; rfl, by simp [Dt.py, PyData.canLay0], by simp [Dt.py, PyData.depth]⟩
  | .int _, n, h => by cases h; exact ⟨by unfold Dt.plain; rfl, by simp [Dt.py, PyData.canLay0], by simp [Dt.py, PyData.depth]⟩
  | .str x, n, h => by
    unfold depD at h
    split at h
    · rename_i hk
      cases h
      refine ⟨by unfold Dt.plain; rfl, ?_, by simp [Dt.py, PyData.depth]⟩
      unfold Dt.py PyData.canLay0
      show Array.all (mkS x).cps _ = true
      unfold okS at hk
      simp only [mkS, List.all_toArray]
      rw [List.all_eq_true] at hk ⊢
      intro c hc
      have := hk c hc
      rw [Nat.blt_eq] at this
      simpa using this
    · cases h
  | .lst l, n, h => by
    unfold depD at h
    obtain ⟨m, h1, rfl⟩ := Option.map_eq_some_iff.mp h
    obtain ⟨a, b, c⟩ := depDs_ok h1
    refine ⟨by unfold Dt.plain; exact a, ?_, ?_⟩
    · unfold Dt.py PyData.canLay0
      exact b
    · unfold Dt.py PyData.depth
      rw [c]
  | .tup l, n, h => by
    unfold depD at h
    obtain ⟨m, h1, rfl⟩ := Option.map_eq_some_iff.mp h
    obtain ⟨a, b, c⟩ := depDs_ok h1
    refine ⟨by unfold Dt.plain; exact a, ?_, ?_⟩
    · unfold Dt.py PyData.canLay0
      exact b
    · unfold Dt.py PyData.depth
      rw [c]
  | .obj _ _, n, h => by cases h
  | .dct _ _, n, h => by cases h
  | .con _, n, h => by cases h
theorem depDs_ok : ∀ {l : List Dt} {n : Nat}, depDs l = some n → Dt.plains l = true ∧ PyData.canLayAll0 (Dt.pys l) = true ∧ PyData.depthAll (Dt.pys l) = n
  | [], n, h => by cases h; exact ⟨by unfold Dt.plains; rfl, by simp [Dt.pys, PyData.canLayAll0], by simp [Dt.pys, PyData.depthAll]⟩
  | d :: r, n, h => by
    unfold depDs at h
    split at h
    · rename_i a b ha hb
      cases h
      obtain ⟨a1, a2, a3⟩ := depD_ok ha
      obtain ⟨b1, b2, b3⟩ := depDs_ok hb
      refine ⟨by unfold Dt.plains; rw [a1, b1]; rfl, ?_, ?_⟩
      · unfold Dt.pys PyData.canLayAll0
        rw [a2, b2]
        rfl
      · unfold Dt.pys PyData.depthAll
        rw [a3, b3]
    · cases h
end
theorem eqdB_ok {d : Dt} (h : eqdB d = true) : d.plain = true ∧ SeqAt.shaped d.py = true := by
  unfold eqdB at h
  split at h
  · rename_i n hn
    obtain ⟨a, b, c⟩ := depD_ok hn
    refine ⟨a, ?_⟩
    unfold SeqAt.shaped
    rw [b, c, Bool.true_and]
    exact decide_eq_true (Nat.le_of_ble_eq_true h)
  · cases h
theorem ltL_iff : ∀ x y : List Nat, ltL x y = decide (x < y)
  | [], [] => by simp [ltL]
  | [], _ :: _ => by simp [ltL]
  | _ :: _, [] => by simp [ltL]
  | a :: x, b :: y => by
    unfold ltL
    rw [ltL_iff x y]
    by_cases h1 : a < b
    · rw [if_pos (by rw [Nat.blt_eq]; exact h1)]
      symm
      exact decide_eq_true (List.cons_lt_cons_iff.mpr (.inl h1))
    · rw [if_neg (by rw [Nat.blt_eq]; exact h1)]
      by_cases h2 : a = b
      · subst h2
        rw [if_pos (by rw [Nat.beq_eq]), decide_eq_decide]
        simp [List.cons_lt_cons_iff]
      · rw [if_neg (by rw [Nat.beq_eq]; exact h2)]
        symm
        refine decide_eq_false fun z => ?_
        rcases List.cons_lt_cons_iff.mp z with z | z
        · exact h1 z
        · exact h2 z.1
theorem preL_iff : ∀ x y : List Nat, preL x y = true ↔ x.length ≤ y.length ∧ y.take x.length = x
  | [], y => by simp [preL]
  | _ :: _, [] => by simp [preL]
  | a :: x, b :: y => by
    unfold preL
    rw [Bool.and_eq_true, preL_iff x y, Nat.beq_eq]
    simp only [List.length_cons, List.take_succ_cons, List.cons.injEq, Nat.add_le_add_iff_right]
    constructor
    · rintro ⟨rfl, h1, h2⟩
      exact ⟨h1, rfl, h2⟩
    · rintro ⟨h1, h2, h3⟩
      exact ⟨h2.symm, h1, h3⟩
theorem infL_iff (x : List Nat) : ∀ y : List Nat, infL x y = true ↔ ∃ i, i + x.length ≤ y.length ∧ (y.drop i).take x.length = x
  | [] => by
    unfold infL
    rw [preL_iff]
    constructor
    · rintro ⟨h1, h2⟩
      exact ⟨0, by simpa using h1, by simpa using h2⟩
    · rintro ⟨i, h1, h2⟩
      exact ⟨by simp at h1 ⊢; exact h1.2, by simpa using h2⟩
  | c :: y => by
    unfold infL
    rw [Bool.or_eq_true, preL_iff, infL_iff x y]
    constructor
    · rintro (⟨h1, h2⟩ | ⟨i, h1, h2⟩)
      · exact ⟨0, by simpa using h1, by simpa using h2⟩
      · exact ⟨i + 1, by simp; omega, by simpa using h2⟩
    · rintro ⟨i, h1, h2⟩
      cases i with
      | zero => exact .inl ⟨by simpa using h1, by simpa using h2⟩
      | succ i => exact .inr ⟨i, by simp at h1; omega, by simpa using h2⟩
theorem subAt_iff (y x : List Nat) (i : Nat) (h : i + x.length ≤ y.length) : Builtin.Str.subAt (mkS y) (mkS x) i = true ↔ (y.drop i).take x.length = x := by
  unfold Builtin.Str.subAt
  rw [mkS_len, beq_iff_eq]
  simp only [mkS, List.extract_toArray]
  rw [show y.extract i (i + x.length) = (y.drop i).take x.length by simp [List.extract_eq_take_drop]]
  constructor
  · intro z
    simpa using z
  · intro z
    rw [z]
theorem infL_eq (x y : List Nat) : infL x y = !(Builtin.Str.occurrences (mkS y) (mkS x) 0 (mkS y).length 1).isEmpty := by
  rw [Bool.eq_iff_iff, infL_iff, PySem.StrLaws.found_iff]
  constructor
  · rintro ⟨i, h1, h2⟩
    exact ⟨i, by rw [mkS_len, mkS_len]; exact h1, (subAt_iff y x i h1).mpr h2⟩
  · rintro ⟨i, h1, h2⟩
    rw [mkS_len, mkS_len] at h1
    exact ⟨i, h1, (subAt_iff y x i h1).mp h2⟩
theorem mkS_toList (x : List Nat) : (mkS x).cps.toList = x := by simp [mkS]
theorem pys_map : ∀ l : List Dt, Dt.pys l = l.map Dt.py
  | [] => by unfold Dt.pys; rfl
  | d :: r => by unfold Dt.pys; rw [pys_map r]; rfl
theorem py_lst (l : List Dt) : (Dt.lst l).py = .list (l.map Dt.py) := by
  unfold Dt.py
  rw [pys_map]
theorem py_tup (l : List Dt) : (Dt.tup l).py = .tuple (l.map Dt.py) := by
  unfold Dt.py
  rw [pys_map]
section
variable {X : Cx} {L : Kl} {F : Fm} {G : Gm} {cf : CallF} {k : Nat} {ds : List Cell} {σ : L2.St} {H : Hp} {ts vs : List V} {tcs : List Cell} {dvs : List Dt} {Q : VK} {a b c : Expr} {pos : Pos} {ca cb cc : CE}
theorem we_cmp {op : CmpOp} (hm : behindInMarks op b = false) (h : WE X a σ H fun x H1 => WE X b σ H1 fun y H2 => W2 X (compareOp op) σ x y H2 Q) : WE X (.Compare a [op] [b] pos) σ H Q := by
  intro pins s I
  refine wpAny_Compare1 ?_ hm
  exact thn (h pins s I) fun v s1 ⟨x, H1, I1, r1, q1⟩ => thn (q1 pins s1 I1) fun u s2 ⟨y, H2, I2, r2, q2⟩ => q2 pins s2 v u I2 r1 r2
theorem wt_cmp {op : CmpOp} {Q : Bool → Hp → Prop} (hm : behindInMarks op b = false) (h : WE X a σ H fun x H1 => WE X b σ H1 fun y H2 => W2 X (compareOp op) σ x y H2 fun v H3 => ∃ k, v = .bl k ∧ Q k H3) : WT X (.Compare a [op] [b] pos) σ H Q := by
  intro pins s I
  refine wpAny_isTrue_Compare1 ?_ hm
  refine thn (h pins s I) fun v s1 ⟨x, H1, I1, r1, q1⟩ => thn (q1 pins s1 I1) fun u s2 ⟨y, H2, I2, r2, q2⟩ => thn (q2 pins s2 v u I2 r1 r2) fun w s3 ⟨z, H3, I3, r3, k, e, q3⟩ => ?_
  subst e
  cases r3
  exact wpAny_truthy_bool ⟨H3, I3, q3⟩
/-- two data compared -/
theorem cmp_val {op : CmpOp} {d e : Dt} {x y : V} {r0 : Bool} (hu : X.A.units + 65 < cLine) (s : SD X.K L F H σ ds (y :: x :: ts) (.im e :: .im d :: tcs)) (q : cmpD op d e = some r0) :
    W2 X (compareOp op) σ x y H fun v H2 => ∃ k, v = .bl k ∧ k = r0 ∧ H2 = H := by
  obtain ⟨ax, ay, s0⟩ := rev_two s
  have val : ∀ {r : Bool}, cmpD op d e = some r → r = r0 ∧ H = H := by
    intro r er
    rw [er] at q
    exact ⟨Option.some.inj q, rfl⟩
  have bad : cmpD op d e = none → False := by
    intro er
    rw [er] at q
    cases q
  have eqd : ∀ {g : Dt}, eqdB g = true → g.plain = true ∧ SeqAt.shaped g.py = true := eqdB_ok
  have anyE : ∀ {l : List Dt}, Dt.plains l = true → d.plain = true → (l.any fun z => eqD z d) = (l.map Dt.py).any fun z => PyData.eqv z d.py := by
    intro l
    induction l with
    | nil => intro _ _; rfl
    | cons z l ih =>
      intro h1 h2
      unfold Dt.plains at h1
      rw [Bool.and_eq_true] at h1
      rw [List.any_cons, List.map_cons, List.any_cons, eqD_py h1.1 h2, ih h1.2 h2]
  have io : ∀ (g : Int → Int → Bool), (∀ i j, cmpD op (.int i) (.int j) = some (g i j)) → OpR X (compareOp op) (rI0 fun i j => .bl (g i j)) → ∀ i j, d = .int i → e = .int j → W2 X (compareOp op) σ x y H fun v H2 => ∃ k, v = .bl k ∧ k = r0 ∧ H2 = H := by
    rintro g h1 h2 i j rfl rfl
    obtain rfl := im_int ax
    obtain rfl := im_int ay
    exact w2 h2 ⟨i, j, rfl, rfl, _, rfl, val (h1 i j)⟩
  have inL : ∀ (neg : Bool) (l : List Dt), e = .lst l → eqdB d = true → eqdB (.lst l) = true →
      ∃ dd dds, Dp X.K H x dd ∧ Dp X.K H y (.list dds) ∧ SeqAt.shaped dd = true ∧ SeqAt.shaped (.list dds) = true ∧ dds = l.map Dt.py ∧ dd = d.py := by
    rintro neg l rfl h1 h2
    obtain ⟨p1, p2⟩ := eqd h1
    obtain ⟨p3, p4⟩ := eqd h2
    refine ⟨d.py, l.map Dt.py, ax.dp p1, ?_, p2, ?_, rfl, rfl⟩
    · have := ay.dp p3
      rw [py_lst] at this
      exact this
    · rw [py_lst] at p4
      exact p4
  cases op with
  | Eq =>
    by_cases h : (eqdB d && eqdB e) = true
    · obtain ⟨h1, h2⟩ := Bool.and_eq_true _ _ |>.mp h
      obtain ⟨p1, p2⟩ := eqd h1
      obtain ⟨p3, p4⟩ := eqd h2
      exact w2 (op_eqD (by omega)) ⟨d.py, e.py, ax.dp p1, ay.dp p3, p2, p4, _, rfl, val (by rw [← eqD_py p1 p3]; exact if_pos h)⟩
    · exact (bad (if_neg h)).elim
  | NotEq =>
    by_cases h : (eqdB d && eqdB e) = true
    · obtain ⟨h1, h2⟩ := Bool.and_eq_true _ _ |>.mp h
      obtain ⟨p1, p2⟩ := eqd h1
      obtain ⟨p3, p4⟩ := eqd h2
      exact w2 (op_neD (by omega)) ⟨d.py, e.py, ax.dp p1, ay.dp p3, p2, p4, _, rfl, val (by rw [← eqD_py p1 p3]; exact if_pos h)⟩
    · exact (bad (if_neg h)).elim
  | Lt =>
    cases d with
    | int i => cases e with
      | int j => exact io _ (fun _ _ => rfl) op_lt i j rfl rfl
      | _ => exact (bad rfl).elim
    | str i => cases e with
      | str j =>
        obtain rfl := im_str ax
        obtain rfl := im_str ay
        exact w2 op_lt_str ⟨mkS i, mkS j, rfl, rfl, _, rfl, val (by rw [mkS_toList, mkS_toList, ← ltL_iff]; rfl)⟩
      | _ => exact (bad rfl).elim
    | _ => cases e <;> exact (bad rfl).elim
  | LtE =>
    cases d with
    | int i => cases e with
      | int j => exact io _ (fun _ _ => rfl) op_le i j rfl rfl
      | _ => exact (bad rfl).elim
    | str i => cases e with
      | str j =>
        obtain rfl := im_str ax
        obtain rfl := im_str ay
        exact w2 op_le_str ⟨mkS i, mkS j, rfl, rfl, _, rfl, val (by rw [mkS_toList, mkS_toList, ← ltL_iff]; rfl)⟩
      | _ => exact (bad rfl).elim
    | _ => cases e <;> exact (bad rfl).elim
  | Gt =>
    cases d with
    | int i => cases e with
      | int j => exact io _ (fun _ _ => rfl) op_gt i j rfl rfl
      | _ => exact (bad rfl).elim
    | _ => cases e <;> exact (bad rfl).elim
  | GtE =>
    cases d with
    | int i => cases e with
      | int j => exact io _ (fun _ _ => rfl) op_ge i j rfl rfl
      | _ => exact (bad rfl).elim
    | _ => cases e <;> exact (bad rfl).elim
  | In =>
    have lst : ∀ l, e = .lst l → (∀ x, d ≠ .str x ∨ True) → cmpD .In d e = (if eqdB d && eqdB (.lst l) then some (l.any fun z => eqD z d) else none) → W2 X (compareOp .In) σ x y H fun v H2 => ∃ k, v = .bl k ∧ k = r0 ∧ H2 = H := by
      intro l he _ hc
      by_cases h : (eqdB d && eqdB (.lst l)) = true
      · obtain ⟨h1, h2⟩ := Bool.and_eq_true _ _ |>.mp h
        obtain ⟨dd, dds, q1, q2, q3, q4, rfl, rfl⟩ := inL false l he h1 h2
        refine w2 (op_inD (by omega)) ⟨_, _, q1, q2, q3, q4, _, rfl, ?_⟩
        rw [if_pos h, anyE (by have := (eqd h2).1; unfold Dt.plain at this; exact this) (eqd h1).1] at hc
        exact val hc
      · rw [if_neg h] at hc
        exact (bad hc).elim
    cases d with
    | str i => cases e with
      | str j =>
        obtain rfl := im_str ax
        obtain rfl := im_str ay
        exact w2 op_in_str ⟨mkS i, mkS j, rfl, rfl, _, rfl, val (by rw [← infL_eq]; rfl)⟩
      | lst l => exact lst l rfl (fun _ => .inr trivial) rfl
      | _ => exact (bad rfl).elim
    | _ => cases e with
      | lst l => exact lst l rfl (fun _ => .inr trivial) rfl
      | _ => exact (bad rfl).elim
  | NotIn =>
    have lst : ∀ l, e = .lst l → cmpD .NotIn d e = (if eqdB d && eqdB (.lst l) then some (!l.any fun z => eqD z d) else none) → W2 X (compareOp .NotIn) σ x y H fun v H2 => ∃ k, v = .bl k ∧ k = r0 ∧ H2 = H := by
      intro l he hc
      by_cases h : (eqdB d && eqdB (.lst l)) = true
      · obtain ⟨h1, h2⟩ := Bool.and_eq_true _ _ |>.mp h
        obtain ⟨dd, dds, q1, q2, q3, q4, rfl, rfl⟩ := inL true l he h1 h2
        refine w2 (op_notInD (by omega)) ⟨_, _, q1, q2, q3, q4, _, rfl, ?_⟩
        rw [if_pos h, anyE (by have := (eqd h2).1; unfold Dt.plain at this; exact this) (eqd h1).1] at hc
        exact val hc
      · rw [if_neg h] at hc
        exact (bad hc).elim
    cases d with
    | str i => cases e with
      | str j =>
        obtain rfl := im_str ax
        obtain rfl := im_str ay
        exact w2 op_notIn_str ⟨mkS i, mkS j, rfl, rfl, _, rfl, val (by rw [← infL_eq]; rfl)⟩
      | lst l => exact lst l rfl rfl
      | _ => exact (bad rfl).elim
    | _ => cases e with
      | lst l => exact lst l rfl rfl
      | _ => exact (bad rfl).elim
  | _ => cases d <;> cases e <;> exact (bad rfl).elim
theorem W2.imp {f : Value → Value → Sem Value} {x y : V} {Q' : VK} (h : W2 X f σ x y H Q') (k : ∀ v H2, Q' v H2 → Q v H2) : W2 X f σ x y H Q := fun pins s v u I rx ry =>
  thn (h pins s v u I rx ry) fun w s2 ⟨z, H3, I3, r3, q3⟩ => ⟨z, H3, I3, r3, k z H3 q3⟩
theorem cmp_ok {op : CmpOp} {d e : Dt} {x y : V} {Z : Bool → Hp → Prop} (hu : X.A.units + 65 < cLine) (s : SD X.K L F H σ ds (y :: x :: ts) (.im e :: .im d :: tcs)) (q : After0 X L F σ ts tcs Z (opt (cmpD op d e) ds)) :
    W2 X (compareOp op) σ x y H fun v H2 => ∃ k, v = .bl k ∧ Z k H2 := by
  cases er : cmpD op d e with
  | none => rw [er] at q; exact q.elim
  | some r =>
    rw [er] at q
    refine (cmp_val hu s er).imp fun v H2 ⟨k, e1, e2, e3⟩ => ⟨k, e1, ?_⟩
    subst e2
    subst e3
    exact q _ s.pop.pop
/-! as expressions, as tests -/
theorem cmpR_d {op : CmpOp} {d e : Dt} {ds : List Cell} (h : ∀ c l c' l', ¬ (d = .obj c l ∧ e = .obj c' l' ∧ op = .Eq)) : cmpR G cf op d e ds = opt (cmpD op d e) ds := by
  unfold cmpR
  split
  · rename_i c l c' l'
    exact absurd ⟨rfl, rfl, rfl⟩ (h c l c' l')
  · rfl
/-- what is to be known of own == -/
def EqOk (X : Cx) (L : Kl) (F : Fm) (G : Gm) (cf : CallF) : Prop := ∀ (σ : L2.St) (H : Hp) (ds : List Cell) (ts : List V) (tcs : List Cell) (c : Nat) (l l' : List Dt) (x y : V) (f : Nat) (Z : Bool → Hp → Prop), G.eq c = some f →
  SD X.K L F H σ ds (y :: x :: ts) (.im (.obj c l') :: .im (.obj c l) :: tcs) → After0 X L F σ ts tcs Z (match goCall cf f [.obj c l, .obj c l'] ds with | .ok (.val (.bl x), ds') => .ok (x, ds') | _ => .no) → W2 X (compareOp .Eq) σ x y H fun v H2 => ∃ k, v = .bl k ∧ Z k H2
theorem cmpR_ok {op : CmpOp} {d e : Dt} {x y : V} {Z : Bool → Hp → Prop} (hq : EqOk X L F G cf) (hu : X.A.units + 65 < cLine) (s : SD X.K L F H σ ds (y :: x :: ts) (.im e :: .im d :: tcs)) (q : After0 X L F σ ts tcs Z (cmpR G cf op d e ds)) :
    W2 X (compareOp op) σ x y H fun v H2 => ∃ k, v = .bl k ∧ Z k H2 := by
  by_cases h : ∃ c l c' l', d = .obj c l ∧ e = .obj c' l' ∧ op = .Eq
  · obtain ⟨c, l, c', l', rfl, rfl, rfl⟩ := h
    unfold cmpR at q
    cases hf : G.eq c with
    | none => simp only [hf] at q; exact q.elim
    | some f =>
      simp only [hf] at q
      by_cases hc : c = c'
      · subst hc
        rw [if_pos rfl] at q
        exact hq σ H ds ts tcs c l l' x y f Z hf s q
      · rw [if_neg hc] at q
        exact q.elim
  · rw [cmpR_d (fun c l c' l' z => h ⟨c, l, c', l', z⟩)] at q
    exact cmp_ok hu s q
theorem snd_cmp {op : CmpOp} (hL : L.fl = G.fl) (hq : EqOk X L F G cf) (hu : X.A.units + 65 < cLine) (hm : behindInMarks op b = false) (ha : ∀ ds, SndE X L F a ds (evE G cf ca ds)) (hb : ∀ ds, SndE X L F b ds (evE G cf cb ds)) :
    SndE X L F (.Compare a [op] [b] pos) ds (evE G cf (.cmp op ca cb) ds) := by
  intro σ H ts tcs Q s q
  refine we_cmp hm ((ha ds).v hL s (AfterV.of q id (by first | exact fun _ _ h => h | exact fun _ _ h => Tk.up h | exact fun _ _ h => Tk.up (Tk.up h) | exact fun _ _ h => Tk.upN (by assumption) h) fun d ds1 q v H1 s1 => (hb ds1).v hL s1 (AfterV.of q id (by first | exact fun _ _ h => h | exact fun _ _ h => Tk.up h | exact fun _ _ h => Tk.up (Tk.up h) | exact fun _ _ h => Tk.upN (by assumption) h) fun e ds2 q u H2 s2 => ?_)))
  refine fun pins st w w' I rx ry => thn (cmpR_ok hq hu s2 (After0.of (Q := fun k H3 => Q (.bl k) H3) q id (by first | exact fun _ _ h => h | exact fun _ _ h => Tk.up h | exact fun _ _ h => Tk.up (Tk.up h) | exact fun _ _ h => Tk.upN (by assumption) h) fun k ds3 q H3 s3 => q.d s3 fun _ => .bl _) pins st w w' I rx ry) fun z s3 ⟨v', H3, I3, r3, k, e3, q3⟩ => ?_
  subst e3
  exact ⟨_, H3, I3, r3, q3⟩
theorem snt_cmp {op : CmpOp} (hL : L.fl = G.fl) (hq : EqOk X L F G cf) (hu : X.A.units + 65 < cLine) (hm : behindInMarks op b = false) (ha : ∀ ds, SndE X L F a ds (evE G cf ca ds)) (hb : ∀ ds, SndE X L F b ds (evE G cf cb ds)) :
    SndT X L F (.Compare a [op] [b] pos) ds (tt G (evE G cf (.cmp op ca cb) ds)) := by
  intro σ H ts tcs Q s q
  have q' : After0 X L F σ ts tcs Q ((vv G (evE G cf ca ds)).bind fun x => (vv G (evE G cf cb x.2)).bind fun y => (cmpR G cf op x.1 y.1 y.2)) := by
    have e : tt G (evE G cf (.cmp op ca cb) ds) = ((vv G (evE G cf ca ds)).bind fun x => (vv G (evE G cf cb x.2)).bind fun y => (cmpR G cf op x.1 y.1 y.2)) := by
      show ((((vv G (evE G cf ca ds)).bind fun x => (vv G (evE G cf cb x.2)).bind fun y => (cmpR G cf op x.1 y.1 y.2).bind fun r => okR (.bl r.1) r.2)).bind _) = _
      rw [bind_assoc]
      congr 1
      funext x
      rw [bind_assoc]
      congr 1
      funext y
      rw [bind_assoc]
      cases cmpR G cf op x.1 y.1 y.2 <;> rfl
    rw [← e]
    exact q
  refine wt_cmp hm ((ha ds).v hL s (AfterV.of q' id (by first | exact fun _ _ h => h | exact fun _ _ h => Tk.up h | exact fun _ _ h => Tk.up (Tk.up h) | exact fun _ _ h => Tk.upN (by assumption) h) fun d ds1 q v H1 s1 => (hb ds1).v hL s1 (AfterV.of q id (by first | exact fun _ _ h => h | exact fun _ _ h => Tk.up h | exact fun _ _ h => Tk.up (Tk.up h) | exact fun _ _ h => Tk.upN (by assumption) h) fun e ds2 q u H2 s2 => ?_)))
  exact cmpR_ok hq hu s2 q
/-- truth of what an expression comes to -/
theorem tru_of {K : PySem.W.Frag} {v : V} {d : Dt} {b : Bool} (h : Im K L H v d) (e : trD d = some b) : TruV K v H b := by
  cases h with
  | non => cases e; rfl
  | bl x => cases e; rfl
  | int i =>
    cases e
    show _ = _
    by_cases hi : i = 0 <;> simp [hi, bne]
  | str x =>
    have e' : (if szB x.length then some (!x.isEmpty) else none) = some b := e
    split at e'
    · rename_i hz
      cases e'
      unfold TruV
      refine ⟨by rw [mkS_len]; exact szB_le hz, ?_⟩
      rw [mkS_len]
      cases x <;> simp <;> omega
    · cases e'
  | lst s r =>
    rename_i xs l
    cases e
    refine .inl ⟨xs, s, ?_⟩
    have := r.length
    cases xs <;> cases l <;> simp_all
  | tup s r =>
    rename_i xs l
    cases e
    refine .inr (.inl ⟨xs, s, ?_⟩)
    have := r.length
    cases xs <;> cases l <;> simp_all
  | obj _ _ _ => cases e
  | dct hh hk r =>
    rename_i kvs ks l
    cases e
    refine .inr (.inr ⟨kvs, hh, ?_⟩)
    subst hk
    cases kvs <;> simp
  | con _ => cases e
/-- a plain test -/
def plainT : Expr → Bool
  | .UnaryOp .Not _ _ => false
  | .BoolOp _ _ _ => false
  | .IfExp _ _ _ _ => false
  | .Compare _ _ _ _ => false
  | _ => true
theorem plainT_eq {e : Expr} {env : Env} (h : plainT e = true) (whole : Sem Value) : isTrue e env whole = (do let v ← whole; standAt e.pos; holding [v] (truthy v)) := by
  cases e <;> first | rfl | cases h | (rename_i op x p; cases op <;> first | rfl | cases h)
theorem snt_plain {ce : CE} (hL : L.fl = G.fl) (hp : plainT a = true) (ha : ∀ ds, SndE X L F a ds (evE G cf ce ds)) : SndT X L F a ds (tt G (evE G cf ce ds)) := by
  intro σ H ts tcs Q s q
  refine wt (pt_truth pe_we fun w => plainT_eq hp w) ?_
  refine ha ds σ H ts tcs _ s (.pp hL ?_)
  unfold tt at q
  rw [show ((evE G cf ce ds).bind fun x => (pp G x.1 x.2).bind fun y => opt (trD y.1) y.2) = ((evE G cf ce ds).bind fun x => pp G x.1 x.2).bind fun y => opt (trD y.1) y.2 from (bind_assoc _ _ _).symm] at q
  refine After0.of q id (by first | exact fun _ _ h => h | exact fun _ _ h => Tk.up h | exact fun _ _ h => Tk.up (Tk.up h) | exact fun _ _ h => Tk.upN (by assumption) h) fun d ds1 q H1 s1 v im => ?_
  cases e : trD d with
  | none => rw [e] at q; exact q.elim
  | some b =>
    rw [e] at q
    exact ⟨b, tru_of im e, q H1 s1⟩
/-! and, or, not as tests: the word is a truth value, so its test is it -/
theorem tt_bl {α : Type} {r : Res (α × List Cell)} {g : α → Bool} : tt G (r.bind fun x => okR (.bl (g x.1)) x.2) = r.bind fun x => .ok (g x.1, x.2) := by
  unfold tt
  rw [bind_assoc]
  rfl
theorem snt_not (ha : ∀ ds, SndT X L F a ds (tt G (evE G cf ca ds))) : SndT X L F (.UnaryOp .Not a pos) ds (tt G (evE G cf (.not ca) ds)) := by
  intro σ H ts tcs Q s q
  have q' : After0 X L F σ ts tcs Q ((tt G (evE G cf ca ds)).bind fun x => .ok (!x.1, x.2)) := by
    rw [← tt_bl (G := G) (g := fun b => !b)]
    exact q
  refine wt (pt_not pt_wt) (ha ds σ H ts tcs _ s (After0.of q' id (by first | exact fun _ _ h => h | exact fun _ _ h => Tk.up h | exact fun _ _ h => Tk.up (Tk.up h) | exact fun _ _ h => Tk.upN (by assumption) h) fun b ds1 q H1 s1 => q H1 s1))
/-- a test whatever its 'whole' is -/
def WW (X : Cx) (e : Expr) : TT := fun σ H Q => ∀ (whole : Sem Value) (pins : List (Addr × Obj)) (s : Shared), Inv X pins σ H s →
  wpAny (model X.prog X.w) X.A (isTrue e X.env whole) (TP X pins σ Q) X.xe s
theorem pw_ww {e : Expr} : PW X e (WW X e) := ⟨fun wh pins s σ H Q I h => h wh pins s I⟩
def SndW (X : Cx) (L : Kl) (F : Fm) (e : Expr) (ds : List Cell) (r : Res (Bool × List Cell)) : Prop := ∀ σ H ts tcs Q, SD X.K L F H σ ds ts tcs → After0 X L F σ ts tcs Q r → WW X e σ H Q
theorem SndW.t {e : Expr} {r : Res (Bool × List Cell)} (h : SndW X L F e ds r) : SndT X L F e ds r := fun σ H ts tcs Q s q pins st I => h σ H ts tcs Q s q _ pins st I
theorem snw_and1 (ha : ∀ ds, SndT X L F a ds (tt G (evE G cf ca ds))) : SndW X L F (.BoolOp .And [a] pos) ds (tt G (evE G cf ca ds)) := fun σ H ts tcs Q s q wh pins st I => (pw_and1 pt_wt).run wh pins st σ H Q I (ha ds σ H ts tcs Q s q)
theorem snw_or1 (ha : ∀ ds, SndT X L F a ds (tt G (evE G cf ca ds))) : SndW X L F (.BoolOp .Or [a] pos) ds (tt G (evE G cf ca ds)) := fun σ H ts tcs Q s q wh pins st I => (pw_or1 pt_wt).run wh pins st σ H Q I (ha ds σ H ts tcs Q s q)
theorem iteT {A B : Prop} (h : A) : if true = true then A else B := by rw [if_pos rfl]; exact h
theorem iteF {A B : Prop} (h : B) : if false = true then A else B := by rw [if_neg (by decide)]; exact h
theorem tt_and : tt G (evE G cf (.and ca cb) ds) = (tt G (evE G cf ca ds)).bind fun x => if x.1 then tt G (evE G cf cb x.2) else .ok (false, x.2) := by
  show tt G ((tt G (evE G cf ca ds)).bind _) = _
  unfold tt
  rw [bind_assoc]
  congr 1
  funext x
  cases x.1 with
  | true =>
    show tt G ((tt G (evE G cf cb x.2)).bind fun y => okR (.bl y.1) y.2) = _
    have e := tt_bl (G := G) (r := tt G (evE G cf cb x.2)) (g := fun b => b)
    refine e.trans ?_
    show (tt G (evE G cf cb x.2)).bind _ = tt G (evE G cf cb x.2)
    cases tt G (evE G cf cb x.2) <;> rfl
  | false => rfl
theorem tt_or : tt G (evE G cf (.or ca cb) ds) = (tt G (evE G cf ca ds)).bind fun x => if x.1 then .ok (true, x.2) else tt G (evE G cf cb x.2) := by
  show tt G ((tt G (evE G cf ca ds)).bind _) = _
  unfold tt
  rw [bind_assoc]
  congr 1
  funext x
  cases x.1 with
  | false =>
    show tt G ((tt G (evE G cf cb x.2)).bind fun y => okR (.bl y.1) y.2) = _
    have e := tt_bl (G := G) (r := tt G (evE G cf cb x.2)) (g := fun b => b)
    refine e.trans ?_
    show (tt G (evE G cf cb x.2)).bind _ = tt G (evE G cf cb x.2)
    cases tt G (evE G cf cb x.2) <;> rfl
  | true => rfl
theorem snw_and {b' : Expr} {rest : List Expr} (ha : ∀ ds, SndT X L F a ds (tt G (evE G cf ca ds))) (hb : ∀ ds, SndW X L F (.BoolOp .And (b' :: rest) pos) ds (tt G (evE G cf cb ds))) : SndW X L F (.BoolOp .And (a :: b' :: rest) pos) ds (tt G (evE G cf (.and ca cb) ds)) := by
  intro σ H ts tcs Q s q wh pins st I
  rw [tt_and] at q
  refine (pw_and pt_wt pw_ww).run wh pins st σ H Q I (ha ds σ H ts tcs _ s (After0.of q id (by first | exact fun _ _ h => h | exact fun _ _ h => Tk.up h | exact fun _ _ h => Tk.up (Tk.up h) | exact fun _ _ h => Tk.upN (by assumption) h) fun r ds1 q H1 s1 => ?_))
  cases r with
  | true => exact iteT (hb ds1 σ H1 ts tcs Q s1 q)
  | false => exact iteF (q H1 s1)
theorem snw_or {b' : Expr} {rest : List Expr} (ha : ∀ ds, SndT X L F a ds (tt G (evE G cf ca ds))) (hb : ∀ ds, SndW X L F (.BoolOp .Or (b' :: rest) pos) ds (tt G (evE G cf cb ds))) : SndW X L F (.BoolOp .Or (a :: b' :: rest) pos) ds (tt G (evE G cf (.or ca cb) ds)) := by
  intro σ H ts tcs Q s q wh pins st I
  rw [tt_or] at q
  refine (pw_or pt_wt pw_ww).run wh pins st σ H Q I (ha ds σ H ts tcs _ s (After0.of q id (by first | exact fun _ _ h => h | exact fun _ _ h => Tk.up h | exact fun _ _ h => Tk.up (Tk.up h) | exact fun _ _ h => Tk.upN (by assumption) h) fun r ds1 q H1 s1 => ?_))
  cases r with
  | true => exact iteT (q H1 s1)
  | false => exact iteF (hb ds1 σ H1 ts tcs Q s1 q)
/-! .. as values of truth values -/
theorem AfterV.bool {β : Type} {x : Res (Dt × List Cell)} {f : Bool × List Cell → Res β} {Z : Res β → Prop} (q : Z ((x.bind asBool).bind f)) (hno : Z .no → False) (her : ∀ r ds, Z (.er r ds) → Tk X L F σ ts tcs r ds)
    (k : ∀ r ds', Z (f (r, ds')) → ∀ H, SD X.K L F H σ ds' ts tcs → Q (.bl r) H) : AfterV X L F σ ts tcs Q x := by
  rw [bind_assoc] at q
  refine AfterV.of q hno her fun d ds' q v H s => ?_
  cases d with
  | bl r =>
    obtain rfl := im_bl s.top
    exact k r ds' q H s.pop
  | _ => exact (hno q).elim
theorem AfterV.int {β : Type} {x : Res (Dt × List Cell)} {f : Int × List Cell → Res β} {Z : Res β → Prop} (q : Z ((x.bind asInt).bind f)) (hno : Z .no → False) (her : ∀ r ds, Z (.er r ds) → Tk X L F σ ts tcs r ds)
    (k : ∀ r ds', Z (f (r, ds')) → ∀ H, SD X.K L F H σ ds' ts tcs → Q (.int r) H) : AfterV X L F σ ts tcs Q x := by
  rw [bind_assoc] at q
  refine AfterV.of q hno her fun d ds' q v H s => ?_
  cases d with
  | int r =>
    obtain rfl := im_int s.top
    exact k r ds' q H s.pop
  | _ => exact (hno q).elim
theorem snd_one {op} (h : SndE X L F a ds (evE G cf ca ds)) : SndE X L F (.BoolOp op [a] pos) ds (evE G cf ca ds) := fun σ H ts tcs Q s q => we (pe_one pe_we) (h σ H ts tcs Q s q)
theorem snd_and {b' : Expr} {rest : List Expr} (hL : L.fl = G.fl) (ha : ∀ ds, SndE X L F a ds (evE G cf ca ds)) (hb : ∀ ds, SndE X L F (.BoolOp .And (b' :: rest) pos) ds (evE G cf cb ds)) : SndE X L F (.BoolOp .And (a :: b' :: rest) pos) ds (evE G cf (.andV ca cb) ds) := by
  intro σ H ts tcs Q s q
  refine we (pe_and pe_we pe_we) ((ha ds).v hL s (AfterV.bool q id (by first | exact fun _ _ h => h | exact fun _ _ h => Tk.up h | exact fun _ _ h => Tk.up (Tk.up h) | exact fun _ _ h => Tk.upN (by assumption) h) fun r ds1 q H1 s1 => ⟨r, rfl, ?_⟩))
  cases r with
  | true => exact iteT (hb ds1 σ H1 ts tcs Q s1 q)
  | false => exact iteF (q.d s1 fun _ => .bl _)
theorem snd_or {b' : Expr} {rest : List Expr} (hL : L.fl = G.fl) (ha : ∀ ds, SndE X L F a ds (evE G cf ca ds)) (hb : ∀ ds, SndE X L F (.BoolOp .Or (b' :: rest) pos) ds (evE G cf cb ds)) : SndE X L F (.BoolOp .Or (a :: b' :: rest) pos) ds (evE G cf (.orV ca cb) ds) := by
  intro σ H ts tcs Q s q
  refine we (pe_or pe_we pe_we) ((ha ds).v hL s (AfterV.bool q id (by first | exact fun _ _ h => h | exact fun _ _ h => Tk.up h | exact fun _ _ h => Tk.up (Tk.up h) | exact fun _ _ h => Tk.upN (by assumption) h) fun r ds1 q H1 s1 => ⟨r, rfl, ?_⟩))
  cases r with
  | true => exact iteT (q.d s1 fun _ => .bl _)
  | false => exact iteF (hb ds1 σ H1 ts tcs Q s1 q)
theorem snd_not (hL : L.fl = G.fl) (ha : ∀ ds, SndE X L F a ds (evE G cf ca ds)) : SndE X L F (.UnaryOp .Not a pos) ds (evE G cf (.notV ca) ds) := by
  intro σ H ts tcs Q s q
  refine we (pe_not pe_we) ((ha ds).v hL s (AfterV.bool q id (by first | exact fun _ _ h => h | exact fun _ _ h => Tk.up h | exact fun _ _ h => Tk.up (Tk.up h) | exact fun _ _ h => Tk.upN (by assumption) h) fun r ds1 q H1 s1 => ⟨r, rfl, q.d s1 fun _ => .bl _⟩))
theorem snd_ife {c' : Expr} (hc : ∀ ds, SndT X L F c' ds (tt G (evE G cf cc ds))) (ha : ∀ ds, SndE X L F a ds (evE G cf ca ds)) (hb : ∀ ds, SndE X L F b ds (evE G cf cb ds)) : SndE X L F (.IfExp c' a b pos) ds (evE G cf (.ife cc ca cb) ds) := by
  intro σ H ts tcs Q s q
  refine we (pe_ifExp pt_wt pe_we pe_we) (hc ds σ H ts tcs _ s (After0.of q id (by first | exact fun _ _ h => h | exact fun _ _ h => Tk.up h | exact fun _ _ h => Tk.up (Tk.up h) | exact fun _ _ h => Tk.upN (by assumption) h) fun r ds1 q H1 s1 => ?_))
  cases r with
  | true => exact iteT (ha ds1 σ H1 ts tcs Q s1 q)
  | false => exact iteF (hb ds1 σ H1 ts tcs Q s1 q)
/-! chains -/
theorem snd_cmp2 {op op' : CmpOp} {c' : Expr} (hL : L.fl = G.fl) (hu : X.A.units + 65 < cLine) (hm : lastMarks [op, op'] [b, c'] = false) (ha : ∀ ds, SndE X L F a ds (evE G cf ca ds)) (hb : ∀ ds, SndE X L F b ds (evE G cf cb ds)) (hc : ∀ ds, SndE X L F c' ds (evE G cf cc ds)) :
    SndE X L F (.Compare a [op, op'] [b, c'] pos) ds (evE G cf (.cmp2 op op' ca cb cc) ds) := by
  intro σ H ts tcs Q s q pins st I
  refine Compare_chain ?_ hm
  refine thn ((ha ds).v (Q := fun x H1 => WE X b σ H1 fun y H2 => W2 X (compareOp op) σ x y H2 fun z H3 => ∃ k, z = .bl k ∧ (if k = true then WE X c' σ H3 fun w H4 => W2 X (compareOp op') σ y w H4 Q else Q (.bl false) H3)) hL s
    (AfterV.of q id (by first | exact fun _ _ h => h | exact fun _ _ h => Tk.up h | exact fun _ _ h => Tk.up (Tk.up h) | exact fun _ _ h => Tk.upN (by assumption) h) fun d ds1 q v H1 s1 => (hb ds1).v hL s1 (AfterV.of q id (by first | exact fun _ _ h => h | exact fun _ _ h => Tk.up h | exact fun _ _ h => Tk.up (Tk.up h) | exact fun _ _ h => Tk.upN (by assumption) h) fun e ds2 q u H2 s2 => ?_)) pins st I) fun v s1 ⟨x, H1, I1, r1, q1⟩ => chain_link (thn (q1 pins s1 I1) fun u s2 ⟨y, H2, I2, r2, q2⟩ => thn (q2 pins s2 v u I2 r1 r2) fun w s3 ⟨z, H3, I3, r3, k, e3, q3⟩ => ?_)
  · cases er : cmpD op d e with
    | none => simp only [er] at q; exact q.elim
    | some r =>
      simp only [er] at q
      refine (cmp_val hu s2 er).imp fun w H3 ⟨k, e1, e2, e3⟩ => ⟨k, e1, ?_⟩
      subst e2
      subst e3
      cases k with
      | false => exact iteF (q.d s2.pop.pop fun _ => .bl _)
      | true =>
        refine iteT ?_
        have q' : After X L F σ ts tcs Q ((vv G (evE G cf cc ds2)).bind fun z => (opt (cmpD op' e z.1) z.2).bind fun q => okR (.bl q.1) q.2) := q
        have s3 : SD X.K L F H3 σ ds2 (u :: ts) (.im e :: tcs) := SD.swap (vs := [u, v]) (dvs := [e, d]) (ws := [u]) (dws := [e]) rfl s2 fun Hh _ r => by
          cases r with
          | cons a _ => exact .cons a .nil
        refine (hc ds2).v hL s3 (AfterV.of q' id (by first | exact fun _ _ h => h | exact fun _ _ h => Tk.up h | exact fun _ _ h => Tk.up (Tk.up h) | exact fun _ _ h => Tk.upN (by assumption) h) fun g ds3 q w' H4 s4 => ?_)
        exact (cmp_ok (Z := fun k H => Q (.bl k) H) hu s4 (After0.of q id (by first | exact fun _ _ h => h | exact fun _ _ h => Tk.up h | exact fun _ _ h => Tk.up (Tk.up h) | exact fun _ _ h => Tk.upN (by assumption) h) fun k ds4 q H5 s5 => q.d s5 fun _ => .bl _)).imp fun z H5 ⟨k, e5, q5⟩ => e5 ▸ q5
  · subst e3
    cases r3
    refine wpAny_truthy_bool ?_
    cases k with
    | false => exact ite_ff ⟨.bl false, H3, I3, rfl, by rw [if_neg (by decide)] at q3; exact q3⟩
    | true =>
      rw [if_pos rfl] at q3
      exact ite_tt (chain_last (thn (q3 pins s3 I3) fun w' s4 ⟨z', H4, I4, r4, q4⟩ => q4 pins s4 u w' I4 r2 r4))
theorem tt_cmp2 {op op' : CmpOp} : tt G (evE G cf (.cmp2 op op' ca cb cc) ds) = (vv G (evE G cf ca ds)).bind fun x => (vv G (evE G cf cb x.2)).bind fun y => (opt (cmpD op x.1 y.1) y.2).bind fun r =>
      if r.1 then (vv G (evE G cf cc r.2)).bind fun z => opt (cmpD op' y.1 z.1) z.2 else .ok (false, r.2) := by
  show tt G ((vv G (evE G cf ca ds)).bind _) = _
  unfold tt
  rw [bind_assoc]
  congr 1
  funext x
  rw [bind_assoc]
  congr 1
  funext y
  rw [bind_assoc]
  congr 1
  funext r
  cases r.1 with
  | false => rfl
  | true =>
    show Res.bind (Res.bind _ _) _ = Res.bind _ _
    rw [bind_assoc]
    congr 1
    funext z
    cases cmpD op' y.1 z.1 <;> rfl
theorem snt_cmp2 {op op' : CmpOp} {c' : Expr} (hL : L.fl = G.fl) (hu : X.A.units + 65 < cLine) (hm : lastMarks [op, op'] [b, c'] = false) (ha : ∀ ds, SndE X L F a ds (evE G cf ca ds)) (hb : ∀ ds, SndE X L F b ds (evE G cf cb ds)) (hc : ∀ ds, SndE X L F c' ds (evE G cf cc ds)) :
    SndT X L F (.Compare a [op, op'] [b, c'] pos) ds (tt G (evE G cf (.cmp2 op op' ca cb cc) ds)) := by
  intro σ H ts tcs Q s q pins st I
  rw [tt_cmp2] at q
  refine isTrue_chain ?_ hm
  refine thn ((ha ds).v (Q := fun x H1 => WE X b σ H1 fun y H2 => W2 X (compareOp op) σ x y H2 fun z H3 => ∃ k, z = .bl k ∧ (if k = true then WE X c' σ H3 fun w H4 => W2 X (compareOp op') σ y w H4 fun v H5 => ∃ k, v = .bl k ∧ Q k H5 else Q false H3)) hL s
    (AfterV.of q id (by first | exact fun _ _ h => h | exact fun _ _ h => Tk.up h | exact fun _ _ h => Tk.up (Tk.up h) | exact fun _ _ h => Tk.upN (by assumption) h) fun d ds1 q v H1 s1 => (hb ds1).v hL s1 (AfterV.of q id (by first | exact fun _ _ h => h | exact fun _ _ h => Tk.up h | exact fun _ _ h => Tk.up (Tk.up h) | exact fun _ _ h => Tk.upN (by assumption) h) fun e ds2 q u H2 s2 => ?_)) pins st I) fun v s1 ⟨x, H1, I1, r1, q1⟩ => test_link (thn (q1 pins s1 I1) fun u s2 ⟨y, H2, I2, r2, q2⟩ => thn (q2 pins s2 v u I2 r1 r2) fun w s3 ⟨z, H3, I3, r3, k, e3, q3⟩ => ?_)
  · cases er : cmpD op d e with
    | none => simp only [er] at q; exact q.elim
    | some r =>
      simp only [er] at q
      refine (cmp_val hu s2 er).imp fun w H3 ⟨k, e1, e2, e3⟩ => ⟨k, e1, ?_⟩
      subst e2
      subst e3
      cases k with
      | false => exact iteF (q _ s2.pop.pop)
      | true =>
        refine iteT ?_
        have q' : After0 X L F σ ts tcs Q ((vv G (evE G cf cc ds2)).bind fun z => opt (cmpD op' e z.1) z.2) := q
        have s3 : SD X.K L F H3 σ ds2 (u :: ts) (.im e :: tcs) := SD.swap (vs := [u, v]) (dvs := [e, d]) (ws := [u]) (dws := [e]) rfl s2 fun Hh _ r => by
          cases r with
          | cons a _ => exact .cons a .nil
        refine (hc ds2).v hL s3 (AfterV.of q' id (by first | exact fun _ _ h => h | exact fun _ _ h => Tk.up h | exact fun _ _ h => Tk.up (Tk.up h) | exact fun _ _ h => Tk.upN (by assumption) h) fun g ds3 q w' H4 s4 => ?_)
        exact cmp_ok hu s4 q
  · subst e3
    cases r3
    refine wpAny_truthy_bool ?_
    cases k with
    | false => exact ite_ff ⟨H3, I3, by rw [if_neg (by decide)] at q3; exact q3⟩
    | true =>
      rw [if_pos rfl] at q3
      refine ite_tt (test_last (thn (q3 pins s3 I3) fun w' s4 ⟨z', H4, I4, r4, q4⟩ => thn (q4 pins s4 u w' I4 r2 r4) fun d' s5 ⟨z2, H5, I5, r5, k2, e2, q5⟩ => ?_))
      subst e2
      cases r5
      exact wpAny_truthy_bool ⟨H5, I5, q5⟩
end
end Ev
/-! E9: operators, built-ins, subscripts, methods of texts. -/
namespace Ev
open PySem PySem.Spec PyProof.Rows L2 Sg
/-! how data are shown -/
theorem ofS (s : String) : (s : Str) = mkS (s.toList.map Char.toNat) := Str.ofString_eq_toList s
theorem shN_eq (n : Nat) : Str.ofString (Nat.repr n) = mkS (shN n) := by
  rw [show Str.ofString (Nat.repr n) = mkS ((Nat.repr n).toList.map Char.toNat) from Str.ofString_eq_toList _]
  unfold shN
  rw [show (Nat.repr n).toList = Nat.toDigits 10 n by simp [Nat.repr]]
theorem shI_eq (i : Int) : Str.ofString (toString i) = mkS (shI i) := by
  rw [show Str.ofString (toString i) = mkS ((toString i).toList.map Char.toNat) from Str.ofString_eq_toList _]
  cases i with
  | ofNat n =>
    rw [show (toString (Int.ofNat n)).toList = Nat.toDigits 10 n by simp [toString, Int.repr, Nat.repr]]
    rfl
  | negSucc n =>
    rw [show (toString (Int.negSucc n)).toList = '-' :: Nat.toDigits 10 (n + 1) by simp [toString, Int.repr, Nat.repr]]
    rfl
theorem joinS : ∀ (x : List Nat) (ys : List (List Nat)), Str.join (mkS x) (ys.map mkS) = mkS (glueL x ys)
  | x, [] => rfl
  | x, [y] => rfl
  | x, y :: z :: r => by
    show mkS y ++ mkS x ++ Str.join (mkS x) ((z :: r).map mkS) = _
    rw [joinS x (z :: r), mkS_app, mkS_app]
    show _ = mkS (y ++ (x ++ glueL x (z :: r)))
    rw [List.append_assoc]
theorem plS_print : ∀ c, plS c = true → Unicode.isPrintable c = true := by
  intro c h
  have h1 : ∀ c ∈ List.range 127, plS c = true → Unicode.isPrintable c = true := by decide +kernel
  refine h1 c ?_ h
  unfold plS at h
  simp only [Bool.and_eq_true] at h
  have := Nat.le_of_ble_eq_true h.1.1.2
  simp
  omega
theorem shS_eq (x : List Nat) : (PyData.str (mkS x)).shown = mkS (shS x) := by
  unfold shS
  split
  · rename_i h
    rw [PyData.shown_str]
    unfold reprText
    have ne : ∀ c ∈ x, c ≠ 39 := fun c hc z => by
      have := List.all_eq_true.mp h c hc
      unfold plS at this
      rw [z] at this
      simp at this
    have hq : reprQuote (mkS x) = 39 := by
      unfold reprQuote
      have : (mkS x).cps.contains 39 = false := by
        simp only [mkS, List.contains_toArray]
        rw [List.contains_eq_any_beq, List.any_eq_false]
        intro c hc
        simpa using fun z => ne c hc z.symm
      rw [this]
      rfl
    rw [hq]
    have hr : ∀ c ∈ x, Builtin.Str.reprChar 39 c = [c] := fun c hc => by
      have hp := List.all_eq_true.mp h c hc
      have hpr := plS_print c hp
      unfold plS at hp
      simp only [Bool.and_eq_true, Bool.not_eq_true'] at hp
      obtain ⟨⟨⟨a1, a2⟩, a3⟩, a4⟩ := hp
      have b1 := Nat.le_of_ble_eq_true a1
      have b3 : c ≠ 39 := fun z => by rw [z] at a3; simp at a3
      have b4 : c ≠ 92 := fun z => by rw [z] at a4; simp at a4
      unfold Builtin.Str.reprChar
      simp only [hpr]
      rw [if_neg (by simp [b3, b4]), if_neg (by simp; omega), if_neg (by simp; omega), if_neg (by simp; omega), if_pos trivial]
    have fold : ∀ (y acc : List Nat), (∀ c ∈ y, Builtin.Str.reprChar 39 c = [c]) → y.toArray.foldl (fun out c => out ++ (Builtin.Str.reprChar 39 c).toArray) acc.toArray = (acc ++ y).toArray := by
      intro y
      induction y with
      | nil => intro acc _; simp
      | cons c y ih =>
        intro acc hy
        have := ih (acc ++ [c]) fun d hd => hy d (List.mem_cons_of_mem _ hd)
        rw [List.append_assoc] at this
        show _ = (acc ++ ([c] ++ y)).toArray
        rw [← this]
        simp [hy c List.mem_cons_self]
    show (⟨_⟩ : Str) = ⟨_⟩
    have e := fold x [39] hr
    have e2 : (mkS x).cps.foldl (fun out c => out ++ (Builtin.Str.reprChar 39 c).toArray) #[39] = ([39] ++ x).toArray := e
    rw [e2]
    simp
  · rw [mkS_of]
mutual
theorem shD_py : ∀ {d : Dt}, d.plain = true → d.py.shown = mkS (shD d)
  | .non, _ => by rw [show (Dt.non).py = PyData.none by simp [Dt.py]]; unfold PyData.shown; decide +kernel
  | .bl b, _ => by
    rw [show (Dt.bl b).py = PyData.bool b by simp [Dt.py], PyData.shown_bool]
    cases b <;> decide +kernel
  | .int i, _ => by
    rw [show (Dt.int i).py = PyData.int i by simp [Dt.py], PyData.shown_int]
    exact shI_eq i
  | .str x, _ => by
    rw [py_str]
    unfold shD
    exact shS_eq x
  | .lst l, h => by
    unfold Dt.plain at h
    unfold Dt.py PyData.shown shD
    rw [PySem.listText_eq_join, shDs_py h, show (", " : Str) = mkS [44, 32] by decide +kernel, joinS, show ("[" : Str) = mkS [91] by decide +kernel, show ("]" : Str) = mkS [93] by decide +kernel, mkS_app, mkS_app]
    rfl
  | .tup l, h => by
    unfold Dt.plain at h
    unfold Dt.py PyData.shown shD
    unfold tupleText
    rw [shDs_py h, show (", " : Str) = mkS [44, 32] by decide +kernel, joinS, show ("(" : Str) = mkS [40] by decide +kernel, mkS_app, List.length_map]
    have hl : ∀ l : List Dt, (shDs l).length = l.length := by
      intro l
      induction l with
      | nil => rfl
      | cons a l ih => unfold shDs; simp [ih]
    rw [hl]
    match l with
    | [] => 
      rw [show ((if (([] : List Dt).length == 1) = true then ",)" else ")" : String) : Str) = mkS [41] by decide +kernel, mkS_app]
      rfl
    | [d1] =>
      rw [show ((if (([d1] : List Dt).length == 1) = true then ",)" else ")" : String) : Str) = mkS [44, 41] from (by decide +kernel : ((",)" : String) : Str) = mkS [44, 41]), mkS_app]
      rfl
    | d1 :: d2 :: r =>
      rw [show ((if ((d1 :: d2 :: r : List Dt).length == 1) = true then ",)" else ")" : String) : Str) = mkS [41] from by rw [if_neg (by simp)]; exact (by decide +kernel : ((")" : String) : Str) = mkS [41]), mkS_app]
      rfl
  | .obj _ _, h => by unfold Dt.plain at h; cases h
  | .dct _ _, h => by unfold Dt.plain at h; cases h
  | .con _, h => by unfold Dt.plain at h; cases h
theorem shDs_py : ∀ {l : List Dt}, Dt.plains l = true → PyData.shownAll (Dt.pys l) = (shDs l).map mkS
  | [], _ => by simp [Dt.pys, PyData.shownAll, shDs]
  | d :: r, h => by
    unfold Dt.plains at h
    rw [Bool.and_eq_true] at h
    unfold Dt.pys PyData.shownAll shDs
    rw [shD_py h.1, shDs_py h.2]
    rfl
end
mutual
theorem shOk_py : ∀ {d : Dt}, shOk d = true → d.py.showable = true
  | .non, _ => by simp [Dt.py, PyData.showable]
  | .bl b, _ => by simp [Dt.py, PyData.showable]
  | .int i, h => by
    unfold shOk at h
    unfold Dt.py PyData.showable
    rw [Nat.blt_eq] at h
    exact decide_eq_true h
  | .str x, _ => by simp [Dt.py, PyData.showable]
  | .lst l, h => by
    unfold shOk at h
    unfold Dt.py PyData.showable
    exact shOks_py h
  | .tup l, h => by
    unfold shOk at h
    unfold Dt.py PyData.showable
    exact shOks_py h
  | .obj _ _, h => by unfold shOk at h; cases h
  | .dct _ _, h => by unfold shOk at h; cases h
  | .con _, h => by unfold shOk at h; cases h
theorem shOks_py : ∀ {l : List Dt}, shOks l = true → PyData.showableAll (Dt.pys l) = true
  | [], _ => by simp [Dt.pys, PyData.showableAll]
  | d :: r, h => by
    unfold shOks at h
    rw [Bool.and_eq_true] at h
    unfold Dt.pys PyData.showableAll
    rw [shOk_py h.1, shOks_py h.2]
    rfl
end
theorem shwB_ok {d : Dt} (h : shwB d = true) : d.plain = true ∧ d.py.showable = true ∧ d.py.shown.length ≤ sizeLine ∧ d.py.depth ≤ 60 := by
  unfold shwB at h
  rw [Bool.and_eq_true, Bool.and_eq_true] at h
  obtain ⟨⟨h1, h2⟩, h3⟩ := h
  split at h2
  · rename_i n hn
    obtain ⟨a, b, c⟩ := depD_ok hn
    exact ⟨a, shOk_py h1, by rw [shD_py a, mkS_len]; exact szB_le h3, by rw [c]; exact Nat.le_of_ble_eq_true h2⟩
  · cases h2
section
variable {X : Cx} {L : Kl} {F : Fm} {G : Gm} {cf : CallF} {k : Nat} {ds : List Cell} {σ : L2.St} {H : Hp} {ts vs : List V} {tcs : List Cell} {dvs : List Dt} {Q : VK} {a b c e : Expr} {pos : Pos} {ca cb cc ce : CE}
/-- what is to be known of own operators -/
def OpOk (X : Cx) (L : Kl) (F : Fm) (G : Gm) (cf : CallF) : Prop := ∀ (σ : L2.St) (H : Hp) (ds : List Cell) (ts : List V) (tcs : List Cell) (op : Operator) (c : Nat) (l : List Dt) (d : Dt) (x y : V) (f : Nat) (Q : VK), G.ops c op = some f → ownB c d = true →
  SD X.K L F H σ ds (y :: x :: ts) (.im d :: .im (.obj c l) :: tcs) → After X L F σ ts tcs Q (goCall cf f [.obj c l, d] ds) → W2 X (binaryOp op) σ x y H Q
theorem binR_ok {op : Operator} {d1 d2 : Dt} {x y : V} (ho : OpOk X L F G cf) (s : SD X.K L F H σ ds (y :: x :: ts) (.im d2 :: .im d1 :: tcs)) (q : After X L F σ ts tcs Q (binR G cf op d1 d2 ds)) : W2 X (binaryOp op) σ x y H Q := by
  cases d1 with
  | obj c l =>
    unfold binR at q
    simp only at q
    cases hf : G.ops c op with
    | none => simp only [hf] at q; exact q.elim
    | some f =>
      simp only [hf] at q
      by_cases hb : ownB c d2 = true
      · rw [if_pos hb] at q
        exact ho σ H ds ts tcs op c l d2 x y f Q hf hb s q
      · rw [if_neg hb] at q
        exact q.elim
  | _ => exact bin_ok s q
theorem snd_bin {op : Operator} (hL : L.fl = G.fl) (ho : OpOk X L F G cf) (ha : ∀ ds, SndE X L F a ds (evE G cf ca ds)) (hb : ∀ ds, SndE X L F b ds (evE G cf cb ds)) : SndE X L F (.BinOp a op b pos) ds (evE G cf (.bin op ca cb) ds) := by
  intro σ H ts tcs Q s q
  exact we_bin ((ha ds).v hL s (AfterV.of q id (by first | exact fun _ _ h => h | exact fun _ _ h => Tk.up h | exact fun _ _ h => Tk.up (Tk.up h) | exact fun _ _ h => Tk.upN (by assumption) h) fun d ds1 q v H1 s1 => (hb ds1).v hL s1 (AfterV.of q id (by first | exact fun _ _ h => h | exact fun _ _ h => Tk.up h | exact fun _ _ h => Tk.up (Tk.up h) | exact fun _ _ h => Tk.upN (by assumption) h) fun d2 ds2 q u H2 s2 => binR_ok ho s2 q)))
theorem snd_neg (hL : L.fl = G.fl) (ha : ∀ ds, SndE X L F a ds (evE G cf ca ds)) : SndE X L F (.UnaryOp .USub a pos) ds (evE G cf (.neg ca) ds) := by
  intro σ H ts tcs Q s q
  exact we (pe_un un_neg pe_we) ((ha ds).v hL s (AfterV.int q id (by first | exact fun _ _ h => h | exact fun _ _ h => Tk.up h | exact fun _ _ h => Tk.up (Tk.up h) | exact fun _ _ h => Tk.upN (by assumption) h) fun i ds1 q H1 s1 => ⟨i, rfl, q.d s1 fun _ => .int _⟩))
theorem isn_ok {y : Bool} {d : Dt} {v : V} (s : SD X.K L F H σ ds (v :: ts) (.im d :: tcs)) (q : After X L F σ ts tcs Q (opt (isnD y d) ds)) : Q (.bl (if decide (v = .non) then y else !y)) H := by
  have im := s.top
  have s0 := s.pop
  cases im with
  | non => exact q _ _ (s0.push fun _ => .bl _)
  | con n => exact q.elim
  | _ => exact q _ _ (s0.push fun _ => .bl _)
theorem snd_isN {j'} {px} (hL : L.fl = G.fl) (ha : ∀ ds, SndE X L F a ds (evE G cf ca ds)) : SndE X L F (.Compare a [.Is] [.Constant .none j' px] pos) ds (evE G cf (.isn true ca) ds) := by
  intro σ H ts tcs Q s q
  refine we (pe_cmp (pc_isN pe_we)) ((ha ds).v hL s (AfterV.of q id (by first | exact fun _ _ h => h | exact fun _ _ h => Tk.up h | exact fun _ _ h => Tk.up (Tk.up h) | exact fun _ _ h => Tk.upN (by assumption) h) fun d ds1 q v H1 s1 => ?_))
  have := isn_ok s1 q
  show Q (.bl (decide (v = .non))) H1
  cases h : decide (v = V.non) <;> rw [h] at this <;> exact this
theorem snd_isNN {j'} {px} (hL : L.fl = G.fl) (ha : ∀ ds, SndE X L F a ds (evE G cf ca ds)) : SndE X L F (.Compare a [.IsNot] [.Constant .none j' px] pos) ds (evE G cf (.isn false ca) ds) := by
  intro σ H ts tcs Q s q
  refine we (pe_cmp (pc_notN pe_we)) ((ha ds).v hL s (AfterV.of q id (by first | exact fun _ _ h => h | exact fun _ _ h => Tk.up h | exact fun _ _ h => Tk.up (Tk.up h) | exact fun _ _ h => Tk.upN (by assumption) h) fun d ds1 q v H1 s1 => ?_))
  have := isn_ok s1 q
  show Q (.bl (!decide (v = .non))) H1
  cases h : decide (v = V.non) <;> rw [h] at this <;> exact this
/-! a built-in function with one argument -/
def nmB : Bl → Str
  | .abs => "abs" | .int => "int" | .len => "len" | .list => "list" | .max => "max" | .min => "min" | .repr => "repr" | .str => "str" | .sum => "sum" | .tuple => "tuple" | .sorted => "sorted" | .all => "all" | .any => "any" | .sset => "sorted"
def vlB : Bl → Value
  | .abs => .builtin "abs" | .int => .type "int" | .len => .builtin "len" | .list => .type "list" | .max => .builtin "max" | .min => .builtin "min" | .repr => .builtin "repr" | .str => .type "str" | .sum => .builtin "sum" | .tuple => .type "tuple" | .sorted => .builtin "sorted" | .all => .builtin "all" | .any => .builtin "any" | .sset => .builtin "sorted"
theorem bootB : ∀ b : Bl, bootBuiltins (nmB b) = some (vlB b) := by intro b; cases b <;> decide +kernel
theorem nmB_ne : ∀ b : Bl, nmB b ≠ "__name__" ∧ (nmB b == ("__debug__" : Str)) = false := by intro b; cases b <;> decide +kernel
theorem nmB_in : ∀ b : Bl, nmB b ∈ bnames := by intro b; cases b <;> decide +kernel
/-- a call of a known value, as a reading -/
def W1 (X : Cx) (u : Value) (σ : L2.St) (vs : List V) (H : Hp) (Q : VK) : Prop := ∀ pins s us, Inv X pins σ H s → Vals vs us → wpAny (model X.prog X.w) X.A (PySem.call u us) (EP X pins σ Q) X.xe s
theorem w1 {u : Value} {r : List V → Hp → VK → Prop} (hc : CallR X u r) (h : r vs H Q) : W1 X u σ vs H Q := fun pins s us I rv => hc pins s σ H vs us Q I rv h
theorem we_blt {x : Str} {u : Value} {p : Pos} {es : List Expr} (hg : Gl X x) (hm : X.mg x = none) (hv : bootBuiltins x = some u) (hu : (∃ id, u = .builtin id) ∨ ∃ T, u = .type T) (hn : x ≠ "__name__") (hdb : (x == ("__debug__" : Str)) = false)
    (h1 : star1 e = false) (h2 : es.all (fun e => !star1 e) = true) (h : WA X (e :: es) σ H fun vs H1 => W1 X u σ vs H1 Q) : WE X (.Call (.Name x p) (e :: es) [] pos) σ H Q := by
  intro pins s I
  refine wpAny_Call_Name_kw (ld_blt I hg hm hv ?_ hn hdb)
  have h' := thn (h pos pins s I) fun us s1 ⟨vs, H1, I1, r, q⟩ => q pins s1 us I1 r
  rcases hu with ⟨id, rfl⟩ | ⟨T, rfl⟩
  · exact PyProof.Rows.callWith_builtin1 h' (starEach_cons h1) (plainS h2)
  · exact PyProof.Rows.callWith_type1 h' (starEach_cons h1) (plainS h2)
theorem we_blt1 {b : Bl} {p : Pos} (hg : Gl X (nmB b)) (hm : ∀ x ∈ bnames, X.mg x = none) (h1 : star1 e = false) (h : WE X e σ H fun v H1 => W1 X (vlB b) σ [v] H1 Q) : WE X (.Call (.Name (nmB b) p) [e] [] pos) σ H Q := by
  refine we_blt hg (hm _ (nmB_in b)) (bootB b) ?_ (nmB_ne b).1 (nmB_ne b).2 h1 rfl (wa (pa_cons pe_we pa_nil (starEach_cons h1)) h)
  cases b <;> first | exact .inl ⟨_, rfl⟩ | exact .inr ⟨_, rfl⟩
theorem ims_ints {K : PySem.W.Frag} : ∀ {l : List Dt} {ns : List Int} {xs : List V}, ints? l = some ns → Ims K L H xs l → xs = ns.map V.int ∧ l = ns.map Dt.int
  | [], ns, xs, e, r => by cases e; cases r; exact ⟨rfl, rfl⟩
  | d :: l, ns, xs, e, r => by
    cases d with
    | int i =>
      have e' : (ints? l).map (i :: ·) = some ns := e
      obtain ⟨ms, h1, rfl⟩ := Option.map_eq_some_iff.mp e'
      cases r with
      | cons a r =>
        obtain ⟨h2, h3⟩ := ims_ints h1 r
        rw [im_int a, h2, h3]
        exact ⟨rfl, rfl⟩
    | _ => cases e
theorem ims_bools {K : PySem.W.Frag} : ∀ {l : List Dt} {ns : List Bool} {xs : List V}, bools? l = some ns → Ims K L H xs l → xs = ns.map V.bl ∧ l = ns.map Dt.bl
  | [], ns, xs, e, r => by cases e; cases r; exact ⟨rfl, rfl⟩
  | d :: l, ns, xs, e, r => by
    cases d with
    | bl i =>
      have e' : (bools? l).map (i :: ·) = some ns := e
      obtain ⟨ms, h1, rfl⟩ := Option.map_eq_some_iff.mp e'
      cases r with
      | cons a r =>
        obtain ⟨h2, h3⟩ := ims_bools h1 r
        rw [im_bl a, h2, h3]
        exact ⟨rfl, rfl⟩
    | _ => cases e
theorem ims_strs {K : PySem.W.Frag} : ∀ {l : List Dt} {ns : List (List Nat)} {xs : List V}, strs? l = some ns → Ims K L H xs l → xs = ns.map (fun x => V.str (mkS x)) ∧ l = ns.map Dt.str
  | [], ns, xs, e, r => by cases e; cases r; exact ⟨rfl, rfl⟩
  | d :: l, ns, xs, e, r => by
    cases d with
    | str i =>
      have e' : (strs? l).map (i :: ·) = some ns := e
      obtain ⟨ms, h1, rfl⟩ := Option.map_eq_some_iff.mp e'
      cases r with
      | cons a r =>
        obtain ⟨h2, h3⟩ := ims_strs h1 r
        rw [im_str a, h2, h3]
        exact ⟨rfl, rfl⟩
    | _ => cases e
theorem Ims.ofInts {K : PySem.W.Frag} : ∀ ms : List Int, Ims K L H (ms.map V.int) (ms.map Dt.int)
  | [] => .nil
  | _ :: ms => .cons (.int _) (Ims.ofInts ms)
theorem perm_sorted {ms ns : List Int} (h1 : ms.Perm ns) (h2 : ms.Pairwise (· ≤ ·)) : ms = ns.mergeSort (fun a b => decide (a ≤ b)) := by
  have p1 : (ns.mergeSort (fun a b => decide (a ≤ b))).Pairwise (· ≤ ·) := by
    have := List.pairwise_mergeSort (le := fun (a b : Int) => decide (a ≤ b)) (fun a b c h1 h2 => by simp at *; omega) (fun a b => by simp; omega) ns
    exact this.imp fun h => by simpa using h
  exact (h1.trans (List.mergeSort_perm ns _).symm).eq_of_pairwise (fun a b _ _ h1 h2 => Int.le_antisymm h1 h2) h2 p1
/-- one argument, looked at -/
theorem bl_ok {b : Bl} {rv : RV} {d : Dt} {v : V} (hc0 : X.calm = true) (C : Ctx X L G cf k) (s : Has X.K L F H σ ds [] [] v ts tcs rv) (e : pkR L.fl rv ds = some d) (q : After X L F σ ts tcs Q (opt (blD b d) ds)) : W1 X (vlB b) σ [v] H Q := by
  obtain ⟨im, s0⟩ := Has.im (vs := []) (dvs := []) rfl s e
  have s0' : SD X.K L F H σ ds ts tcs := s0
  have val : ∀ {w : V} {d' : Dt}, blD b d = some (.val d') → (∀ Hh, Im X.K L Hh w d') → Q w H := by
    intro w d' e im
    rw [e] at q
    exact q w H (s0'.push im)
  have bad : blD b d = none → False := by
    intro e
    rw [e] at q
    exact q
  have lst : ∀ l, d = .lst l → ∃ a xs, v = .ref a ∧ SqL X.K H a xs ∧ Ims X.K L H xs l ∧ SD X.K L F H σ ds (xs ++ ts) (l.map Cell.im ++ tcs) ∧ xs.length = l.length := by
    rintro l rfl
    obtain ⟨a, xs, rfl, sq, hx, s1⟩ := Has.items (vs := []) (dvs := []) rfl s e
    have s1' : SD X.K L F H σ ds (xs ++ ts) (l.map Cell.im ++ tcs) := s1
    exact ⟨a, xs, rfl, sq, s1'.tops hx, s1', hx⟩
  have tup : ∀ l, d = .tup l → ∃ a xs, v = .ref a ∧ SqT X.K H a xs ∧ Ims X.K L H xs l ∧ SD X.K L F H σ ds (xs ++ ts) (l.map Cell.im ++ tcs) ∧ xs.length = l.length := by
    rintro l rfl
    obtain ⟨a, xs, rfl, sq, hx, s1⟩ := Has.itemsT (vs := []) (dvs := []) rfl s e
    have s1' : SD X.K L F H σ ds (xs ++ ts) (l.map Cell.im ++ tcs) := s1
    exact ⟨a, xs, rfl, sq, s1'.tops hx, s1', hx⟩
  cases b with
  | abs =>
    cases d with
    | int i =>
      obtain rfl := im_int im
      exact w1 call_abs ⟨i, rfl, val rfl fun _ => .int _⟩
    | _ => exact (bad rfl).elim
  | int =>
    cases d with
    | int i =>
      obtain rfl := im_int im
      exact w1 call_int1 (.inl ⟨i, rfl, val rfl fun _ => .int _⟩)
    | bl i =>
      obtain rfl := im_bl im
      exact w1 call_int1 (.inr ⟨i, rfl, val rfl fun _ => .int _⟩)
    | _ => exact (bad rfl).elim
  | len =>
    cases d with
    | lst l =>
      obtain ⟨a, xs, rfl, sq, -, -, hx⟩ := lst l rfl
      exact w1 call_len ⟨.ref a, l.length, rfl, .inl ⟨xs, sq, hx.symm⟩, val rfl fun _ => .int _⟩
    | tup l =>
      obtain ⟨a, xs, rfl, sq, -, -, hx⟩ := tup l rfl
      exact w1 call_len ⟨.ref a, l.length, rfl, .inr ⟨xs, sq, hx.symm⟩, val rfl fun _ => .int _⟩
    | str x =>
      obtain rfl := im_str im
      cases hz : szB x.length with
      | true => exact w1 call_len ⟨.str (mkS x), x.length, rfl, ⟨by rw [mkS_len]; exact szB_le hz, by rw [mkS_len]⟩, val (by show okV _ _ = _; rw [hz]; rfl) fun _ => .int _⟩
      | false => exact (bad (by show okV _ _ = _; rw [hz]; rfl)).elim
    | _ => exact (bad rfl).elim
  | list =>
    cases d with
    | lst l =>
      obtain ⟨a, xs, rfl, sq, -, s1, hx⟩ := lst l rfl
      exact w1 call_list_of ⟨a, xs, rfl, .inl sq, fun p hp => q _ _ (s1.new hx hp fun _ r => .lst r)⟩
    | tup l =>
      obtain ⟨a, xs, rfl, sq, -, s1, hx⟩ := tup l rfl
      exact w1 call_list_of ⟨a, xs, rfl, .inr sq, fun p hp => q _ _ (s1.new hx hp fun _ r => .lst r)⟩
    | _ => exact (bad rfl).elim
  | tuple =>
    cases d with
    | lst l =>
      obtain ⟨a, xs, rfl, sq, -, s1, hx⟩ := lst l rfl
      exact w1 call_tuple_of ⟨a, xs, rfl, .inl ⟨sq, fun p hp => q _ _ (s1.newIm hx hp fun _ hh r => .tup (SqT.of hh) r)⟩⟩
    | tup l =>
      obtain ⟨a, xs, rfl, sq, -, -, hx⟩ := tup l rfl
      refine w1 call_tuple_of ⟨a, xs, rfl, .inr ⟨sq, q _ _ ?_⟩⟩
      cases rv with
      | val d' =>
        obtain rfl : d' = .tup l := by simpa [pkR] using e
        exact s
      | new o =>
        cases o with
        | lst l' => cases e
        | ins c ns l' => simp only [pkR, OD.frz] at e; split at e <;> cases e
        | dct ks l' => cases e
      | ali i =>
        have e' : (match ds[i]? with | some (.own _ o) => o.frz L.fl | _ => none) = some (.tup l) := e
        cases ei : ds[i]? with
        | none => rw [ei] at e'; cases e'
        | some c =>
          rw [ei] at e'
          cases c with
          | free => cases e'
          | im d => cases e'
          | own b o =>
            cases o with
            | lst l' => cases e'
            | ins c ns l' => simp only [OD.frz] at e'; split at e' <;> cases e'
            | dct ks l' => cases e'
    | _ => exact (bad rfl).elim
  | repr =>
    have q' : After X L F σ ts tcs Q (opt (okV (shwB d) (.str (shD d))) ds) := q
    cases hs : shwB d with
    | false => rw [hs] at q'; exact q'.elim
    | true =>
      rw [hs] at q'
      obtain ⟨a1, a2, a3, a4⟩ := shwB_ok hs
      exact w1 (call_reprD C.g (by have := C.hr.un; omega)) ⟨v, d.py, rfl, im.dp a1, ⟨a2, a3, a4⟩, by rw [shD_py a1]; exact q' _ _ (s0'.push fun _ => .str _)⟩
  | sum =>
    cases d with
    | lst l =>
      obtain ⟨a, xs, rfl, sq, ims, -, -⟩ := lst l rfl
      cases hi : ints? l with
      | none => exact (bad (by show (ints? l).map _ = _; rw [hi]; rfl)).elim
      | some ns =>
        obtain ⟨rfl, -⟩ := ims_ints hi ims
        exact w1 (cr_sum hc0) ⟨a, ns, rfl, sq, val (by show (ints? l).map _ = _; rw [hi]; rfl) fun _ => .int _⟩
    | _ => exact (bad rfl).elim
  | all =>
    cases d with
    | lst l =>
      obtain ⟨a, xs, rfl, sq, ims, -, -⟩ := lst l rfl
      cases hi : bools? l with
      | none => exact (bad (by show (bools? l).map _ = _; rw [hi]; rfl)).elim
      | some ns =>
        obtain ⟨rfl, -⟩ := ims_bools hi ims
        exact w1 (cr_all hc0) ⟨a, ns, rfl, sq, val (by show (bools? l).map _ = _; rw [hi]; rfl) fun _ => .bl _⟩
    | _ => exact (bad rfl).elim
  | any =>
    cases d with
    | lst l =>
      obtain ⟨a, xs, rfl, sq, ims, -, -⟩ := lst l rfl
      cases hi : bools? l with
      | none => exact (bad (by show (bools? l).map _ = _; rw [hi]; rfl)).elim
      | some ns =>
        obtain ⟨rfl, -⟩ := ims_bools hi ims
        exact w1 (cr_any hc0) ⟨a, ns, rfl, sq, val (by show (bools? l).map _ = _; rw [hi]; rfl) fun _ => .bl _⟩
    | _ => exact (bad rfl).elim
  | sorted =>
    cases d with
    | lst l =>
      obtain ⟨a, xs, rfl, sq, ims, -, -⟩ := lst l rfl
      cases hi : ints? l with
      | none => exact (bad (by show (ints? l).bind _ = _; rw [hi]; rfl)).elim
      | some ns =>
        obtain ⟨rfl, -⟩ := ims_ints hi ims
        cases hzb : Nat.blt ns.length 64 with
        | true =>
          have hz : ns.length < 64 := by rw [Nat.blt_eq] at hzb; exact hzb
          have eb : blD .sorted (.lst l) = some (.new (.lst ((ns.mergeSort (fun a b => decide (a ≤ b))).map Dt.int))) := by
            show (ints? l).bind _ = _
            rw [hi]
            show okN (Nat.blt ns.length 64) _ = _
            rw [hzb]
            rfl
          rw [eb] at q
          refine w1 cr_sorted ⟨a, ns, rfl, sq, hz, fun ms p h1 h2 hp => q _ _ ?_⟩
          obtain rfl := perm_sorted h1 h2
          have s2 : SD X.K L F H σ ds ((ns.mergeSort (fun a b => decide (a ≤ b))).map V.int ++ ts) (((ns.mergeSort (fun a b => decide (a ≤ b))).map Dt.int).map Cell.im ++ tcs) :=
            SD.swap (vs := []) (dvs := []) rfl s0' fun _ _ _ => Ims.ofInts _
          exact s2.new (by simp) hp fun _ r => .lst r
        | false => exact (bad (by show (ints? l).bind _ = _; rw [hi]; show okN (Nat.blt ns.length 64) _ = _; rw [hzb]; rfl)).elim
    | _ => exact (bad rfl).elim
  | _ => cases d <;> exact (bad rfl).elim
theorem snd_blt {b : Bl} {p : Pos} (hc0 : X.calm = true) (C : Ctx X L G cf k) (hg : Gl X (nmB b)) (h1 : star1 e = false) (ha : ∀ ds, SndE X L F e ds (evE G cf ce ds)) : SndE X L F (.Call (.Name (nmB b) p) [e] [] pos) ds (evE G cf (.bl b ce) ds) := by
  intro σ H ts tcs Q s q
  refine we_blt1 hg C.bn h1 (ha ds σ H ts tcs _ s (After.of q id (by first | exact fun _ _ h => h | exact fun _ _ h => Tk.up h | exact fun _ _ h => Tk.up (Tk.up h) | exact fun _ _ h => Tk.upN (by assumption) h) fun rv ds1 q v H1 s1 => ?_))
  have q' : After X L F σ ts tcs Q ((pp G rv ds1).bind fun x => opt (blD b x.1) x.2) := q
  unfold pp at q'
  cases e : pkR G.fl rv ds1 with
  | none => rw [e] at q'; exact q'.elim
  | some d =>
    rw [e] at q'
    exact bl_ok hc0 C s1 (by rw [C.hL]; exact e) q'
/-! of two -/
def nm2 : Bl2 → Str
  | .max => "max" | .min => "min"
theorem snd_bl2 {b : Bl2} {e2 : Expr} {c2 : CE} {p : Pos} (hc0 : X.calm = true) (C : Ctx X L G cf k) (hg : Gl X (nm2 b)) (h1 : star1 e = false) (h2 : star1 e2 = false) (ha : ∀ ds, SndE X L F e ds (evE G cf ce ds)) (hb : ∀ ds, SndE X L F e2 ds (evE G cf c2 ds)) :
    SndE X L F (.Call (.Name (nm2 b) p) [e, e2] [] pos) ds (evE G cf (.bl2 b ce c2) ds) := by
  intro σ H ts tcs Q s q
  have fin : ∀ (u : Value), (∀ d d2 v v2 H2 ds2, SD X.K L F H2 σ ds2 (v2 :: v :: ts) (.im d2 :: .im d :: tcs) → After X L F σ ts tcs Q (opt (bl2D b d d2) ds2) → W1 X u σ [v, v2] H2 Q) → WA X [e, e2] σ H fun vs H1 => W1 X u σ vs H1 Q := by
    intro u h
    refine wa (pa_cons pe_we (pa_cons pe_we pa_nil (starEach_cons h2)) (starEach_cons h1)) ?_
    exact (ha ds).v C.hL s (AfterV.of q id (by first | exact fun _ _ h => h | exact fun _ _ h => Tk.up h | exact fun _ _ h => Tk.up (Tk.up h) | exact fun _ _ h => Tk.upN (by assumption) h) fun d ds1 q v H1 s1 => (hb ds1).v C.hL s1 (AfterV.of q id (by first | exact fun _ _ h => h | exact fun _ _ h => Tk.up h | exact fun _ _ h => Tk.up (Tk.up h) | exact fun _ _ h => Tk.upN (by assumption) h) fun d2 ds2 q v2 H2 s2 => h d d2 v v2 H2 ds2 s2 q))
  cases b with
  | max =>
    refine we_blt hg (C.bn _ (by decide +kernel)) (by decide +kernel : bootBuiltins "max" = some (.builtin "max")) (.inl ⟨_, rfl⟩) (by decide +kernel) (by decide +kernel) h1 (by simp [h2]) (fin _ fun d d2 v v2 H2 ds2 s2 q2 => ?_)
    cases d with
    | int i => cases d2 with
      | int j =>
        obtain rfl := im_int s2.pop.top
        obtain rfl := im_int s2.top
        exact w1 (call_max2 hc0) ⟨i, j, rfl, q2 _ _ (s2.pop.pop.push fun _ => .int _)⟩
      | _ => exact q2.elim
    | _ => cases d2 <;> exact q2.elim
  | min =>
    refine we_blt hg (C.bn _ (by decide +kernel)) (by decide +kernel : bootBuiltins "min" = some (.builtin "min")) (.inl ⟨_, rfl⟩) (by decide +kernel) (by decide +kernel) h1 (by simp [h2]) (fin _ fun d d2 v v2 H2 ds2 s2 q2 => ?_)
    cases d with
    | int i => cases d2 with
      | int j =>
        obtain rfl := im_int s2.pop.top
        obtain rfl := im_int s2.top
        exact w1 (call_min2 hc0) ⟨i, j, rfl, q2 _ _ (s2.pop.pop.push fun _ => .int _)⟩
      | _ => exact q2.elim
    | _ => cases d2 <;> exact q2.elim
/-! isinstance -/
/-- a class by its name -/
def ClN (X : Cx) (L : Kl) (x : Str) (c : Cl) : Prop := match c with
  | .bt b => Gl X x ∧ X.mg x = none ∧ bootBuiltins x = some (.type (btN b)) ∧ x ≠ "__name__" ∧ (x == ("__debug__" : Str)) = false
  | .own c => Gl X x ∧ X.mg x = some (.ref (L.ad c)) ∧ (x == ("__debug__" : Str)) = false
theorem ClN.pe {x : Str} {c : Cl} {p : Pos} (h : ClN X L x c) : ∃ cv, ClsV cv (clV L c) ∧ PE X (.Name x p) (tC cv) := by
  cases c with
  | bt b =>
    obtain ⟨h1, h2, h3, h4, h5⟩ := h
    exact ⟨.ty (btN b), .ty _, pe_bltn h1 h2 h3 rfl h4 h5⟩
  | own c =>
    obtain ⟨h1, h2, h3⟩ := h
    exact ⟨.ref (L.ad c), .own _, pe_glob h1 h2 rfl h3⟩
theorem snd_isi {x : Str} {c : Cl} {p p2 : Pos} (C : Ctx X L G cf k) (hg : Gl X "isinstance") (hn : ClN X L x c) (h1 : star1 e = false) (ha : ∀ ds, SndE X L F e ds (evE G cf ce ds)) :
    SndE X L F (.Call (.Name "isinstance" p) [e, .Name x p2] [] pos) ds (evE G cf (.isi ce c) ds) := by
  intro σ H ts tcs Q s q
  obtain ⟨cv, hc, hp⟩ := hn.pe (p := p2)
  refine we_blt hg (C.bn _ (by decide +kernel)) (by decide +kernel : bootBuiltins "isinstance" = some (.builtin "isinstance")) (.inl ⟨_, rfl⟩) (by decide +kernel) (by decide +kernel) h1 rfl ?_
  refine wa (pa_cons pe_we (pa_cons hp pa_nil rfl) (starEach_cons h1)) (ha ds σ H ts tcs _ s (After.of q id (by first | exact fun _ _ h => h | exact fun _ _ h => Tk.up h | exact fun _ _ h => Tk.up (Tk.up h) | exact fun _ _ h => Tk.upN (by assumption) h) fun rv ds1 q v H1 s1 => ?_))
  have q' : After X L F σ ts tcs Q ((pp G rv ds1).bind fun x => opt ((isD G.nc x.1 c).map fun b => .val (.bl b)) x.2) := q
  unfold pp at q'
  cases e : pkR G.fl rv ds1 with
  | none => rw [e] at q'; exact q'.elim
  | some d =>
    rw [e] at q'
    have q2 : After X L F σ ts tcs Q (opt ((isD G.nc d c).map fun b => .val (.bl b)) ds1) := q'
    rw [← C.hL] at e
    obtain ⟨im, s0⟩ := Has.im (vs := []) (dvs := []) rfl s1 e
    cases hi : isD G.nc d c with
    | none => rw [hi] at q2; exact q2.elim
    | some b =>
      rw [hi] at q2
      refine w1 call_isi ⟨v, cv, tyD L d, clV L c, b, rfl, hc, im.ty (fun c' l hd => ?_) (fun n hd => ?_), C.is1 d c b hi, q2 _ _ (SD.push (ts := ts) (tcs := tcs) s0 fun _ => .bl _)⟩
      · subst hd
        refine C.kty c' ?_
        cases c with
        | bt b' =>
          by_cases h : c' < G.nc
          · exact h
          · have : isD G.nc (.obj c' l) (.bt b') = none := if_neg h
            rw [this] at hi
            cases hi
        | own c2 =>
          by_cases h : c' < G.nc ∧ c2 < G.nc
          · exact h.1
          · have : isD G.nc (.obj c' l) (.own c2) = none := if_neg h
            rw [this] at hi
            cases hi
      · subst hd
        cases c <;> cases hi
end
end Ev
/-! E10: subscripts, slices, repetition, methods of texts. -/
namespace Ev
open PySem PySem.Spec PyProof.Rows L2 Sg
section
variable {X : Cx} {L : Kl} {F : Fm} {G : Gm} {cf : CallF} {k : Nat} {ds : List Cell} {σ : L2.St} {H : Hp} {ts vs : List V} {tcs : List Cell} {dvs : List Dt} {Q : VK} {a b c e : Expr} {pos : Pos} {ca cb cc ce : CE}
/-! e[k] -/
def notSlice : Expr → Bool
  | .Slice _ _ _ _ => false
  | _ => true
theorem plainIx_of (h : notSlice b = true) : PlainIx b := by
  cases b <;> first | exact fun _ _ => rfl | cases h
theorem we_ix (hs : PlainIx b) (h : WE X a σ H fun x H1 => WE X b σ H1 fun y H2 => ∃ r, IxR X r ∧ r x y H2 Q) : WE X (.Subscript a b pos) σ H Q := by
  intro pins s I
  refine Subscript_ (thn (h pins s I) fun v s1 ⟨x, H1, I1, r1, q1⟩ => thn (q1 pins s1 I1) fun u s2 ⟨y, H2, I2, r2, r, hr, q2⟩ => ?_)
  exact hr a b pins s2 σ H2 x y v u Q I2 r1 r2 q2 (hs _ _)
theorem Ims.atI {K : PySem.W.Frag} {xs : List V} {l : List Dt} {d : Dt} {i : Int} (r : Ims K L H xs l) (h : L2.atI l i = some d) : ∃ v, L2.atI xs i = some v ∧ Im K L H v d := by
  unfold L2.atI at h ⊢
  rw [r.length]
  cases e : ixN l.length i with
  | none =>
    rw [e] at h
    cases h
  | some k =>
    rw [e] at h
    exact r.get h
theorem atI_map {α β : Type} {f : α → β} {l : List α} {i : Int} : L2.atI (l.map f) i = (L2.atI l i).map f := by
  unfold L2.atI
  rw [List.length_map]
  cases ixN l.length i with
  | none => rfl
  | some k => show (l.map f)[k]? = (l[k]?).map f; rw [List.getElem?_map]
theorem ix_ok {rv : RV} {d d2 r0 : Dt} {v y : V} (hL : L.fl = G.fl) (s : Has X.K L F H σ ds [y] [d2] v ts tcs rv) (e : pkR L.fl rv ds = some d) (er : ixD d d2 = some r0) (q : ∀ w, SD X.K L F H σ ds (w :: ts) (.im r0 :: tcs) → Q w H) : ∃ r, IxR X r ∧ r v y H Q := by
  cases d with
  | lst l =>
    cases d2 with
    | int i =>
      have er' : L2.atI l i = some r0 := er
      obtain ⟨p, xs, rfl, sq, hx, s1⟩ := Has.items (vs := [y]) (dvs := [.int i]) rfl s e
      have hy : y = .int i := im_int (SD.top s1)
      subst hy
      have s2 : SD X.K L F H σ ds (xs ++ ts) (l.map Cell.im ++ tcs) := SD.pop s1
      obtain ⟨os, n, hd, tl, x, yy⟩ := s2.cut hx
      obtain ⟨w, ew, iw⟩ := Ims.atI x er'
      exact ⟨_, ix_list, p, xs, i, w, rfl, rfl, sq, ew, q w (SD.glue (vs := [w]) (dvs := [r0]) s2.ok s2.ext s2.tin n hd tl (.cons iw .nil) yy)⟩
    | _ => cases er
  | tup l =>
    cases d2 with
    | int i =>
      have er' : L2.atI l i = some r0 := er
      obtain ⟨p, xs, rfl, sq, hx, s1⟩ := Has.itemsT (vs := [y]) (dvs := [.int i]) rfl s e
      have hy : y = .int i := im_int (SD.top s1)
      subst hy
      have s2 : SD X.K L F H σ ds (xs ++ ts) (l.map Cell.im ++ tcs) := SD.pop s1
      obtain ⟨os, n, hd, tl, x, yy⟩ := s2.cut hx
      obtain ⟨w, ew, iw⟩ := Ims.atI x er'
      exact ⟨_, ix_tup, p, xs, i, w, rfl, rfl, sq, ew, q w (SD.glue (vs := [w]) (dvs := [r0]) s2.ok s2.ext s2.tin n hd tl (.cons iw .nil) yy)⟩
    | _ => cases er
  | str x =>
    cases d2 with
    | int i =>
      obtain ⟨im, s1⟩ := Has.im (vs := [y]) (dvs := [.int i]) rfl s e
      have hy : y = .int i := im_int (SD.top s1)
      subst hy
      obtain rfl := im_str im
      have er' : (if szB x.length then (L2.atI x i).map fun c => Dt.str [c] else none) = some r0 := er
      split at er'
      · rename_i hz
        obtain ⟨c, hc, rfl⟩ := Option.map_eq_some_iff.mp er'
        exact ⟨_, ix_str, mkS x, i, c, rfl, rfl, by rw [mkS_len]; exact szB_le hz, by rw [mkS_toList]; exact hc, q _ (SD.push (SD.pop s1) fun _ => .str [c])⟩
      · cases er'
    | _ => cases er
  | _ => cases d2 <;> cases er
theorem snd_ix (hL : L.fl = G.fl) (hs : notSlice b = true) (ha : ∀ ds, SndE X L F a ds (evE G cf ca ds)) (hb : ∀ ds, SndE X L F b ds (evE G cf cb ds)) : SndE X L F (.Subscript a b pos) ds (evE G cf (.ix ca cb) ds) := by
  intro σ H ts tcs Q s q
  refine we_ix (plainIx_of hs) (ha ds σ H ts tcs _ s (After.of q id (by first | exact fun _ _ h => h | exact fun _ _ h => Tk.up h | exact fun _ _ h => Tk.up (Tk.up h) | exact fun _ _ h => Tk.upN (by assumption) h) fun rv ds1 q v H1 s1 => ?_))
  have go : ∀ ts' tcs', (∀ r ds, Tk X L F σ ts tcs r ds → Tk X L F σ ts' tcs' r ds) → SD X.K L F H1 σ ds1 ts' tcs' → (∀ y d2 H2 ds2, SD X.K L F H2 σ ds2 (y :: ts') (.im d2 :: tcs') → Has X.K L F H2 σ ds2 [y] [d2] v ts tcs rv) → WE X b σ H1 fun y H2 => ∃ r, IxR X r ∧ r v y H2 Q := by
    intro ts' tcs' up s' f
    refine (hb ds1).v hL s' (AfterV.of q id (fun r ds h => up r ds h) fun d2 ds2 q y H2 s2 => ?_)
    have q' : After X L F σ ts tcs Q ((pp G rv ds2).bind fun x => opt ((ixD x.1 d2).map .val) x.2) := q
    unfold pp at q'
    cases e : pkR G.fl rv ds2 with
    | none => rw [e] at q'; exact q'.elim
    | some d =>
      rw [e] at q'
      have q2 : After X L F σ ts tcs Q (opt ((ixD d d2).map .val) ds2) := q'
      cases er : ixD d d2 with
      | none => rw [er] at q2; exact q2.elim
      | some r0 =>
        rw [er] at q2
        exact ix_ok (G := G) hL (f y d2 H2 ds2 s2) (by rw [hL]; exact e) er fun w s3 => q2 w H2 s3
  cases rv with
  | val d => exact go (v :: ts) (.im d :: tcs) (fun _ _ => Tk.up) s1 fun y d2 H2 ds2 s2 => s2
  | new o => exact go (v :: ts) (.own false o :: tcs) (fun _ _ => Tk.up) s1 fun y d2 H2 ds2 s2 => s2
  | ali i => exact go ts tcs (fun _ _ h => h) s1.2 fun y d2 H2 ds2 s2 => ⟨s1.1, s2⟩
/-! slices -/
def WO (X : Cx) (e : Option Expr) : TO := fun σ H Q => ∀ (pins : List (Addr × Obj)) (s : Shared), Inv X pins σ H s →
  wpAny (model X.prog X.w) X.A (evalPart e X.env) (fun u s' => ∃ o H', Inv X pins σ H' s' ∧ IsPart u o ∧ Q o H') X.xe s
theorem we_sl {lo hi : Option Expr} {p2 : Pos} (h : WE X a σ H fun x H1 => WO X lo σ H1 fun i H2 => WO X hi σ H2 fun j H3 => ∃ r, SlR X r ∧ r x i j H3 Q) : WE X (.Subscript a (.Slice lo hi none p2) pos) σ H Q := by
  intro pins s I
  refine Subscript_ (thn (h pins s I) fun v s1 ⟨x, H1, I1, r1, q1⟩ => ?_)
  refine wpAny_Slice (thn (q1 pins s1 I1) fun vl s2 ⟨l, H2, I2, pl, q2⟩ => thn (q2 pins s2 I2) fun vu s3 ⟨u, H3, I3, pu, r, hr, q3⟩ => ?_)
  rw [evalPart_none]
  refine wpAny_pure ?_
  have I4 : Inv X pins σ H3 { s3 with heap := s3.heap.push { cls := .type "slice", data := .fields #[vl, vu, .none] } } := I3.kept (t' := s3.toks) fun b ob q => Heap.get?_push_of_some _ q
  obtain ⟨T, id, hT, ht, hg⟩ := hr pins { s3 with heap := s3.heap.push { cls := .type "slice", data := .fields #[vl, vu, .none] } } σ H3 x v vl vu l u s3.heap.objs.size Q I4 r1 (Heap.IsSliceOf.new ..) pl pu q3
  show wpAny (model X.prog X.w) X.A (subscriptTail a (.Slice lo hi none p2) v (.ref s3.heap.objs.size)) (EP X pins σ Q) X.xe { s3 with heap := s3.heap.push { cls := .type "slice", data := .fields #[vl, vu, .none] } }
  exact tail_any (ops := [.ref s3.heap.objs.size, v]) ht hT hg (by with_unfolding_all rfl)
/-- a slice's part comes to .. -/
def SndO (X : Cx) (L : Kl) (F : Fm) (e : Option Expr) (ds : List Cell) (r : Res (Option Int × List Cell)) : Prop := ∀ σ H ts tcs Q, SD X.K L F H σ ds ts tcs → After0 X L F σ ts tcs Q r → WO X e σ H Q
theorem sno_none : SndO X L F none ds (partR .nil (vv G (evE G cf .nil ds)) ds) := fun σ H ts tcs Q s q pins st I => po_none.run pins st σ H Q I (q H s)
theorem sno_some (hL : L.fl = G.fl) (hn : ca ≠ .nil) (ha : ∀ ds, SndE X L F a ds (evE G cf ca ds)) : SndO X L F (some a) ds (partR ca (vv G (evE G cf ca ds)) ds) := by
  intro σ H ts tcs Q s q pins st I
  have e : partR ca (vv G (evE G cf ca ds)) ds = ((vv G (evE G cf ca ds)).bind asInt).bind fun x => .ok (some x.1, x.2) := by
    cases ca <;> first | rfl | exact absurd rfl hn
  rw [e] at q
  refine (po_some pe_we).run pins st σ H Q I ?_
  exact (ha ds).v hL s (AfterV.int q id (by first | exact fun _ _ h => h | exact fun _ _ h => Tk.up h | exact fun _ _ h => Tk.up (Tk.up h) | exact fun _ _ h => Tk.upN (by assumption) h) fun i ds1 q H1 s1 => ⟨i, rfl, q H1 s1⟩)
theorem Ims.cut {K : PySem.W.Frag} {vs : List V} {l : List Dt} {i j : Option Int} (r : Ims K L H vs l) : Ims K L H (cutV vs i j) (cutD l i j) := by
  unfold cutV cutD cutN
  rw [r.length]
  exact (r.drop _).take _
theorem sl_ok {rv : RV} {d : Dt} {v : V} {i j : Option Int} (s : Has X.K L F H σ ds [] [] v ts tcs rv) (e : pkR L.fl rv ds = some d) (q : After X L F σ ts tcs Q (opt (slD d i j) ds)) : ∃ r, SlR X r ∧ r v i j H Q := by
  cases d with
  | lst l =>
    obtain ⟨p, xs, rfl, sq, hx, s1⟩ := Has.items (vs := []) (dvs := []) rfl s e
    have s1' : SD X.K L F H σ ds (xs ++ ts) (l.map Cell.im ++ tcs) := s1
    exact ⟨_, sl_list, p, xs, rfl, sq, fun p hp => q _ _ (s1'.new hx hp fun _ r => .lst r.cut)⟩
  | tup l =>
    obtain ⟨p, xs, rfl, sq, hx, s1⟩ := Has.itemsT (vs := []) (dvs := []) rfl s e
    have s1' : SD X.K L F H σ ds (xs ++ ts) (l.map Cell.im ++ tcs) := s1
    refine ⟨_, sl_tupA, p, xs, rfl, sq, fun hw => ?_, fun _ p hp => q _ _ (s1'.newIm hx hp fun _ hh r => .tup (SqT.of hh) r.cut)⟩
    -- the whole of it: the tuple itself
    have hl : cutD l i j = l := by
      show cutN l i j = l
      unfold cutN
      rw [← hx, hw.1, hw.2, List.drop_zero, Nat.sub_zero, hx, List.take_length]
    have q' : After X L F σ ts tcs Q (okR (.tup (cutD l i j)) ds) := q
    rw [hl] at q'
    refine q' _ _ ?_
    cases rv with
    | val d' =>
      obtain rfl : d' = .tup l := by simpa [pkR] using e
      exact s
    | new o =>
      cases o with
      | lst l' => cases e
      | ins c ns l' => simp only [pkR, OD.frz] at e; split at e <;> cases e
      | dct ks l' => cases e
    | ali i =>
      have e' : (match ds[i]? with | some (.own _ o) => o.frz L.fl | _ => none) = some (.tup l) := e
      cases ei : ds[i]? with
      | none => rw [ei] at e'; cases e'
      | some c =>
        rw [ei] at e'
        cases c with
        | free => cases e'
        | im d => cases e'
        | own b o =>
          cases o with
          | lst l' => cases e'
          | ins c ns l' => simp only [OD.frz] at e'; split at e' <;> cases e'
          | dct ks l' => cases e'
  | str x =>
    obtain ⟨im, s1⟩ := Has.im (vs := []) (dvs := []) rfl s e
    obtain rfl := im_str im
    have q' : After X L F σ ts tcs Q (opt (okV (szB x.length) (.str (cutN x i j))) ds) := q
    cases hz : szB x.length with
    | true =>
      rw [hz] at q'
      have e : cutS (mkS x) i j = mkS (cutN x i j) := by
        unfold cutS cutN
        rw [mkS_toList, mkS_len]
        rfl
      exact ⟨_, sl_str, mkS x, rfl, by rw [mkS_len]; exact szB_le hz, by rw [e]; exact q' _ _ (SD.push (ts := ts) (tcs := tcs) s1 fun _ => .str _)⟩
    | false =>
      rw [hz] at q'
      exact q'.elim
  | _ => exact q.elim
theorem snd_sl {lo hi : Option Expr} {p2 : Pos} {cl ch : CE} (hL : L.fl = G.fl) (ha : ∀ ds, SndE X L F a ds (evE G cf ca ds)) (hl : ∀ ds, SndO X L F lo ds (partR cl (vv G (evE G cf cl ds)) ds)) (hh : ∀ ds, SndO X L F hi ds (partR ch (vv G (evE G cf ch ds)) ds)) :
    SndE X L F (.Subscript a (.Slice lo hi none p2) pos) ds (evE G cf (.sl ca cl ch) ds) := by
  intro σ H ts tcs Q s q
  refine we_sl (ha ds σ H ts tcs _ s (After.of q id (by first | exact fun _ _ h => h | exact fun _ _ h => Tk.up h | exact fun _ _ h => Tk.up (Tk.up h) | exact fun _ _ h => Tk.upN (by assumption) h) fun rv ds1 q v H1 s1 => ?_))
  have go : ∀ ts' tcs', (∀ r ds, Tk X L F σ ts tcs r ds → Tk X L F σ ts' tcs' r ds) → SD X.K L F H1 σ ds1 ts' tcs' → (∀ H2 ds2, SD X.K L F H2 σ ds2 ts' tcs' → Has X.K L F H2 σ ds2 [] [] v ts tcs rv) → WO X lo σ H1 fun i H2 => WO X hi σ H2 fun j H3 => ∃ r, SlR X r ∧ r v i j H3 Q := by
    intro ts' tcs' up s' f
    refine hl ds1 σ H1 ts' tcs' _ s' (After0.of q id (fun r ds h => up r ds h) fun i ds2 q H2 s2 => hh ds2 σ H2 ts' tcs' _ s2 (After0.of q id (fun r ds h => up r ds h) fun j ds3 q H3 s3 => ?_))
    have q' : After X L F σ ts tcs Q ((pp G rv ds3).bind fun x => opt (slD x.1 i j) x.2) := q
    unfold pp at q'
    cases e : pkR G.fl rv ds3 with
    | none => rw [e] at q'; exact q'.elim
    | some d =>
      rw [e] at q'
      exact sl_ok (f H3 ds3 s3) (by rw [hL]; exact e) q'
  cases rv with
  | val d => exact go (v :: ts) (.im d :: tcs) (fun _ _ => Tk.up) s1 fun H2 ds2 s2 => s2
  | new o => exact go (v :: ts) (.own false o :: tcs) (fun _ _ => Tk.up) s1 fun H2 ds2 s2 => s2
  | ali i => exact go ts tcs (fun _ _ h => h) s1.2 fun H2 ds2 s2 => ⟨s1.1, s2⟩
/-! [..] * n -/
theorem After.new {β : Type} {x : RE} {f : List Dt × List Cell → Res β} {Z : Res β → Prop} (q : Z ((x.bind asNew).bind f)) (hno : Z .no → False) (her : ∀ r ds, Z (.er r ds) → Tk X L F σ ts tcs r ds)
    (kk : ∀ l ds', Z (f (l, ds')) → ∀ p H, SD X.K L F H σ ds' (.ref p :: ts) (.own false (.lst l) :: tcs) → Q (.ref p) H) : After X L F σ ts tcs Q x := by
  rw [bind_assoc] at q
  refine After.of q hno her fun rv ds' q v H s => ?_
  cases rv with
  | val d => exact (hno q).elim
  | ali i => exact (hno q).elim
  | new o =>
    cases o with
    | lst l =>
      have s' : SD X.K L F H σ ds' (v :: ts) (.own false (.lst l) :: tcs) := s
      obtain ⟨p, h, rfl, -⟩ := SD.ownT (vs := []) (dvs := []) rfl s'
      exact kk l ds' q p H s'
    | _ => exact (hno q).elim
theorem snd_rep (hL : L.fl = G.fl) (ha : ∀ ds, SndE X L F a ds (evE G cf ca ds)) (hb : ∀ ds, SndE X L F b ds (evE G cf cb ds)) : SndE X L F (.BinOp a .Mult b pos) ds (evE G cf (.rep ca cb) ds) := by
  intro σ H ts tcs Q s q
  refine we_bin (ha ds σ H ts tcs _ s (After.new q id (by first | exact fun _ _ h => h | exact fun _ _ h => Tk.up h | exact fun _ _ h => Tk.up (Tk.up h) | exact fun _ _ h => Tk.upN (by assumption) h) fun l ds1 q p H1 s1 => (hb ds1).v hL s1 (AfterV.int q id (by first | exact fun _ _ h => h | exact fun _ _ h => Tk.up h | exact fun _ _ h => Tk.up (Tk.up h) | exact fun _ _ h => Tk.upN (by assumption) h) fun n ds2 q H2 s2 => ?_)))
  obtain ⟨p', h, hp', hh, hx, f1, f2⟩ := SD.ownT (vs := []) (dvs := []) rfl s2
  obtain rfl : p = p' := by simpa using hp'
  cases hx with
  | lst r =>
    rename_i xs
    have q' : After X L F σ ts tcs Q (opt (okN (decide (-(2 ^ 63) ≤ n ∧ n < 2 ^ 63 ∧ l.length * n.toNat ≤ sizeLine)) (List.replicate n.toNat l).flatten) ds2) := q
    by_cases hz : -(2 ^ 63) ≤ n ∧ n < 2 ^ 63 ∧ l.length * n.toNat ≤ sizeLine
    · rw [decide_eq_true hz] at q'
      refine w2 op_rep ⟨p, n, xs, rfl, rfl, hh, hz.1, hz.2.1, by rw [r.length]; exact hz.2.2, fun p3 hp => q' _ _ ?_⟩
      have s3 : SD X.K L F H2 σ ds2 (xs ++ ts) (l.map Cell.im ++ tcs) := by
        obtain ⟨a', xs', e1, sq', hl', s4⟩ := Has.items (rv := .new (.lst l)) (vs := []) (dvs := []) (l := l) (v := .ref p) (ts := ts) (tcs := tcs) rfl s2 rfl
        have s5 := f1 xs l fun Hh _ o _ => by cases o with | lst q => exact q
        exact (Has.im (rv := .new (.lst l)) (d := .lst l) (vs := xs) (dvs := l) r.length s5 rfl).2
      exact s3.new r.length hp fun Hh r => .lst (by
        generalize n.toNat = n
        induction n with
        | zero => exact .nil
        | succ n ih => rw [List.replicate_succ, List.replicate_succ, List.flatten_cons, List.flatten_cons]; exact r.append ih)
    · rw [decide_eq_false hz] at q'
      exact q'.elim
/-! methods of texts -/
def noSuper : Expr → Bool
  | .Call (.Name id _) _ _ _ => id != "super"
  | _ => true
theorem base_of {m : Str} {env : Env} {w : Sem Value} (h : noSuper a = true) : attributeBase a m env w = w := by
  unfold attributeBase
  split
  · rename_i id p p2
    have h' : (id != "super") = true := h
    rw [show (id != ("super" : Str) || m == "__class__" || env.kindOf "super" != some .globalImplicit || env.kindOf "__class__" != some .free) = true by simp [h']]
    rw [if_pos rfl]
  · rfl
theorem mth_str {m : Mth} {d : Dt} {f : Res (List Dt × List Cell)} {g : List Dt × List Cell → RE} (hm : m ≠ .get) (q : After X L F σ ts tcs Q (if mthOk m d then f.bind g else .no)) : ∃ x, d = .str x ∧ After X L F σ ts tcs Q (f.bind g) := by
  cases h : mthOk m d with
  | false => rw [h] at q; exact q.elim
  | true =>
    rw [h] at q
    cases m <;> first | exact absurd rfl hm | (cases d <;> first | exact ⟨_, rfl, q⟩ | cases h)
theorem upC_eq (c : Nat) : upC c = PyProof.Rows.up1 c := by
  unfold upC PyProof.Rows.up1
  by_cases h : 97 ≤ c ∧ c ≤ 122
  · rw [if_pos h, if_pos (by rw [Bool.and_eq_true, Nat.ble_eq, Nat.ble_eq]; exact h)]
  · rw [if_neg h, if_neg (by rw [Bool.and_eq_true, Nat.ble_eq, Nat.ble_eq]; exact h)]
theorem loC_eq (c : Nat) : loC c = PyProof.Rows.lo1 c := by
  unfold loC PyProof.Rows.lo1
  by_cases h : 65 ≤ c ∧ c ≤ 90
  · rw [if_pos h, if_pos (by rw [Bool.and_eq_true, Nat.ble_eq, Nat.ble_eq]; exact h)]
  · rw [if_neg h, if_neg (by rw [Bool.and_eq_true, Nat.ble_eq, Nat.ble_eq]; exact h)]
theorem ascL_mem {x : List Nat} (h : ascL x = true) : ∀ c ∈ (mkS x).cps.toList, c < 128 := fun c hc => by
  rw [mkS_toList] at hc
  have := List.all_eq_true.mp h c hc
  rw [Nat.blt_eq] at this
  exact this
theorem upS {x : List Nat} (h : ascL x = true) : Txt.upper (mkS x) = mkS (x.map upC) := by
  rw [PyProof.Rows.upper_ascii (ascL_mem h), show upC = PyProof.Rows.up1 from funext upC_eq]
  simp [mkS]
theorem loS {x : List Nat} (h : ascL x = true) : Txt.lower (mkS x) = mkS (x.map loC) := by
  rw [PyProof.Rows.lower_ascii (ascL_mem h), show loC = PyProof.Rows.lo1 from funext loC_eq]
  simp [mkS]
theorem snd_m0 {m : Mth} {nm : Str} {apos : Pos} {g : List Nat → List Nat} {gS : Str → Str} (hL : L.fl = G.fl) (hm : ∀ x, mthD m (.str x) [] = okV (ascL x && Nat.ble x.length 5592405) (.str (g x))) (hg : ∀ x, ascL x = true → gS (mkS x) = mkS (g x)) (hm' : m ≠ .get)
    (hw : WE X a σ H (fun v H1 => (∃ x, v = .str x) ∧ ∃ x, v = .str x ∧ ([] : List V) = [] ∧ x.length ≤ 5592405 ∧ Q (.str (gS x)) H1) → WE X (.Call (.Attribute a nm apos) [] [] pos) σ H Q)
    (s : SD X.K L F H σ ds ts tcs) (q : After X L F σ ts tcs Q (evE G cf (.mth m ca .nil) ds)) (ha : ∀ ds, SndE X L F a ds (evE G cf ca ds)) : WE X (.Call (.Attribute a nm apos) [] [] pos) σ H Q := by
  refine hw ((ha ds).v hL s (AfterV.of q id (fun _ _ h => h) fun d ds1 q v H1 s1 => ?_))
  obtain ⟨x, rfl, q'⟩ := mth_str (f := evA G cf .nil ds1) hm' q
  have q' : After X L F σ ts tcs Q (opt (mthD m (.str x) []) ds1) := q'
  rw [hm x] at q'
  cases hb : ascL x && Nat.ble x.length 5592405 with
  | false => rw [hb] at q'; exact q'.elim
  | true =>
    rw [hb] at q'
    obtain ⟨b1, b2⟩ := Bool.and_eq_true _ _ |>.mp hb
    have e := im_str s1.top
    exact ⟨⟨mkS x, e⟩, mkS x, e, rfl, by rw [mkS_len]; exact Nat.le_of_ble_eq_true b2, by rw [hg x b1]; exact q' _ _ (s1.pop.push fun _ => .str _)⟩
theorem snd_upper {apos : Pos} (hL : L.fl = G.fl) (hs : noSuper a = true) (hline : (apos.endLine == pos.line) = true) (ha : ∀ ds, SndE X L F a ds (evE G cf ca ds)) : SndE X L F (.Call (.Attribute a "upper" apos) [] [] pos) ds (evE G cf (.mth .upper ca .nil) ds) := by
  intro σ H ts tcs Q s q
  exact snd_m0 (m := .upper) (g := List.map upC) (gS := Txt.upper) hL (fun x => rfl) (fun x => upS) (by decide) (fun w => we (L2.pe_upper pe_we (base_of hs) hline) w) s q ha
theorem snd_lower {apos : Pos} (hL : L.fl = G.fl) (hs : noSuper a = true) (hline : (apos.endLine == pos.line) = true) (ha : ∀ ds, SndE X L F a ds (evE G cf ca ds)) : SndE X L F (.Call (.Attribute a "lower" apos) [] [] pos) ds (evE G cf (.mth .lower ca .nil) ds) := by
  intro σ H ts tcs Q s q
  exact snd_m0 (m := .lower) (g := List.map loC) (gS := Txt.lower) hL (fun x => rfl) (fun x => loS) (by decide) (fun w => we (L2.pe_lower pe_we (base_of hs) hline) w) s q ha
theorem lenS_eq : ∀ ys : List (List Nat), ((ys.map mkS).map (·.length)).sum = lenS ys
  | [] => rfl
  | y :: r => by
    show (mkS y).length + ((r.map mkS).map (·.length)).sum = y.length + lenS r
    rw [lenS_eq r, mkS_len]
theorem joinS' (x : List Nat) (ys : List (List Nat)) : Txt.join (mkS x) (ys.map mkS) = mkS (glueL x ys) := (TL.join_eq _ _).trans (joinS x ys)
theorem joinOk_le {x : List Nat} {ys : List (List Nat)} (h : joinOk x ys = true) : ((ys.map mkS).map (·.length)).sum + (ys.map mkS).length * (mkS x).length ≤ 16777216 := by
  rw [lenS_eq, List.length_map, mkS_len]
  exact Nat.le_of_ble_eq_true h
theorem snd_join {apos : Pos} (hL : L.fl = G.fl) (hs : noSuper a = true) (h1 : star1 e = false) (hline : (apos.endLine == pos.line) = true) (ha : ∀ ds, SndE X L F a ds (evE G cf ca ds)) (he : ∀ ds, SndE X L F e ds (evE G cf ce ds)) :
    SndE X L F (.Call (.Attribute a "join" apos) [e] [] pos) ds (evE G cf (.mth .join ca (.cons ce .nil)) ds) := by
  intro σ H ts tcs Q s q
  refine we (pe_join pe_we pe_we (starEach_cons h1) (base_of hs) hline) ((ha ds).v hL s (AfterV.of q id (by first | exact fun _ _ h => h | exact fun _ _ h => Tk.up h | exact fun _ _ h => Tk.up (Tk.up h) | exact fun _ _ h => Tk.upN (by assumption) h) fun d ds1 q v H1 s1 => ?_))
  obtain ⟨x, rfl, q⟩ := mth_str (by decide) q
  have q' : After X L F σ ts tcs Q ((vv G (evE G cf ce ds1)).bind fun y => opt (mthD .join (.str x) [y.1]) y.2) := by
    have e : (evA G cf (.cons ce .nil) ds1).bind (fun l => opt (mthD .join (.str x) l.1) l.2) = (vv G (evE G cf ce ds1)).bind fun y => opt (mthD .join (.str x) [y.1]) y.2 := by
      show Res.bind (Res.bind (vv G (evE G cf ce ds1)) _) _ = _
      rw [bind_assoc]
      rfl
    rw [← e]
    exact q
  have e0 := im_str s1.top
  refine ⟨⟨mkS x, e0⟩, (he ds1).v hL s1 (AfterV.of q' id (by first | exact fun _ _ h => h | exact fun _ _ h => Tk.up h | exact fun _ _ h => Tk.up (Tk.up h) | exact fun _ _ h => Tk.upN (by assumption) h) fun d2 ds2 q y H2 s2 => ?_)⟩
  have fin : ∀ l, (opt (mthD .join (.str x) [d2]) ds2 = opt ((strs? l).bind fun ys => okV (joinOk x ys) (.str (glueL x ys))) ds2) → ∃ ys, strs? l = some ys ∧ joinOk x ys = true ∧ Q (.str (mkS (glueL x ys))) H2 := by
    intro l e
    rw [e] at q
    cases hi : strs? l with
    | none => rw [hi] at q; exact q.elim
    | some ys =>
      rw [hi] at q
      have q3 : After X L F σ ts tcs Q (opt (okV (joinOk x ys) (.str (glueL x ys))) ds2) := q
      cases hj : joinOk x ys with
      | false => rw [hj] at q3; exact q3.elim
      | true =>
        rw [hj] at q3
        exact ⟨ys, rfl, hj, q3 _ _ (s2.pop.pop.push fun _ => .str _)⟩
  have t2 := s2.top
  cases d2 with
  | lst l =>
    obtain ⟨ys, hi, hj, q3⟩ := fin l rfl
    cases t2 with
    | lst sq rr =>
      obtain ⟨rfl, -⟩ := ims_strs hi rr
      exact ⟨mkS x, _, ys.map mkS, e0, rfl, .inl (by rw [List.map_map]; exact sq), joinOk_le hj, by rw [joinS']; exact q3⟩
  | tup l =>
    obtain ⟨ys, hi, hj, q3⟩ := fin l rfl
    cases t2 with
    | tup sq rr =>
      obtain ⟨rfl, -⟩ := ims_strs hi rr
      exact ⟨mkS x, _, ys.map mkS, e0, rfl, .inr (by rw [List.map_map]; exact sq), joinOk_le hj, by rw [joinS']; exact q3⟩
  | _ => exact q.elim
end
end Ev
/-! E11: what is walked, targets, comprehensions. -/
namespace Ev
open PySem PySem.Spec PyProof.Rows L2 Sg
section
variable {K : PySem.W.Frag} {L : Kl} {F : Fm} {H H' Hh : Hp} {σ : L2.St} {ds : List Cell} {ts vs ws : List V} {tcs cs : List Cell} {dvs dws l : List Dt} {v : V} {d : Dt} {p : Addr} {h : HO} {o : OD} {i : Nat} {b : Bool} {c : Cell}
theorem SD.itemsL {j : Nat} (s : SD K L F H σ ds ts tcs) (e : tcs[j]? = some (.im (.lst l))) : ∃ a xs, ts[j]? = some (.ref a) ∧ SqL K H a xs ∧ xs.length = l.length ∧
    ∀ (i : Nat) (d : Dt), l[i]? = some d → ∃ x, xs[i]? = some x ∧ SD K L F H σ ds (x :: ts) (.im d :: tcs) := by
  obtain ⟨o1, o2, n, hd, s1, s2⟩ := s.slots
  obtain ⟨v, ev, im⟩ := s1.get e
  have ev' : ts[j]? = some v := by
    rw [List.getElem?_map] at ev
    simpa using ev
  cases im with
  | lst sq rr =>
    rename_i a xs
    refine ⟨a, xs, ev', ex_l hide_ex sq, rr.length, fun i d h => ?_⟩
    obtain ⟨x, ex, ix⟩ := rr.get h
    exact ⟨x, ex, s.ok, congrArg (· + 1) s.tl, s.ext, s.tin, _, n, hd, .im ix (s1.append s2)⟩
theorem SD.itemsT {j : Nat} (s : SD K L F H σ ds ts tcs) (e : tcs[j]? = some (.im (.tup l))) : ∃ a xs, ts[j]? = some (.ref a) ∧ SqT K H a xs ∧ xs.length = l.length ∧
    ∀ (i : Nat) (d : Dt), l[i]? = some d → ∃ x, xs[i]? = some x ∧ SD K L F H σ ds (x :: ts) (.im d :: tcs) := by
  obtain ⟨o1, o2, n, hd, s1, s2⟩ := s.slots
  obtain ⟨v, ev, im⟩ := s1.get e
  have ev' : ts[j]? = some v := by
    rw [List.getElem?_map] at ev
    simpa using ev
  cases im with
  | tup sq rr =>
    rename_i a xs
    refine ⟨a, xs, ev', ex_t hide_ex sq, rr.length, fun i d h => ?_⟩
    obtain ⟨x, ex, ix⟩ := rr.get h
    exact ⟨x, ex, s.ok, congrArg (· + 1) s.tl, s.ext, s.tin, _, n, hd, .im ix (s1.append s2)⟩
end
/-- an iterator J gives the data l, while kv lie among the temporaries -/
def Gives (K : PySem.W.Frag) (L : Kl) (J : It) (kv : List V) (kc : List Cell) (l : List Dt) : Prop :=
  ∀ (F : Fm) (as : List V) (cas : List Cell) (ts : List V) (tcs : List Cell) (i : Nat) (σ : L2.St) (ds : List Cell) (H : Hp), as.length = cas.length → SD K L F H σ ds (as ++ (kv ++ ts)) (cas ++ (kc ++ tcs)) →
    (l.length ≤ i → J.stop i H) ∧ ∀ d, l[i]? = some d → J.go i H ∧ ∀ x H', J.yld i H x H' → SD K L F H' σ ds (x :: (as ++ (kv ++ ts))) (.im d :: (cas ++ (kc ++ tcs)))
def WI (X : Cx) (tg it : Expr) : TI := fun σ H R => ∀ (pins : List (Addr × Obj)) (s : Shared), Inv X pins σ H s →
  wpAny (model X.prog X.w) X.A (eval it X.env) (fun v s1 => wpAny (model X.prog X.w) X.A (pyIter v) (PIE X pins σ tg R) X.xe s1) X.xe s
theorem pi_wi {X : Cx} {tg it : Expr} : PI X tg it (WI X tg it) := ⟨fun pins s σ H R I h => h pins s I⟩
theorem wi {X : Cx} {tg it : Expr} {σ : L2.St} {H : Hp} {R : It → Hp → Prop} {t : TI} (p : PI X tg it t) (h : t σ H R) : WI X tg it σ H R := fun pins s I => p.run pins s σ H R I h
def AfterI (X : Cx) (L : Kl) (F : Fm) (σ : L2.St) (ts : List V) (tcs : List Cell) (R : It → Hp → Prop) : Res (List Dt × List Cell) → Prop
  | .ok (l, ds) => ∀ J kv kc H, kv.length = kc.length → SD X.K L F H σ ds (kv ++ ts) (kc ++ tcs) → Gives X.K L J kv kc l → R J H
  | .er r ds => Tk X L F σ ts tcs r ds
  | .no => False
def SndI (X : Cx) (L : Kl) (F : Fm) (tg it : Expr) (ds : List Cell) (r : Res (List Dt × List Cell)) : Prop := ∀ σ H ts tcs R, SD X.K L F H σ ds ts tcs → AfterI X L F σ ts tcs R r → WI X tg it σ H R
section
variable {X : Cx} {L : Kl} {F : Fm} {G : Gm} {cf : CallF} {k : Nat} {ds : List Cell} {σ : L2.St} {H : Hp} {ts vs : List V} {tcs : List Cell} {dvs l : List Dt} {Q : VK} {a b c e tg it : Expr} {pos p : Pos} {ca cb cc ce : CE} {x : Str}
theorem midC {A B : List Cell} {c : Cell} : (A ++ (c :: B))[A.length]? = some c := by
  rw [List.getElem?_append_right (Nat.le_refl _), Nat.sub_self]
  rfl
theorem midV {A B : List V} {v : V} : (A ++ (v :: B))[A.length]? = some v := by
  rw [List.getElem?_append_right (Nat.le_refl _), Nat.sub_self]
  rfl
theorem gives_lst {K : PySem.W.Frag} {a : Addr} : Gives K L (Itl K a) [.ref a] [.im (.lst l)] l := by
  intro F as cas ts tcs i σ ds H hl s
  obtain ⟨a', ys, ea, sq, hy, kk⟩ := s.itemsL (j := cas.length) midC
  have : a' = a := by
    have h2 : (as ++ (([V.ref a] : List V) ++ ts))[cas.length]? = some (V.ref a) := hl ▸ midV
    rw [ea] at h2
    simpa using h2
  subst this
  refine ⟨fun hi => ⟨ys, sq, by omega⟩, fun d hd => ?_⟩
  obtain ⟨x, ex, s'⟩ := kk i d hd
  refine ⟨⟨ys, x, sq, ex⟩, fun z H' y => ?_⟩
  obtain ⟨rfl, f⟩ := y
  obtain rfl : x = z := Option.some.inj (ex.symm.trans (f ys sq))
  exact s'
theorem gives_tup {K : PySem.W.Frag} {a : Addr} : Gives K L (Itt K a) [.ref a] [.im (.tup l)] l := by
  intro F as cas ts tcs i σ ds H hl s
  obtain ⟨a', ys, ea, sq, hy, kk⟩ := s.itemsT (j := cas.length) midC
  have : a' = a := by
    have h2 : (as ++ (([V.ref a] : List V) ++ ts))[cas.length]? = some (V.ref a) := hl ▸ midV
    rw [ea] at h2
    simpa using h2
  subst this
  refine ⟨fun hi => ⟨ys, sq, by omega⟩, fun d hd => ?_⟩
  obtain ⟨x, ex, s'⟩ := kk i d hd
  refine ⟨⟨ys, x, sq, ex⟩, fun z H' y => ?_⟩
  obtain ⟨rfl, f⟩ := y
  obtain rfl : x = z := Option.some.inj (ex.symm.trans (f ys sq))
  exact s'
theorem rngs_get {lo : Int} {n k : Nat} {d : Dt} (h : (rngs lo n)[k]? = some d) : k < n ∧ d = .int (lo + (k : Int)) := by
  unfold rngs at h
  rw [List.getElem?_map] at h
  by_cases hk : k < n
  · rw [List.getElem?_range hk] at h
    exact ⟨hk, (Option.some.inj h).symm⟩
  · rw [List.getElem?_eq_none (by rw [List.length_range]; omega)] at h
    cases h
theorem rngs_len {lo : Int} {n : Nat} : (rngs lo n).length = n := by simp [rngs]
theorem gives_rng {K : PySem.W.Frag} {lo : Int} {n : Nat} : Gives K L (Itr lo n) [] [] (rngs lo n) := fun F as cas ts tcs i σ ds H hl s =>
  ⟨fun hi => by rw [rngs_len] at hi; exact hi, fun d hd => by
    obtain ⟨h1, rfl⟩ := rngs_get hd
    refine ⟨h1, fun x H' y => ?_⟩
    obtain ⟨rfl, rfl⟩ := y
    exact SD.push s fun _ => .int _⟩
/-- a list, a tuple, a text, to be walked: which of them is known ahead -/
theorem sni_val (hL : L.fl = G.fl) (ha : ∀ ds, SndE X L F e ds (evE G cf ce ds)) : SndI X L F tg e ds ((vv G (evE G cf ce ds)).bind asItems) := by
  intro σ H ts tcs R s q
  -- the rule by what the source comes to
  cases hv : vv G (evE G cf ce ds) with
  | no => rw [hv] at q; exact q.elim
  | er r ds' =>
    rw [hv] at q
    exact wi (pi_list pe_we) ((ha ds).v hL s (by rw [hv]; exact q))
  | ok x =>
    obtain ⟨d, ds1⟩ := x
    rw [hv] at q
    cases d with
    | lst l =>
      refine wi (pi_list pe_we) ((ha ds).v hL s (by
        rw [hv]
        intro v H1 s1
        obtain ⟨a, xs, rfl, sq, hx, -⟩ := SD.spreadL (vs := []) (dvs := []) rfl s1
        exact ⟨a, rfl, ⟨xs, sq⟩, q _ [.ref a] [.im (.lst l)] H1 rfl s1 gives_lst⟩))
    | tup l =>
      refine wi (pi_tup pe_we) ((ha ds).v hL s (by
        rw [hv]
        intro v H1 s1
        obtain ⟨a, xs, rfl, sq, hx, -⟩ := SD.spreadT (vs := []) (dvs := []) rfl s1
        exact ⟨a, rfl, ⟨xs, sq⟩, q _ [.ref a] [.im (.tup l)] H1 rfl s1 gives_tup⟩))
    | str x =>
      refine wi (pi_str pe_we) ((ha ds).v hL s (by
        rw [hv]
        intro v H1 s1
        refine ⟨mkS x, im_str s1.top, q _ [] [] H1 rfl s1.pop fun F as cas ts tcs i σ ds H hl s => ?_⟩
        refine ⟨fun hi => by show (mkS x).cps.size ≤ i; simpa [signs, mkS] using hi, fun d hd => ?_⟩
        unfold signs at hd
        rw [List.getElem?_map] at hd
        cases ec : x[i]? with
        | none =>
          rw [ec] at hd
          cases hd
        | some c =>
          rw [ec] at hd
          obtain rfl := Option.some.inj hd
          have ea : (mkS x).cps[i]? = some c := by simpa [mkS] using ec
          refine ⟨(Array.getElem?_eq_some_iff.mp ea).1, fun z H' y => ?_⟩
          obtain ⟨rfl, c', e1, rfl⟩ := y
          obtain rfl : c = c' := Option.some.inj (ea.symm.trans e1)
          exact SD.push s fun _ => .str [c]))
    | _ => exact q.elim
theorem okR_items {d : Dt} {ds : List Cell} : (vv G (okR d ds)).bind asItems = asItems (d, ds) := rfl
theorem sni_rng (hL : L.fl = G.fl) (hg : Gl X "range") (hm : ∀ x ∈ bnames, X.mg x = none) (h1 : star1 e = false) (ha : ∀ ds, SndE X L F e ds (evE G cf ce ds)) : SndI X L F tg (.Call (.Name "range" p) [e] [] pos) ds ((vv G (evE G cf (.rng ce) ds)).bind asItems) := by
  intro σ H ts tcs R s q
  have q' : AfterI X L F σ ts tcs R (((vv G (evE G cf ce ds)).bind asInt).bind fun x => if inR x.1 then .ok (rngs 0 x.1.toNat, x.2) else .no) := by
    have e' : (vv G (evE G cf (.rng ce) ds)).bind asItems = ((vv G (evE G cf ce ds)).bind asInt).bind fun x => if inR x.1 then .ok (rngs 0 x.1.toNat, x.2) else .no := by
      show Res.bind (Res.bind (Res.bind (Res.bind (vv G (evE G cf ce ds)) asInt) _) _) _ = _
      rw [bind_assoc, bind_assoc]
      congr 1
      funext x
      show Res.bind (if inR x.1 then okR (.lst (rngs 0 x.1.toNat)) x.2 else .no) _ = _
      split <;> rfl
    rw [← e']
    exact q
  refine wi (pi_range1 hg (hm _ (by decide +kernel)) (pa_cons pe_we pa_nil (starEach_cons h1)) (starEach_cons h1)) ((ha ds).v hL s (AfterV.int q' id (by first | exact fun _ _ h => h | exact fun _ _ h => Tk.up h | exact fun _ _ h => Tk.up (Tk.up h) | exact fun _ _ h => Tk.upN (by assumption) h) fun i ds1 q H1 s1 => ?_))
  by_cases hi : inR i = true
  · simp only [hi, if_true] at q
    exact ⟨i, rfl, (inR_of hi).1, (inR_of hi).2, q _ [] [] H1 rfl s1 gives_rng⟩
  · simp only [hi, if_false] at q
    exact q.elim
theorem sni_rng2 (hL : L.fl = G.fl) (hg : Gl X "range") (hm : ∀ x ∈ bnames, X.mg x = none) (h1 : star1 a = false) (h2 : star1 b = false) (ha : ∀ ds, SndE X L F a ds (evE G cf ca ds)) (hb : ∀ ds, SndE X L F b ds (evE G cf cb ds)) : SndI X L F tg (.Call (.Name "range" p) [a, b] [] pos) ds ((vv G (evE G cf (.rng2 ca cb) ds)).bind asItems) := by
  intro σ H ts tcs R s q
  have q' : AfterI X L F σ ts tcs R (((vv G (evE G cf ca ds)).bind asInt).bind fun x => ((vv G (evE G cf cb x.2)).bind asInt).bind fun y => if inR x.1 && inR y.1 then .ok (rngs x.1 (y.1 - x.1).toNat, y.2) else .no) := by
    have e' : (vv G (evE G cf (.rng2 ca cb) ds)).bind asItems = ((vv G (evE G cf ca ds)).bind asInt).bind fun x => ((vv G (evE G cf cb x.2)).bind asInt).bind fun y => if inR x.1 && inR y.1 then .ok (rngs x.1 (y.1 - x.1).toNat, y.2) else .no := by
      show Res.bind (Res.bind (Res.bind (Res.bind (vv G (evE G cf ca ds)) asInt) _) _) _ = _
      rw [bind_assoc, bind_assoc]
      congr 1
      funext x
      refine (bind_assoc _ _ _).trans ?_
      congr 1
      funext y
      show Res.bind (if (inR x.1 && inR y.1) then okR (.lst (rngs x.1 (y.1 - x.1).toNat)) y.2 else .no) _ = _
      split <;> rfl
    rw [← e']
    exact q
  refine wi (pi_range2 hg (hm _ (by decide +kernel)) (pa_cons pe_we (pa_cons pe_we pa_nil (starEach_cons h2)) (starEach_cons h1)) (by rw [starEach_cons h1, starEach_cons h2]; rfl) (by rw [starEach_cons h2]; rfl)) ?_
  refine (ha ds).v hL s (AfterV.int q' id (by first | exact fun _ _ h => h | exact fun _ _ h => Tk.up h | exact fun _ _ h => Tk.up (Tk.up h) | exact fun _ _ h => Tk.upN (by assumption) h) fun i ds1 q H1 s1 => (hb ds1).v hL (s1.push fun _ => .int i) (AfterV.int (ts := .int i :: ts) (tcs := .im (.int i) :: tcs) q id (by first | exact fun _ _ h => h | exact fun _ _ h => Tk.up h | exact fun _ _ h => Tk.up (Tk.up h) | exact fun _ _ h => Tk.upN (by assumption) h) fun j ds2 q H2 s2 => ?_))
  by_cases hi : (inR i && inR j) = true
  · simp only [hi, if_true] at q
    obtain ⟨h3, h4⟩ := Bool.and_eq_true _ _ |>.mp hi
    exact ⟨i, j, rfl, ⟨(inR_of h3).1, (inR_of h3).2, (inR_of h4).1, (inR_of h4).2⟩, q _ [] [] H2 rfl s2.pop gives_rng⟩
  · simp only [hi, if_false] at q
    exact q.elim
end
/-! ### targets -/
def WG (X : Cx) (tg : Expr) : TG := fun v σ H Q => ∀ (pins : List (Addr × Obj)) (s : Shared) (u : Value), Inv X pins σ H s → RelV v u →
  wpAny (model X.prog X.w) X.A (assign tg X.env u) (fun _ s' => ∃ σ' H', Inv X pins σ' H' s' ∧ Q σ' H') X.xe s
theorem pg_wg {X : Cx} {tg : Expr} : PG X tg (WG X tg) := ⟨fun pins s σ H v u Q I r h => h pins s u I r⟩
theorem wg {X : Cx} {tg : Expr} {v : V} {σ : L2.St} {H : Hp} {Q : L2.St → Hp → Prop} {t : TG} (p : PG X tg t) (h : t v σ H Q) : WG X tg v σ H Q := fun pins s u I r => p.run pins s σ H v u Q I r h
/-- a target takes the datum on top -/
def SndG (X : Cx) (L : Kl) (F : Fm) (tg : Expr) (is : List Nat) : Prop :=
  ∀ (σ : L2.St) (H : Hp) (v : V) (d : Dt) (ds ds' : List Cell) (ts : List V) (tcs : List Cell) (Q : L2.St → Hp → Prop), SD X.K L F H σ ds (v :: ts) (.im d :: tcs) → setTg ds is d = some ds' → (∀ i ∈ is, i < ds.length) →
    (∀ σ', wipe σ' is = wipe σ is → SD X.K L F H σ' ds' ts tcs → Q σ' H) → WG X tg v σ H Q
theorem wipe_set {x : Option V} : ∀ {is : List Nat} {σ : L2.St} {i : Nat}, i ∈ is → wipe (σ.set i x) is = wipe σ is
  | j :: is, σ, i, h => by
    show (wipe (σ.set i x) is).set j none = (wipe σ is).set j none
    by_cases hi : i ∈ is
    · rw [wipe_set hi]
    · have hj : i = j := (List.mem_cons.mp h).resolve_right hi
      subst hj
      have comm : ∀ (is : List Nat) (σ : L2.St), i ∉ is → wipe (σ.set i x) is = (wipe σ is).set i x := by
        intro is
        induction is with
        | nil => intro σ _; rfl
        | cons k ks ih =>
          intro σ hk
          show (wipe (σ.set i x) ks).set k none = ((wipe σ ks).set k none).set i x
          rw [ih σ fun z => hk (List.mem_cons_of_mem _ z), List.set_comm _ _ (show i ≠ k from fun z => hk (z ▸ List.mem_cons_self))]
      rw [comm is σ hi, List.set_set]
section
variable {X : Cx} {L : Kl} {F : Fm} {pos : Pos} {x y z : Str} {i j : Nat}
/-- a name's facts as a target -/
structure TgN (X : Cx) (x : Str) (i : Nat) : Prop where
  ix : X.N[i]? = some x
  loc : Loc X.env.scope x
  fn : X.fn x = true ∨ X.env.scope.names.lookup x = some .local
theorem TgN.pg (hN : X.N.Nodup) (h : TgN X x i) : PG X (.Name x pos) (gName i) := pg_name hN h.ix h.loc h.fn
theorem sng_name (hN : X.N.Nodup) (h : TgN X x i) : SndG X L F (.Name x pos) [i] := by
  intro σ H v d ds ds' ts tcs Q s e hi q
  refine wg (h.pg hN) ?_
  have e' : some (ds.set i (.im d)) = some ds' := e
  cases e'
  exact q _ (wipe_set (by simp)) (s.store (by simp) (hi i (by simp)))
def WGs (X : Cx) (es : List Expr) : TGs := fun vs σ H Q => ∀ (pins : List (Addr × Obj)) (s : Shared) (us : List Value), Inv X pins σ H s → Vals vs us →
  wpAny (model X.prog X.w) X.A (assignInOrder ((assignEach es X.env).map (·.2)) us) (fun _ s' => ∃ σ' H', Inv X pins σ' H' s' ∧ Q σ' H') X.xe s
theorem pgs_w {es : List Expr} : PGs X es (WGs X es) := ⟨fun pins s σ H vs us Q I r h => h pins s us I r⟩
def setAll (ds : List Cell) : List Nat → List Dt → List Cell
  | i :: is, d :: l => setAll (ds.set i (.im d)) is l
  | _, _ => ds
theorem setAll_eq : ∀ {is : List Nat} {l : List Dt} {ds : List Cell}, (is.zip l).foldl (fun ds p => ds.set p.1 (.im p.2)) ds = setAll ds is l
  | [], _, _ => by rw [List.zip_nil_left]; rfl
  | _ :: _, [], _ => rfl
  | i :: is, d :: l, ds => by
    show (is.zip l).foldl _ (ds.set i (.im d)) = _
    rw [setAll_eq]
    rfl
/-- names in a row, as targets -/
def SndGs (X : Cx) (L : Kl) (F : Fm) (es : List Expr) (is : List Nat) : Prop :=
  ∀ (σ : L2.St) (H : Hp) (vs : List V) (l : List Dt) (ds : List Cell) (ts : List V) (tcs : List Cell) (Q : L2.St → Hp → Prop), vs.length = l.length → is.length = l.length → SD X.K L F H σ ds (vs ++ ts) (l.map Cell.im ++ tcs) → (∀ i ∈ is, i < ds.length) →
    (∀ σ', (∀ js, (∀ i ∈ is, i ∈ js) → wipe σ' js = wipe σ js) → SD X.K L F H σ' (setAll ds is l) ts tcs → Q σ' H) → WGs X es vs σ H Q
theorem sngs_nil : SndGs X L F [] [] := by
  intro σ H vs l ds ts tcs Q hl hi s hd q pins st us I r
  cases l with
  | cons => simp at hi
  | nil =>
    cases vs with
    | cons => simp at hl
    | nil => exact pgs_nil.run pins st σ H [] us Q I r ⟨rfl, q σ (fun _ _ => rfl) s⟩
theorem sngs_cons {es : List Expr} {is : List Nat} (hN : X.N.Nodup) (h : TgN X x i) (hr : SndGs X L F es is) : SndGs X L F (.Name x pos :: es) (i :: is) := by
  intro σ H vs l ds ts tcs Q hl hi s hd q pins st us I r
  cases l with
  | nil => simp at hi
  | cons d l =>
    cases vs with
    | nil => simp at hl
    | cons v vs =>
      have s' : SD X.K L F H σ ds (v :: (vs ++ ts)) (.im d :: (l.map Cell.im ++ tcs)) := s
      have s1 := s'.store (i := i) (by simp) (hd i (by simp))
      refine (pgs_cons (h.pg hN) pgs_w rfl).run pins st σ H (v :: vs) us Q I r ⟨v, vs, rfl, ?_⟩
      show WGs X es vs (σ.set i (some v)) H Q
      refine hr (σ.set i (some v)) H vs l (ds.set i (.im d)) ts tcs Q (by simpa using hl) (by simpa using hi) s1 (fun j hj => by rw [List.length_set]; exact hd j (List.mem_cons_of_mem _ hj)) fun σ' hw s2 => q σ' (fun js hjs => ?_) s2
      rw [hw js fun j hj => hjs j (List.mem_cons_of_mem _ hj)]
      exact wipe_set (hjs i List.mem_cons_self)
/-- (a, b, ..) as a target -/
theorem sng_tup {es : List Expr} {is : List Nat} {kt : Nat} (hc : X.calm = true) (h2 : 2 ≤ is.length) (hr : SndGs X L F es is) (hn : (assignEach es X.env).length = is.length) (hst : (assignEach es X.env).findIdx? (·.1) = none) : SndG X L F (.Tuple es kt pos) is := by
  intro σ H v d ds ds' ts tcs Q s e hd q
  have e' : ∃ l, d = .tup l ∧ is.length = l.length ∧ ds' = setAll ds is l := by
    cases is with
    | nil => simp at h2
    | cons i is =>
      cases is with
      | nil => simp at h2
      | cons j is =>
        cases d with
        | tup l =>
          have e2 : (if (i :: j :: is).length = l.length then some (((i :: j :: is).zip l).foldl (fun ds p => ds.set p.1 (.im p.2)) ds) else none) = some ds' := e
          split at e2
          · rename_i hl
            cases e2
            exact ⟨l, rfl, hl, setAll_eq⟩
          · cases e2
        | _ => cases e
  obtain ⟨l, rfl, hl, rfl⟩ := e'
  obtain ⟨p, xs, rfl, sq, hx, s1⟩ := SD.spreadT (vs := []) (dvs := []) rfl s
  refine wg (pg_tup (t := WGs X es) hc pgs_w hn hst) ⟨p, xs, rfl, sq, by rw [hx, hl], ?_⟩
  exact hr σ H xs l ds ts tcs Q hx hl s1 hd fun σ' hw s2 => q σ' (hw is fun _ h => h) s2
end
end Ev
/-! E12: comprehensions. -/
namespace Ev
open PySem PySem.Spec PyProof.Rows L2 Sg
section
variable {K : PySem.W.Frag} {L : Kl} {F : Fm} {H H' Hh : Hp} {σ : L2.St} {ds : List Cell} {ts vs ws : List V} {tcs cs : List Cell} {i : Nat} {c : Cell}
theorem parked_len : ∀ {is : List Nat}, (parked ds is).length = ds.length
  | [] => rfl
  | i :: is => by
    show ((parked ds is).set i .free).length = _
    rw [List.length_set, parked_len]
theorem parked_other : ∀ {is : List Nat} {j : Nat}, j ∉ is → (parked ds is)[j]? = ds[j]?
  | [], _, _ => rfl
  | i :: is, j, h => by
    show ((parked ds is).set i .free)[j]? = _
    rw [List.getElem?_set_ne (show i ≠ j from fun z => h (z ▸ List.mem_cons_self)), parked_other fun z => h (List.mem_cons_of_mem _ z)]
theorem parked_set : ∀ {is : List Nat} {j : Nat} {c : Cell}, j ∉ is → parked (ds.set j c) is = (parked ds is).set j c
  | [], _, _, _ => rfl
  | i :: is, j, c, h => by
    show (parked (ds.set j c) is).set i .free = ((parked ds is).set i .free).set j c
    rw [parked_set fun z => h (List.mem_cons_of_mem _ z), List.set_comm _ _ (show j ≠ i from fun z => h (z ▸ List.mem_cons_self))]
theorem unparked_set {ds0 : List Cell} : ∀ {ds : List Cell} {is : List Nat} {j : Nat} {c : Cell}, j ∉ is → unparked ds0 (ds.set j c) is = (unparked ds0 ds is).set j c
  | _, [], _, _, _ => rfl
  | ds, i :: is, j, c, h => by
    have hi : i ≠ j := fun z => h (z ▸ List.mem_cons_self)
    have ih := unparked_set (ds0 := ds0) (ds := ds) (is := is) (j := j) (c := c) fun z => h (List.mem_cons_of_mem _ z)
    show (match ds0[i]? with | some c' => (unparked ds0 (ds.set j c) is).set i c' | none => unparked ds0 (ds.set j c) is) = (match ds0[i]? with | some c' => (unparked ds0 ds is).set i c' | none => unparked ds0 ds is).set j c
    cases ds0[i]? with
    | none => exact ih
    | some c' => show (unparked ds0 (ds.set j c) is).set i c' = ((unparked ds0 ds is).set i c').set j c; rw [ih, List.set_comm _ _ (Ne.symm hi)]
theorem wipe_other : ∀ {is : List Nat} {j : Nat}, j ∉ is → (L2.wipe σ is)[j]? = σ[j]?
  | [], _, _ => rfl
  | i :: is, j, h => by
    show ((L2.wipe σ is).set i none)[j]? = _
    rw [List.getElem?_set_ne (show i ≠ j from fun z => h (z ▸ List.mem_cons_self)), wipe_other fun z => h (List.mem_cons_of_mem _ z)]
theorem unparked_parked {ds0 : List Cell} : ∀ {is : List Nat}, is.Nodup → (∀ i ∈ is, i < ds0.length) → unparked ds0 (parked ds is) is = unparked ds0 ds is
  | [], _, _ => rfl
  | i :: is, hn, hi => by
    obtain ⟨n1, n2⟩ := List.nodup_cons.mp hn
    have hlt : i < ds0.length := hi i List.mem_cons_self
    have hc : ds0[i]? = some ds0[i] := List.getElem?_eq_getElem hlt
    show (match ds0[i]? with | some c' => (unparked ds0 ((parked ds is).set i .free) is).set i c' | none => unparked ds0 ((parked ds is).set i .free) is) = (match ds0[i]? with | some c' => (unparked ds0 ds is).set i c' | none => unparked ds0 ds is)
    rw [hc]
    show (unparked ds0 ((parked ds is).set i .free) is).set i _ = (unparked ds0 ds is).set i _
    rw [unparked_set n1, List.set_set, unparked_parked n2 fun j hj => hi j (List.mem_cons_of_mem _ hj)]
/-- what lies below the top is let go -/
theorem SD.dropMid {v : V} {c : Cell} {kv : List V} {kc : List Cell} (hk : kv.length = kc.length) (s : SD K L F H σ ds (v :: (kv ++ ts)) (c :: (kc ++ tcs))) : SD K L F H σ ds (v :: ts) (c :: tcs) := by
  have tl := s.tl
  obtain ⟨os, n, hd, sl⟩ := s.sl
  have sl' : Slots K L F.T (hide H (os ++ F.S)) H ([some v] ++ (kv.map some ++ (ts.map some ++ σ))) ([c] ++ (kc ++ (tcs ++ ds))) os := by
    simpa using sl
  obtain ⟨o1, o2, rfl, s1, s2⟩ := sl'.split rfl
  obtain ⟨o3, o4, rfl, s3, s4⟩ := s2.split (by simpa using hk)
  have sub : ∀ q ∈ o1 ++ o4, q ∈ o1 ++ (o3 ++ o4) := fun q hq => by
    simp only [List.mem_append] at hq ⊢
    exact hq.imp id .inr
  have sub' : ∀ q ∈ o1 ++ o4 ++ F.S, q ∈ o1 ++ (o3 ++ o4) ++ F.S := fun q hq => (List.mem_append.mp hq).elim (fun z => List.mem_append_left _ (sub q z)) (List.mem_append_right _)
  have nn := List.nodup_append.mp n
  have n2 := List.nodup_append.mp nn.2.1
  refine ⟨s.ok, by simp at tl ⊢; omega, s.ext, s.tin, o1 ++ o4, List.nodup_append.mpr ⟨nn.1, n2.2.1, fun a ha b hb => nn.2.2 a ha b (List.mem_append_right _ hb)⟩, fun q hq => hd q (sub q hq), ?_⟩
  exact (s1.sub sub').append (s4.sub sub')
/-- the loop's variables are forgotten -/
theorem SD.wipeAll (s : SD K L F H σ ds ts tcs) : ∀ is : List Nat, SD K L F H (L2.wipe σ is) (parked ds is) ts tcs
  | [] => s
  | i :: is => (s.wipeAll is).wipe
/-- the slots of a comprehension's variables laid aside, and back -/
theorem SD.parkAll : ∀ {is : List Nat}, is.Nodup → (∀ i ∈ is, i < ds.length) → SD K L F H σ ds ts tcs → ∃ (pv : List V) (pc : List Cell), pv.length = pc.length ∧ SD K L F H (L2.wipe σ is) (parked ds is) (pv ++ ts) (pc ++ tcs) ∧
    ∀ (H' : Hp) (ds' : List Cell) (ts' : List V) (tcs' : List Cell), ds'.length = ds.length → SD K L F H' (L2.wipe σ is) (parked ds' is) (pv ++ ts') (pc ++ tcs') → SD K L F H' σ (unparked ds ds' is) ts' tcs'
  | [], _, _, s => ⟨[], [], rfl, s, fun _ _ _ _ _ h => h⟩
  | i :: is, hn, hi, s => by
    obtain ⟨n1, n2⟩ := List.nodup_cons.mp hn
    obtain ⟨pv, pc, hl, s1, back⟩ := SD.parkAll n2 (fun j hj => hi j (List.mem_cons_of_mem _ hj)) s
    have hlt : i < ds.length := hi i List.mem_cons_self
    have hc : ds[i]? = some ds[i] := List.getElem?_eq_getElem hlt
    have hp : (parked ds is)[i]? = some ds[i] := (parked_other n1).trans hc
    have hu : ∀ ds' : List Cell, unparked ds ds' (i :: is) = (unparked ds ds' is).set i ds[i] := fun ds' => by
      show (match ds[i]? with | some c => (unparked ds ds' is).set i c | none => unparked ds ds' is) = _
      rw [hc]
    by_cases hf : ds[i] = .free
    · refine ⟨pv, pc, hl, ?_, fun H' ds' ts' tcs' hlen h => ?_⟩
      · have := s1.wipe (i := i) (x := none)
        exact this
      · -- the free slot may have any value
        have hσ : i < (L2.wipe σ is).length := by rw [s1.len, parked_len]; exact hlt
        have h2 := h.wipe (i := i) (x := (L2.wipe σ is)[i])
        have e1 : (L2.wipe σ (i :: is)).set i (L2.wipe σ is)[i] = L2.wipe σ is := by
          show ((L2.wipe σ is).set i none).set i _ = _
          rw [List.set_set, List.set_getElem_self]
        have e2 : (parked ds' (i :: is)).set i .free = parked (ds'.set i .free) is := by
          show ((parked ds' is).set i .free).set i .free = _
          rw [List.set_set, parked_set n1]
        rw [e1, e2] at h2
        have h3 := back H' (ds'.set i .free) ts' tcs' (by rw [List.length_set]; exact hlen) h2
        rw [unparked_set n1] at h3
        rw [hu, hf]
        exact h3
    · obtain ⟨v, ev, s2⟩ := s1.park hp hf
      refine ⟨v :: pv, ds[i] :: pc, by simp [hl], s2, fun H' ds' ts' tcs' hlen h => ?_⟩
      have h2 := SD.store (i := i) h hf (by show i < ((parked ds' is).set i .free).length; rw [List.length_set, parked_len, hlen]; exact hlt)
      have e1 : (L2.wipe σ (i :: is)).set i (some v) = L2.wipe σ is := by
        show ((L2.wipe σ is).set i none).set i _ = _
        rw [List.set_set]
        obtain ⟨h1, h3⟩ := List.getElem?_eq_some_iff.mp ev
        rw [← h3, List.set_getElem_self]
      have e2 : (parked ds' (i :: is)).set i ds[i] = parked (ds'.set i ds[i]) is := by
        show ((parked ds' is).set i .free).set i _ = _
        rw [List.set_set, parked_set n1]
      rw [e1, e2] at h2
      have h3 := back H' (ds'.set i ds[i]) ts' tcs' (by rw [List.length_set]; exact hlen) h2
      rw [unparked_set n1] at h3
      rw [hu]
      exact h3
end
section
variable {X : Cx} {L : Kl} {F : Fm} {G : Gm} {cf : CallF} {k : Nat} {ds : List Cell} {σ : L2.St} {H : Hp} {ts vs : List V} {tcs : List Cell} {dvs l : List Dt} {Q : VK} {elt it tg : Expr} {pos p : Pos} {scope : Scope}
/-- true in every block of a comprehension -/
def allE (X : Cx) (scope : Scope) (e : Expr) : TE := fun σ H Q => ∀ (s : Shared) (H' : Hp) (C : Addr) (cl : List (Str × Addr)) (fp : List Addr),
  WE (X.blk s H' scope (compEnvC scope cl C X.env) fp) e σ H Q
def allT (X : Cx) (scope : Scope) (e : Expr) : TT := fun σ H Q => ∀ (s : Shared) (H' : Hp) (C : Addr) (cl : List (Str × Addr)) (fp : List Addr),
  WT (X.blk s H' scope (compEnvC scope cl C X.env) fp) e σ H Q
def allG (X : Cx) (scope : Scope) (e : Expr) : TG := fun v σ H Q => ∀ (s : Shared) (H' : Hp) (C : Addr) (cl : List (Str × Addr)) (fp : List Addr),
  WG (X.blk s H' scope (compEnvC scope cl C X.env) fp) e v σ H Q
abbrev AllB (X : Cx) (scope : Scope) (P : Cx → Prop) : Prop := ∀ (s : Shared) (H' : Hp) (C : Addr) (cl : List (Str × Addr)) (fp : List Addr), P (X.blk s H' scope (compEnvC scope cl C X.env) fp)
/-- what one turn does: the tests and the item -/
def TurnS (X : Cx) (scope : Scope) (L : Kl) (F : Fm) (tt : TT) (elt : Expr) (f : List Cell → Res (Option Dt × List Cell)) : Prop :=
  ∀ (σ : L2.St) (H : Hp) (ds ds' : List Cell) (ts : List V) (tcs : List Cell) (y : Option Dt) (Q : Bool → Hp → Prop), SD X.K L F H σ ds ts tcs → f ds = .ok (y, ds') →
    (y = none → ∀ H2, SD X.K L F H2 σ ds' ts tcs → Q false H2) →
    (∀ d, y = some d → ∀ H2, (∀ Q2 : VK, (∀ v H3, SD X.K L F H3 σ ds' (v :: ts) (.im d :: tcs) → Q2 v H3) → allE X scope elt σ H2 Q2) → Q true H2) → tt σ H Q
theorem setTg_len {is : List Nat} {d : Dt} {ds ds' : List Cell} (h : setTg ds is d = some ds') : ds'.length = ds.length := by
  have sa : ∀ (is : List Nat) (l : List Dt) (ds : List Cell), (setAll ds is l).length = ds.length := by
    intro is
    induction is with
    | nil => intro l ds; cases l <;> rfl
    | cons i is ih =>
      intro l ds
      cases l with
      | nil => rfl
      | cons d l => show (setAll (ds.set i (.im d)) is l).length = _; rw [ih, List.length_set]
  have gen : ∀ (l : List Dt), (if is.length = l.length then some ((is.zip l).foldl (fun ds p => ds.set p.1 (.im p.2)) ds) else none) = some ds' → ds'.length = ds.length := by
    intro l h
    split at h
    · cases h
      rw [setAll_eq, sa]
    · cases h
  cases is with
  | nil =>
    cases d with
    | tup l => exact gen l h
    | _ => cases h
  | cons i is =>
    cases is with
    | nil =>
      have h' : some (ds.set i (.im d)) = some ds' := h
      cases h'
      rw [List.length_set]
    | cons j is =>
      cases d with
      | tup l => exact gen l h
      | _ => cases h
theorem comp_ok {ifs : List Expr} {tt : TT} {own : List (Str × Nat)} {f : List Cell → Res (Option Dt × List Cell)} {is : List Nat} {r : Res (List Dt × List Cell)} (C : Ctx X L G cf k) (ok : BlkOk X.N X.env.scope scope own) (ho : own.map (·.2) = is) (hnd : is.Nodup)
    (hi : SndI X L F tg it ds r) (hg : AllB X scope fun X' => SndG X' L F tg is) (htt : AllB X scope fun X' => PTs X' ifs tt) (ht : TurnS X scope L F tt elt f)
    (hs : ∀ x, foldedSetIterable it X.env x = pure x) (s : SD X.K L F H σ ds ts tcs) (q : After X L F σ ts tcs Q (r.bind fun l => compR is l.1 f l.2)) :
    tLc (WI X tg it) (allG X scope tg) tt (allE X scope elt) is σ H Q := by
  refine hi σ H ts tcs _ s ?_
  cases r with
  | no => exact q
  | er r ds' => exact q
  | ok x =>
    obtain ⟨l, ds1⟩ := x
    intro J kv kc H1 hk s1 gv D hD
    have q' : After X L F σ ts tcs Q (compR is l f ds1) := q
    unfold compR at q'
    split at q'
    · rename_i hz
      obtain ⟨hz1, hz2⟩ := hz
      have hlt : ∀ i ∈ is, i < ds1.length := fun i hi => by simpa using List.all_eq_true.mp hz2 i hi
      cases hc : compL is f l [] (parked ds1 is) with
      | no => rw [hc] at q'; exact q'.elim
      | er r ds' => rw [hc] at q'; exact q'.elim
      | ok x =>
        obtain ⟨fin, dsf⟩ := x
        rw [hc] at q'
        have sD : SD X.K L F (upd H1 D (.lst [])) σ ds1 (.ref D :: (kv ++ ts)) (.own false (.lst []) :: (kc ++ tcs)) := SD.new (vs := []) (dvs := []) rfl s1 hD fun _ _ => .lst .nil
        obtain ⟨pv, pc, hp, s2, back⟩ := SD.parkAll hnd hlt sD
        refine ⟨fun i m H' => m + i = l.length ∧ ∃ (acc : List Dt) (dsi : List Cell), acc.length ≤ i ∧ dsi.length = ds1.length ∧ compL is f (l.drop i) acc (parked dsi is) = .ok (fin, dsf) ∧
          SD X.K L F H' (L2.wipe σ is) (parked dsi is) (pv ++ (.ref D :: (kv ++ ts))) (pc ++ (.own false (.lst acc) :: (kc ++ tcs))), ⟨l.length, by omega, [], ds1, Nat.le_refl _, rfl, hc, s2⟩, ?_⟩
        rintro i m H' ⟨hm, acc, dsi, ha, hdl, hci, s3⟩
        have low : SD X.K L F H' (L2.wipe σ is) (parked dsi is) ((pv ++ [.ref D]) ++ (kv ++ ts)) ((pc ++ [.own false (.lst acc)]) ++ (kc ++ tcs)) := by simpa using s3
        obtain ⟨stop, go⟩ := gv F (pv ++ [.ref D]) (pc ++ [.own false (.lst acc)]) ts tcs i _ _ H' (by simp [hp]) low
        by_cases hil : i < l.length
        · obtain ⟨g1, g2⟩ := go l[i] (List.getElem?_eq_getElem hil)
          have hdr : l.drop i = l[i] :: l.drop (i + 1) := List.drop_eq_getElem_cons hil
          rw [hdr] at hci
          have hci' : (match setTg (parked dsi is) is l[i] with
            | none => Res.no
            | some ds1 => match f ds1 with
              | .ok (some y, ds2) => compL is f (l.drop (i + 1)) (acc ++ [y]) (parked ds2 is)
              | .ok (none, ds2) => compL is f (l.drop (i + 1)) acc (parked ds2 is)
              | _ => .no) = .ok (fin, dsf) := hci
          cases ht1 : setTg (parked dsi is) is l[i] with
          | none => rw [ht1] at hci'; cases hci'
          | some dst =>
            rw [ht1] at hci'
            have hdst : dst.length = dsi.length := (setTg_len ht1).trans parked_len
            simp only at hci'
            cases hfd : f dst with
            | no => rw [hfd] at hci'; cases hci'
            | er r ds' => rw [hfd] at hci'; cases hci'
            | ok x =>
              obtain ⟨y, ds2⟩ := x
              rw [hfd] at hci'
              refine .inr ⟨g1, fun H'' => (m - 1) + (i + 1) = l.length ∧ ∃ (acc : List Dt) (dsi : List Cell), acc.length ≤ i + 1 ∧ dsi.length = ds1.length ∧ compL is f (l.drop (i + 1)) acc (parked dsi is) = .ok (fin, dsf) ∧
                  SD X.K L F H'' (L2.wipe σ is) (parked dsi is) (pv ++ (.ref D :: (kv ++ ts))) (pc ++ (.own false (.lst acc) :: (kc ++ tcs))), ?_, ?_⟩
              · rintro H3 ⟨h1, h2⟩
                exact ⟨m - 1, by omega, h1, h2⟩
              · intro x' H2 hy
                have s4 := g2 x' H2 hy
                intro s' Hb C' cl fp
                refine hg s' Hb C' cl fp (L2.wipe σ is) H2 x' l[i] (parked dsi is) dst _ _ _ s4 ht1 (fun j hj => by rw [parked_len, hdl]; exact hlt j hj) fun σ2 hw s5 => ?_
                have hw2 : L2.wipe σ2 is = L2.wipe σ is := by
                  rw [hw]
                  have : ∀ (js : List Nat), (∀ j ∈ js, j ∈ is) → L2.wipe (L2.wipe σ js) is = L2.wipe σ is := by
                    intro js
                    induction js with
                    | nil => intro _; rfl
                    | cons j js ih =>
                      intro hj
                      show L2.wipe ((L2.wipe σ js).set j none) is = _
                      rw [wipe_set (hj j List.mem_cons_self)]
                      exact ih fun a ha => hj a (List.mem_cons_of_mem _ ha)
                  exact this is fun _ h => h
                refine ⟨hw2, ht σ2 H2 dst ds2 _ _ y _ s5 hfd (fun hy0 H3 s6 => ?_) fun d hy1 H3 kk => ?_⟩
                · subst hy0
                  have hl2 : ds2.length = dsi.length := s6.len.symm.trans (s5.len.trans hdst)
                  refine iteF ⟨by omega, acc, ds2, by omega, by omega, hci', ?_⟩
                  have s7 := s6.wipeAll is
                  rw [hw2] at s7
                  simpa using s7
                · subst hy1
                  refine iteT (kk _ fun v H4 s6 => ?_)
                  have hl2 : ds2.length = dsi.length := s6.len.symm.trans (s5.len.trans hdst)
                  have s6' : SD X.K L F H4 σ2 ds2 ([v] ++ (pv ++ (.ref D :: (kv ++ ts)))) ([d].map Cell.im ++ (pc ++ (.own false (.lst acc) :: (kc ++ tcs)))) := by simpa using s6
                  obtain ⟨p, h, a1, a2, a3, a4, a5, a6⟩ := SD.ownC (j := pc.length) (b := false) (o := .lst acc) rfl s6' (by
                    rw [List.getElem?_append_left (by simp)]
                    exact midC)
                  have hpD : p = D := by
                    have : ((pv ++ (V.ref D :: (kv ++ ts))).map some ++ σ2)[pc.length]? = some (some (.ref D)) := by
                      rw [List.getElem?_append_left (by simp [hp]), List.getElem?_map, ← hp, midV]
                      rfl
                    rw [a1] at this
                    simpa using this
                  subst hpD
                  cases a3 with
                  | lst r3 =>
                    rename_i av
                    have hz' : av.length < sizeLine := by
                      have := r3.length
                      omega
                    have s8 := a6 (.lst (av ++ [v])) (.lst (acc ++ [d])) [] [] (pc ++ (.own false (.lst (acc ++ [d])) :: (kc ++ tcs))) ds2 (fun Hh _ o r => by
                      cases o with
                      | lst r4 =>
                        cases r with
                        | cons im _ => exact ⟨.lst (r4.append (.cons im .nil)), .nil⟩) (by simp) (by
                      rw [List.append_assoc, List.append_assoc, List.set_append_right _ _ (Nat.le_refl _), Nat.sub_self]
                      rfl)
                    refine ⟨av, a2, hz', by omega, acc ++ [d], ds2, by simp; omega, by omega, hci', ?_⟩
                    have s9 := SD.wipeAll s8 is
                    rw [hw2] at s9
                    simpa using s9
        · have e : i = l.length := by omega
          subst e
          refine .inl ⟨stop (Nat.le_refl _), ?_⟩
          rw [List.drop_length] at hci
          have hci' : Res.ok (acc, parked dsi is) = Res.ok (fin, dsf) := hci
          cases hci'
          have q2 : ∀ v H, SD X.K L F H σ (unparked ds1 (parked dsi is) is) (v :: ts) (.own false (.lst fin) :: tcs) → Q v H := fun v H s => q' v H s
          rw [unparked_parked hnd hlt] at q2
          refine q2 _ _ ?_
          exact (back H' dsi (.ref D :: (kv ++ ts)) (.own false (.lst fin) :: (kc ++ tcs)) hdl s3).dropMid hk
    · exact q'.elim
theorem pg_all : AllB X scope fun X' => PG X' tg (allG X scope tg) := fun s H C cl fp => ⟨fun pins st σ H v u Q I r h => h s _ C cl fp pins st u I r⟩
theorem pe_all : AllB X scope fun X' => PE X' elt (allE X scope elt) := fun s H C cl fp => ⟨fun pins st σ H Q I h => h s _ C cl fp pins st I⟩
theorem pt_all : AllB X scope fun X' => PT X' elt (allT X scope elt) := fun s H C cl fp => ⟨fun pins st σ H Q I h => h s _ C cl fp pins st I⟩
theorem turn_plain {ce : CE} (hL : L.fl = G.fl) (he : AllB X scope fun X' => ∀ ds, SndE X' L F elt ds (evE G cf ce ds)) : TurnS X scope L F tYes elt fun ds => (vv G (evE G cf ce ds)).bind fun y => .ok (some y.1, y.2) := by
  intro σ H ds ds' ts tcs y Q s hf h0 h1
  have hf : ((vv G (evE G cf ce ds)).bind fun y => .ok (some y.1, y.2)) = Res.ok (y, ds') := hf
  cases hv : vv G (evE G cf ce ds) with
  | no => rw [hv] at hf; cases hf
  | er r ds' => rw [hv] at hf; cases hf
  | ok x =>
    rw [hv] at hf
    cases hf
    refine h1 x.1 rfl H fun Q2 kk s' Hb C' cl fp => (he s' Hb C' cl fp ds).v hL s ?_
    rw [hv]
    exact kk
theorem turn_if {ce cc : CE} {c : Expr} (hL : L.fl = G.fl) (hc : AllB X scope fun X' => ∀ ds, SndT X' L F c ds (tt G (evE G cf cc ds))) (he : AllB X scope fun X' => ∀ ds, SndE X' L F elt ds (evE G cf ce ds)) :
    TurnS X scope L F (allT X scope c) elt fun ds => (tt G (evE G cf cc ds)).bind fun b => if b.1 then (vv G (evE G cf ce b.2)).bind fun y => .ok (some y.1, y.2) else .ok (none, b.2) := by
  intro σ H ds ds' ts tcs y Q s hf h0 h1 s' Hb C' cl fp
  have hf : ((tt G (evE G cf cc ds)).bind fun b => if b.1 then (vv G (evE G cf ce b.2)).bind fun y => .ok (some y.1, y.2) else .ok (none, b.2)) = Res.ok (y, ds') := hf
  refine hc s' Hb C' cl fp ds σ H ts tcs _ s ?_
  cases hb : tt G (evE G cf cc ds) with
  | no => rw [hb] at hf; cases hf
  | er r ds' => rw [hb] at hf; cases hf
  | ok x =>
    obtain ⟨b, ds1⟩ := x
    rw [hb] at hf
    intro H1 s1
    cases b with
    | false =>
      cases hf
      exact h0 rfl H1 s1
    | true =>
      have hf' : ((vv G (evE G cf ce ds1)).bind fun y => .ok (some y.1, y.2)) = Res.ok (y, ds') := hf
      cases hv : vv G (evE G cf ce ds1) with
      | no => rw [hv] at hf'; cases hf'
      | er r ds' => rw [hv] at hf'; cases hf'
      | ok x =>
        rw [hv] at hf'
        cases hf'
        refine h1 x.1 rfl H1 fun Q2 kk s' Hb C' cl fp => (he s' Hb C' cl fp ds1).v hL s1 ?_
        rw [hv]
        exact kk
/-- what a comprehension's parts give -/
structure CompOk (X : Cx) (L : Kl) (F : Fm) (G : Gm) (cf : CallF) (scope : Scope) (own : List (Str × Nat)) (tg it : Expr) (is : List Nat) (ci : CE) : Prop where
  ok : BlkOk X.N X.env.scope scope own
  ho : own.map (·.2) = is
  nd : is.Nodup
  hi : ∀ ds, SndI X L F tg it ds ((vv G (evE G cf ci ds)).bind asItems)
  hg : AllB X scope fun X' => SndG X' L F tg is
  hs : ∀ x, foldedSetIterable it X.env x = pure x
theorem snd_comp {own : List (Str × Nat)} {is : List Nat} {ci ce : CE} (hc0 : X.calm = true) (C : Ctx X L G cf k) (O : CompOk X L F G cf scope own tg it is ci) (he : AllB X scope fun X' => ∀ ds, SndE X' L F elt ds (evE G cf ce ds)) :
    SndE X L F (.ListComp elt [⟨tg, it, [], 0⟩] scope pos) ds (evE G cf (.comp is ci ce) ds) := by
  intro σ H ts tcs Q s q
  refine we (pe_lc hc0 C.nd pi_wi O.ok pg_all (fun _ _ _ _ _ => pts_nil) pe_all O.hs) ?_
  rw [O.ho]
  exact comp_ok C O.ok O.ho O.nd (O.hi ds) O.hg (fun _ _ _ _ _ => pts_nil) (turn_plain C.hL he) O.hs s q
theorem snd_compI {own : List (Str × Nat)} {is : List Nat} {ci ce cc : CE} {c : Expr} (hc0 : X.calm = true) (C : Ctx X L G cf k) (O : CompOk X L F G cf scope own tg it is ci) (hc : AllB X scope fun X' => ∀ ds, SndT X' L F c ds (tt G (evE G cf cc ds))) (he : AllB X scope fun X' => ∀ ds, SndE X' L F elt ds (evE G cf ce ds)) :
    SndE X L F (.ListComp elt [⟨tg, it, [c], 0⟩] scope pos) ds (evE G cf (.compI is ci cc ce) ds) := by
  intro σ H ts tcs Q s q
  refine we (pe_lc hc0 C.nd pi_wi O.ok pg_all (fun s H C cl fp => pts_one (pt_all s H C cl fp)) pe_all O.hs) ?_
  rw [O.ho]
  exact comp_ok C O.ok O.ho O.nd (O.hi ds) O.hg (fun s H C cl fp => pts_one (pt_all s H C cl fp)) (turn_if C.hL hc he) O.hs s q
def allI (X : Cx) (scope : Scope) (tg e : Expr) : TI := fun σ H R => ∀ (s : Shared) (H' : Hp) (C : Addr) (cl : List (Str × Addr)) (fp : List Addr),
  WI (X.blk s H' scope (compEnvC scope cl C X.env) fp) tg e σ H R
theorem pi_all {tg2 it2 : Expr} : AllB X scope fun X' => PI X' tg2 it2 (allI X scope tg2 it2) := fun s H C cl fp => ⟨fun pins st σ H R I h => h s _ C cl fp pins st I⟩
theorem wipe_wipe {is : List Nat} {σ : L2.St} : ∀ (js : List Nat), (∀ j ∈ js, j ∈ is) → L2.wipe (L2.wipe σ js) is = L2.wipe σ is
  | [], _ => rfl
  | j :: js, hj => by
    show L2.wipe ((L2.wipe σ js).set j none) is = _
    rw [wipe_set (hj j List.mem_cons_self)]
    exact wipe_wipe js fun a ha => hj a (List.mem_cons_of_mem _ ha)
theorem set_mid {A B C : List Cell} {c d : Cell} : (A ++ (d :: B)) ++ C = ((A ++ (c :: B)) ++ C).set A.length d := by
  rw [List.append_assoc, List.append_assoc, List.set_append_right _ _ (Nat.le_refl _), Nat.sub_self]
  rfl
theorem comp2_ok {tg2 it2 : Expr} {own : List (Str × Nat)} {g : List Cell → Res (List Dt × List Cell)} {ce : CE} {i1 i2 : List Nat} {r : Res (List Dt × List Cell)} (hL : L.fl = G.fl) (ho : own.map (·.2) = i1 ++ i2) (hnd : (i1 ++ i2).Nodup)
    (hi : SndI X L F tg it ds r) (hg : AllB X scope fun X' => SndG X' L F tg i1) (hi2 : AllB X scope fun X' => ∀ ds, SndI X' L F tg2 it2 ds (g ds)) (hg2 : AllB X scope fun X' => SndG X' L F tg2 i2) (he : AllB X scope fun X' => ∀ ds, SndE X' L F elt ds (evE G cf ce ds))
    (s : SD X.K L F H σ ds ts tcs) (q : After X L F σ ts tcs Q (r.bind fun l => compR2 i1 i2 l.1 g (fun ds => (vv G (evE G cf ce ds)).bind fun y => .ok (some y.1, y.2)) l.2)) :
    tLc2 (WI X tg it) (allG X scope tg) tYes (allI X scope tg2 it2) (allG X scope tg2) tYes (allE X scope elt) (i1 ++ i2) i2 σ H Q := by
  refine hi σ H ts tcs _ s ?_
  cases r with
  | no => exact q
  | er r ds' => exact q
  | ok x =>
    obtain ⟨l, ds1⟩ := x
    intro J kv kc H1 hk s1 gv D hD
    generalize hff : (fun ds => (vv G (evE G cf ce ds)).bind fun y => Res.ok (some y.1, y.2)) = f at q
    have q' : After X L F σ ts tcs Q (compR2 i1 i2 l g f ds1) := q
    unfold compR2 at q'
    split at q'
    · rename_i hz2
      have hlt : ∀ i ∈ i1 ++ i2, i < ds1.length := fun i hi => by simpa using List.all_eq_true.mp hz2 i hi
      cases hc : compLL i1 i2 g f l [] (parked ds1 (i1 ++ i2)) with
      | no => rw [hc] at q'; exact q'.elim
      | er r ds' => rw [hc] at q'; exact q'.elim
      | ok x =>
        obtain ⟨fin, dsf⟩ := x
        rw [hc] at q'
        have sD : SD X.K L F (upd H1 D (.lst [])) σ ds1 (.ref D :: (kv ++ ts)) (.own false (.lst []) :: (kc ++ tcs)) := SD.new (vs := []) (dvs := []) rfl s1 hD fun _ _ => .lst .nil
        obtain ⟨pv, pc, hp, s2, back⟩ := SD.parkAll hnd hlt sD
        refine ⟨fun i m H' => m + i = l.length ∧ ∃ (acc : List Dt) (dsi : List Cell), dsi.length = ds1.length ∧ compLL i1 i2 g f (l.drop i) acc (parked dsi (i1 ++ i2)) = .ok (fin, dsf) ∧
          SD X.K L F H' (L2.wipe σ (i1 ++ i2)) (parked dsi (i1 ++ i2)) (pv ++ (.ref D :: (kv ++ ts))) (pc ++ (.own false (.lst acc) :: (kc ++ tcs))), ⟨l.length, by omega, [], ds1, rfl, hc, s2⟩, ?_⟩
        rintro i m H' ⟨hm, acc, dsi, hdl, hci, s3⟩
        have low : SD X.K L F H' (L2.wipe σ (i1 ++ i2)) (parked dsi (i1 ++ i2)) ((pv ++ [.ref D]) ++ (kv ++ ts)) ((pc ++ [.own false (.lst acc)]) ++ (kc ++ tcs)) := by simpa using s3
        obtain ⟨stop, go⟩ := gv F (pv ++ [.ref D]) (pc ++ [.own false (.lst acc)]) ts tcs i _ _ H' (by simp [hp]) low
        by_cases hil : i < l.length
        · obtain ⟨g1, g2⟩ := go l[i] (List.getElem?_eq_getElem hil)
          have hdr : l.drop i = l[i] :: l.drop (i + 1) := List.drop_eq_getElem_cons hil
          rw [hdr] at hci
          have hci' : (match setTg (parked dsi (i1 ++ i2)) i1 l[i] with
            | none => Res.no
            | some ds1 => match g ds1 with
              | .ok (l2, ds2) => if szB (acc.length + l2.length) then match compL i2 f l2 acc (parked ds2 i2) with
                | .ok (acc2, ds3) => compLL i1 i2 g f (l.drop (i + 1)) acc2 (parked ds3 (i1 ++ i2))
                | _ => .no
                else .no
              | _ => .no) = .ok (fin, dsf) := hci
          cases ht1 : setTg (parked dsi (i1 ++ i2)) i1 l[i] with
          | none => rw [ht1] at hci'; cases hci'
          | some dst =>
            rw [ht1] at hci'
            have hdst : dst.length = dsi.length := (setTg_len ht1).trans parked_len
            simp only at hci'
            cases hgd : g dst with
            | no => rw [hgd] at hci'; cases hci'
            | er r ds' => rw [hgd] at hci'; cases hci'
            | ok x =>
              obtain ⟨l2, ds2⟩ := x
              rw [hgd] at hci'
              simp only at hci'
              cases hsz : szB (acc.length + l2.length) with
              | false => rw [hsz] at hci'; cases hci'
              | true =>
                rw [hsz] at hci'
                simp only [if_true] at hci'
                have hsz' := szB_le hsz
                cases hcl : compL i2 f l2 acc (parked ds2 i2) with
                | no => rw [hcl] at hci'; cases hci'
                | er r ds' => rw [hcl] at hci'; cases hci'
                | ok x =>
                  obtain ⟨acc2, ds3⟩ := x
                  rw [hcl] at hci'
                  simp only at hci'
                  refine .inr ⟨g1, fun H'' => (m - 1) + (i + 1) = l.length ∧ ∃ (acc : List Dt) (dsi : List Cell), dsi.length = ds1.length ∧ compLL i1 i2 g f (l.drop (i + 1)) acc (parked dsi (i1 ++ i2)) = .ok (fin, dsf) ∧
                      SD X.K L F H'' (L2.wipe σ (i1 ++ i2)) (parked dsi (i1 ++ i2)) (pv ++ (.ref D :: (kv ++ ts))) (pc ++ (.own false (.lst acc) :: (kc ++ tcs))), ?_, ?_⟩
                  · rintro H3 ⟨h1, h2⟩
                    exact ⟨m - 1, by omega, h1, h2⟩
                  · intro x' H2 hy
                    have s4 := g2 x' H2 hy
                    intro s' Hb C' cl fp
                    refine hg s' Hb C' cl fp (L2.wipe σ (i1 ++ i2)) H2 x' l[i] (parked dsi (i1 ++ i2)) dst _ _ _ s4 ht1 (fun j hj => by rw [parked_len, hdl]; exact hlt j (List.mem_append_left _ hj)) fun σ2 hw s5 => ?_
                    have hw2 : L2.wipe σ2 (i1 ++ i2) = L2.wipe σ (i1 ++ i2) := by
                      rw [← wipe_wipe (σ := σ2) i1 fun j hj => List.mem_append_left _ hj, hw, wipe_wipe i1 fun j hj => List.mem_append_left _ hj]
                      exact wipe_wipe _ fun _ h => h
                    refine ⟨hw2, ?_⟩
                    simp only [tYes, if_true]
                    intro s' Hb C' cl fp
                    refine hi2 s' Hb C' cl fp dst σ2 H2 _ _ _ s5 ?_
                    rw [hgd]
                    intro J1 kv2 kc2 H4 hk2 s6 gv2
                    have hd2 : ds2.length = dsi.length := s6.len.symm.trans (s5.len.trans hdst)
                    have s7 : SD X.K L F H4 (L2.wipe σ2 i2) (parked ds2 i2) (kv2 ++ ((pv ++ [.ref D]) ++ (kv ++ ts))) (kc2 ++ ((pc ++ [.own false (.lst acc)]) ++ (kc ++ tcs))) := SD.wipeAll s6 i2
                    refine ⟨fun j k H'' => k + j = l2.length ∧ ∃ (accj : List Dt) (dsj : List Cell), accj.length ≤ acc.length + j ∧ dsj.length = ds1.length ∧ compL i2 f (l2.drop j) accj (parked dsj i2) = .ok (acc2, ds3) ∧
                      SD X.K L F H'' (L2.wipe σ2 i2) (parked dsj i2) (kv2 ++ (pv ++ (.ref D :: (kv ++ ts)))) (kc2 ++ (pc ++ (.own false (.lst accj) :: (kc ++ tcs)))), ⟨l2.length, by omega, acc, ds2, by omega, by omega, hcl, by simpa using s7⟩, ?_⟩
                    rintro j k H5 ⟨hmj, accj, dsj, haj, hdj, hcj, s8⟩
                    obtain ⟨stop2, go2⟩ := gv2 F [] [] (pv ++ (.ref D :: (kv ++ ts))) (pc ++ (.own false (.lst accj) :: (kc ++ tcs))) j _ _ H5 rfl (by simpa using s8)
                    by_cases hjl : j < l2.length
                    · obtain ⟨h1, h2⟩ := go2 l2[j] (List.getElem?_eq_getElem hjl)
                      have hdr2 : l2.drop j = l2[j] :: l2.drop (j + 1) := List.drop_eq_getElem_cons hjl
                      rw [hdr2] at hcj
                      have hcj' : (match setTg (parked dsj i2) i2 l2[j] with
                        | none => Res.no
                        | some ds1 => match f ds1 with
                          | .ok (some y, ds2) => compL i2 f (l2.drop (j + 1)) (accj ++ [y]) (parked ds2 i2)
                          | .ok (none, ds2) => compL i2 f (l2.drop (j + 1)) accj (parked ds2 i2)
                          | _ => .no) = .ok (acc2, ds3) := hcj
                      cases ht2 : setTg (parked dsj i2) i2 l2[j] with
                      | none => rw [ht2] at hcj'; cases hcj'
                      | some dsk =>
                        rw [ht2] at hcj'
                        have hdsk : dsk.length = dsj.length := (setTg_len ht2).trans parked_len
                        simp only at hcj'
                        have hfd : f dsk = (vv G (evE G cf ce dsk)).bind fun y => Res.ok (some y.1, y.2) := by rw [← hff]
                        rw [hfd] at hcj'
                        cases hv : vv G (evE G cf ce dsk) with
                        | no => rw [hv] at hcj'; cases hcj'
                        | er r ds' => rw [hv] at hcj'; cases hcj'
                        | ok x =>
                          obtain ⟨d, dsm⟩ := x
                          rw [hv] at hcj'
                          have hcm : compL i2 f (l2.drop (j + 1)) (accj ++ [d]) (parked dsm i2) = .ok (acc2, ds3) := hcj'
                          refine .inr ⟨h1, fun H'' => (k - 1) + (j + 1) = l2.length ∧ ∃ (accj : List Dt) (dsj : List Cell), accj.length ≤ acc.length + (j + 1) ∧ dsj.length = ds1.length ∧ compL i2 f (l2.drop (j + 1)) accj (parked dsj i2) = .ok (acc2, ds3) ∧
                            SD X.K L F H'' (L2.wipe σ2 i2) (parked dsj i2) (kv2 ++ (pv ++ (.ref D :: (kv ++ ts)))) (kc2 ++ (pc ++ (.own false (.lst accj) :: (kc ++ tcs)))), ?_, ?_⟩
                          · rintro H3 ⟨h1, h2⟩
                            exact ⟨k - 1, by omega, h1, h2⟩
                          · intro x2 H6 hy2
                            have s9 := h2 x2 H6 hy2
                            intro s' Hb C' cl fp
                            refine hg2 s' Hb C' cl fp (L2.wipe σ2 i2) H6 x2 l2[j] (parked dsj i2) dsk _ _ _ s9 ht2 (fun j hj => by rw [parked_len, hdj]; exact hlt j (List.mem_append_right _ hj)) fun σ3 hw3 s10 => ?_
                            have hw4 : L2.wipe σ3 i2 = L2.wipe σ2 i2 := by
                              rw [hw3]
                              exact wipe_wipe _ fun _ h => h
                            refine ⟨hw4, ?_⟩
                            intro s' Hb C' cl fp
                            refine (he s' Hb C' cl fp dsk).v hL s10 ?_
                            rw [hv]
                            intro v H7 s11
                            have s12 : SD X.K L F H7 σ3 dsm ([v] ++ (kv2 ++ (pv ++ (.ref D :: (kv ++ ts))))) ([d].map Cell.im ++ (kc2 ++ (pc ++ (.own false (.lst accj) :: (kc ++ tcs))))) := by simpa using s11
                            have hl2 : dsm.length = dsk.length := s11.len.symm.trans s10.len
                            have hq : (kc2 ++ (pc ++ (Cell.own false (.lst accj) :: (kc ++ tcs)))) = (kc2 ++ pc) ++ (Cell.own false (.lst accj) :: (kc ++ tcs)) := by simp
                            have hqv : (kv2 ++ (pv ++ (V.ref D :: (kv ++ ts)))) = (kv2 ++ pv) ++ (V.ref D :: (kv ++ ts)) := by simp
                            rw [hq, hqv] at s12
                            obtain ⟨p, h, a1, a2, a3, a4, a5, a6⟩ := SD.ownC (j := (kc2 ++ pc).length) (b := false) (o := .lst accj) rfl s12 (by
                              rw [List.getElem?_append_left (by simp)]
                              exact midC)
                            have hpD : p = D := by
                              have : (((kv2 ++ pv) ++ (V.ref D :: (kv ++ ts))).map some ++ σ3)[(kc2 ++ pc).length]? = some (some (.ref D)) := by
                                rw [List.getElem?_append_left (by simp [hp, hk2]), List.getElem?_map, show (kc2 ++ pc).length = (kv2 ++ pv).length from by simp [hp, hk2], midV]
                                rfl
                              rw [a1] at this
                              simpa using this
                            subst hpD
                            cases a3 with
                            | lst r3 =>
                              rename_i av
                              have hz' : av.length < sizeLine := by
                                have := r3.length
                                omega
                              have t8 := a6 (.lst (av ++ [v])) (.lst (accj ++ [d])) [] [] ((kc2 ++ pc) ++ (.own false (.lst (accj ++ [d])) :: (kc ++ tcs))) dsm (fun Hh _ o r => by
                                cases o with
                                | lst r4 =>
                                  cases r with
                                  | cons im _ => exact ⟨.lst (r4.append (.cons im .nil)), .nil⟩) (by simp) set_mid
                              refine ⟨av, a2, hz', by omega, accj ++ [d], dsm, by simp; omega, by omega, hcm, ?_⟩
                              have t9 := SD.wipeAll t8 i2
                              rw [hw4] at t9
                              simpa using t9
                    · have e : j = l2.length := by omega
                      subst e
                      refine .inl ⟨stop2 (Nat.le_refl _), by omega, ?_⟩
                      rw [List.drop_length] at hcj
                      have hcj' : Res.ok (accj, parked dsj i2) = Res.ok (acc2, ds3) := hcj
                      cases hcj'
                      refine ⟨_, parked dsj i2, by rw [parked_len, hdj], hci', ?_⟩
                      have t1 := SD.wipeAll (SD.popN hk2 s8) (i1 ++ i2)
                      rw [wipe_wipe i2 fun j hj => List.mem_append_right _ hj, hw2] at t1
                      exact t1
        · have e : i = l.length := by omega
          subst e
          refine .inl ⟨stop (Nat.le_refl _), ?_⟩
          rw [List.drop_length] at hci
          have hci' : Res.ok (acc, parked dsi (i1 ++ i2)) = Res.ok (fin, dsf) := hci
          cases hci'
          have q2 : ∀ v H, SD X.K L F H σ (unparked ds1 (parked dsi (i1 ++ i2)) (i1 ++ i2)) (v :: ts) (.own false (.lst fin) :: tcs) → Q v H := fun v H s => q' v H s
          rw [unparked_parked hnd hlt] at q2
          refine q2 _ _ ?_
          exact (back H' dsi (.ref D :: (kv ++ ts)) (.own false (.lst fin) :: (kc ++ tcs)) hdl s3).dropMid hk
    · exact q'.elim
/-- what the parts of one with two sources give -/
structure Comp2Ok (X : Cx) (L : Kl) (F : Fm) (G : Gm) (cf : CallF) (scope : Scope) (own : List (Str × Nat)) (tg it tg2 it2 : Expr) (i1 i2 : List Nat) (ci c2 : CE) : Prop where
  ok : BlkOk X.N X.env.scope scope own
  ho : own.map (·.2) = i1 ++ i2
  nd : (i1 ++ i2).Nodup
  hi : ∀ ds, SndI X L F tg it ds ((vv G (evE G cf ci ds)).bind asItems)
  hg : AllB X scope fun X' => SndG X' L F tg i1
  hi2 : AllB X scope fun X' => ∀ ds, SndI X' L F tg2 it2 ds ((vv G (evE G cf c2 ds)).bind asItems)
  hg2 : AllB X scope fun X' => SndG X' L F tg2 i2
  hs : ∀ x, foldedSetIterable it X.env x = pure x
  hs2 : ∀ env x, foldedSetIterable it2 env x = pure x
theorem snd_comp2 {tg2 it2 : Expr} {own : List (Str × Nat)} {i1 i2 : List Nat} {ci c2 ce : CE} (hc0 : X.calm = true) (C : Ctx X L G cf k) (O : Comp2Ok X L F G cf scope own tg it tg2 it2 i1 i2 ci c2) (he : AllB X scope fun X' => ∀ ds, SndE X' L F elt ds (evE G cf ce ds)) :
    SndE X L F (.ListComp elt [⟨tg, it, [], 0⟩, ⟨tg2, it2, [], 0⟩] scope pos) ds (evE G cf (.comp2 i1 i2 ci c2 ce) ds) := by
  intro σ H ts tcs Q s q
  refine we (pe_lc2 hc0 C.nd pi_wi O.ok (vs1 := i2) (fun i hi => by rw [O.ho]; exact List.mem_append_right _ hi) pg_all (fun _ _ _ _ _ => pts_nil) pi_all pg_all (fun _ _ _ _ _ => pts_nil) pe_all O.hs O.hs2) ?_
  rw [O.ho]
  exact comp2_ok C.hL O.ho O.nd (O.hi ds) O.hg O.hi2 O.hg2 he s q
end
end Ev
/-! E13: statements. -/
namespace Ev
open PySem PySem.Spec PyProof.Rows L2 Sg
/-- the context takes the error, whatever the frame holds -/
def TkS (X : Cx) (L : Kl) (F : Fm) (ts : List V) (tcs : List Cell) (r : Er) (ds : List Cell) : Prop := ∃ W : WX, Takes X W ∧ ∀ cls d σ H, SD X.K L F H σ ds ts tcs → ErIs X.K L (hide H F.S) cls d r → W cls d σ H
def AfterS (X : Cx) (L : Kl) (F : Fm) (ts : List V) (tcs : List Cell) (D : Ends) : RS → Prop
  | .ok (.nx, ds) => ∀ σ H, SD X.K L F H σ ds ts tcs → D.nx σ H
  | .ok (.bk, ds) => ∀ σ H, SD X.K L F H σ ds ts tcs → D.bk σ H
  | .ok (.ct, ds) => ∀ σ H, SD X.K L F H σ ds ts tcs → D.ct σ H
  | .ok (.rt rv, ds) => ∀ v σ H, Has X.K L F H σ ds [] [] v ts tcs rv → D.rt v H
  | .er r ds => TkS X L F ts tcs r ds
  | .no => False
def SndB (X : Cx) (L : Kl) (F : Fm) (sts : List Stmt) (ds : List Cell) (r : RS) : Prop := ∀ σ H ts tcs D, SD X.K L F H σ ds ts tcs → AfterS X L F ts tcs D r → WB X sts D σ H
def SndS (X : Cx) (L : Kl) (F : Fm) (st : Stmt) (ds : List Cell) (r : RS) : Prop := ∀ σ H ts tcs D, SD X.K L F H σ ds ts tcs → AfterS X L F ts tcs D r → WS X st D σ H
section
variable {X : Cx} {L : Kl} {F : Fm} {G : Gm} {cf : CallF} {k W : Nat} {ds : List Cell} {σ : L2.St} {H : Hp} {ts vs : List V} {tcs : List Cell} {dvs l : List Dt} {D : Ends} {a b c e tg it : Expr} {pos p : Pos} {ca cb cc ce ck ci : CE} {x : Str} {st : Stmt} {rest body : List Stmt} {r : RS} {i : Nat}
theorem TkS.tk {r : Er} (h : TkS X L F ts tcs r ds) (σ : L2.St) : Tk X L F σ ts tcs r ds :=
  let ⟨W, t, f⟩ := h
  ⟨W, t, fun cls d H s e => f cls d σ H s e⟩
theorem TkS.upN {r : Er} {cs : List Cell} (hl : vs.length = cs.length) (h : TkS X L F ts tcs r ds) : TkS X L F (vs ++ ts) (cs ++ tcs) r ds :=
  let ⟨W, tk, f⟩ := h
  ⟨W, tk, fun cls d σ H s e => f cls d σ H (s.popN hl) e⟩
theorem snb_nil : SndB X L F [] ds (.ok (.nx, ds)) := fun σ H ts tcs D s q => wb pss_nil (q σ H s)
theorem snb_cons {kk : List Cell → RS} (h1 : SndS X L F st ds r) (h2 : ∀ ds, SndB X L F rest ds (kk ds)) : SndB X L F (st :: rest) ds (thenS r kk) := by
  intro σ H ts tcs D s q
  refine wb (pss_cons ps_ws pb_wb) (h1 σ H ts tcs { D with nx := fun σ' H' => WB X rest D σ' H' } s ?_)
  match r, q with
  | .ok (.nx, ds1), q => exact fun σ' H' s' => h2 ds1 σ' H' ts tcs D s' q
  | .ok (.bk, ds1), q => exact q
  | .ok (.ct, ds1), q => exact q
  | .ok (.rt rv, ds1), q => exact q
  | .er _ _, q => exact q
/-- what follows is never come to -/
theorem snb_end (h1 : SndS X L F st ds r) (hn : ∀ ds', r ≠ .ok (.nx, ds')) : SndB X L F (st :: rest) ds r := by
  intro σ H ts tcs D s q
  refine wb (pss_cons ps_ws pb_wb) (h1 σ H ts tcs { D with nx := fun σ' H' => WB X rest D σ' H' } s ?_)
  match r, q with
  | .ok (.nx, ds1), q => exact absurd rfl (hn ds1)
  | .ok (.bk, ds1), q => exact q
  | .ok (.ct, ds1), q => exact q
  | .ok (.rt rv, ds1), q => exact q
  | .er _ _, q => exact q
theorem sns_pass : SndS X L F (.Pass pos) ds (.ok (.nx, ds)) := fun σ H ts tcs D s q => ws ps_pass (q σ H s)
theorem sns_brk : SndS X L F (.Break pos) ds (.ok (.bk, ds)) := fun σ H ts tcs D s q => ws ps_break (q σ H s)
theorem sns_cont : SndS X L F (.Continue pos) ds (.ok (.ct, ds)) := fun σ H ts tcs D s q => ws ps_continue (q σ H s)
theorem sns_doc {j p2} : SndS X L F (.Expr (.Constant (.str x) j p2) pos) ds (.ok (.nx, ds)) := fun σ H ts tcs D s q => ws ps_doc (q σ H s)
/-- no comprehension -/
def noComp : Expr → Bool
  | .ListComp .. | .SetComp .. | .DictComp .. => false
  | _ => true
theorem noComp_sw {t : Option Expr} {n : Nat} {env : Env} (h : noComp e = true) : swapsWith e t n env = pure false := by
  cases e <;> first | rfl | cases h
theorem noComp_sole {t : Expr} {n : Nat} {env : Env} (h : noComp e = true) : swapsWithSole [t] e n env = pure false := noComp_sw h
/-- a value on top, or a slot's: it goes into a slot -/
theorem st_ok {rv : RV} {v : V} (hL : L.fl = G.fl) (s : Has X.K L F H σ ds [] [] v ts tcs rv) (q : AfterS X L F ts tcs D ((stR G.fl i rv ds).bind fun ds' => .ok (.nx, ds'))) : D.nx (σ.set i (some v)) H := by
  unfold stR at q
  split at q
  · rename_i hi
    have gen : ∀ rv : RV, Has X.K L F H σ ds [] [] v ts tcs rv → AfterS X L F ts tcs D (((frzR G.fl rv ds).bind fun x => .ok (x.2.set i (.im x.1))).bind fun ds' => .ok (.nx, ds')) → D.nx (σ.set i (some v)) H := by
      intro rv s q
      have q2 : AfterV X L F σ ts tcs (fun v' H' => D.nx (σ.set i (some v')) H') (frzR G.fl rv ds) := by
        cases e : frzR G.fl rv ds with
        | no => rw [e] at q; exact q
        | er r ds' => rw [e] at q; exact TkS.tk q σ
        | ok x =>
          obtain ⟨d, ds1⟩ := x
          rw [e] at q
          intro v' H' s'
          refine q _ H' (s'.store (by simp) ?_)
          have hl : ds1.length = ds.length := by
            rw [← s'.len]
            cases rv with
            | val d => exact SD.len s
            | new o => exact SD.len s
            | ali j => exact SD.len s.2
          omega
      exact After.vv (r := .ok (rv, ds)) hL q2 v H s
    cases rv with
    | val d => exact gen _ s q
    | new o => exact q _ H (SD.store (c := .own false o) s (by simp) hi)
    | ali j => exact gen _ s q
  · exact q.elim
theorem sns_set (hL : L.fl = G.fl) (hN : X.N.Nodup) (h : TgN X x i) (hs : noComp e = true) (ha : ∀ ds, SndE X L F e ds (evE G cf ce ds)) :
    SndS X L F (.Assign [.Name x p] e pos) ds ((evE G cf ce ds).bind fun r => (stR G.fl i r.1 r.2).bind fun ds' => .ok (.nx, ds')) := by
  intro σ H ts tcs D s q
  exact ws (ps_set hN h.ix h.loc pe_we (noComp_sw hs) h.fn) (ha ds σ H ts tcs _ s (After.of q id (fun r ds h => TkS.tk h σ) fun rv ds1 q v H1 s1 => st_ok hL s1 q))
theorem sns_expr (hs : noComp e = true) (ha : ∀ ds, SndE X L F e ds (evE G cf ce ds)) : SndS X L F (.Expr e pos) ds ((evE G cf ce ds).bind fun r => .ok (.nx, r.2)) := by
  intro σ H ts tcs D s q
  refine ws (ps_expr pe_we (noComp_sw hs)) (ha ds σ H ts tcs _ s (After.of q id (fun r ds h => TkS.tk h σ) fun rv ds1 q v H1 s1 => q σ H1 ?_))
  cases rv with
  | val d => exact SD.pop s1
  | new o => exact SD.pop s1
  | ali j => exact s1.2
theorem sns_ret (ha : ∀ ds, SndE X L F e ds (evE G cf ce ds)) : SndS X L F (.Return (some e) pos) ds ((evE G cf ce ds).bind fun r => .ok (.rt r.1, r.2)) := by
  intro σ H ts tcs D s q
  exact ws (ps_ret pe_we) (ha ds σ H ts tcs _ s (After.of q id (fun r ds h => TkS.tk h σ) fun rv ds1 q v H1 s1 => q v σ H1 s1))
theorem sns_retN : SndS X L F (.Return none pos) ds (.ok (.rt (.val .non), ds)) := fun σ H ts tcs D s q =>
  ws ps_retN (q .non σ H (SD.push s fun _ => .non))
theorem sns_if {ra rb : List Cell → RS} {sa sb : List Stmt} (hc : ∀ ds, SndT X L F c ds (tt G (evE G cf cc ds))) (ha : ∀ ds, SndB X L F sa ds (ra ds)) (hb : ∀ ds, SndB X L F sb ds (rb ds)) :
    SndS X L F (.If c sa sb pos) ds ((tt G (evE G cf cc ds)).bind fun x => if x.1 then ra x.2 else rb x.2) := by
  intro σ H ts tcs D s q
  refine ws (ps_if pt_wt pb_wb pb_wb) (hc ds σ H ts tcs _ s (After0.of q id (fun r ds h => TkS.tk h σ) fun x ds1 q H1 s1 => ?_))
  cases x with
  | true => exact iteT (ha ds1 σ H1 ts tcs D s1 q)
  | false => exact iteF (hb ds1 σ H1 ts tcs D s1 q)
/-! loops -/
theorem has_drop {rv : RV} {v : V} {kv : List V} {kc : List Cell} (hk : kv.length = kc.length) (s : Has X.K L F H σ ds [] [] v (kv ++ ts) (kc ++ tcs) rv) : Has X.K L F H σ ds [] [] v ts tcs rv := by
  cases rv with
  | val d => exact SD.dropMid hk s
  | new o => exact SD.dropMid hk s
  | ali j => exact ⟨s.1, s.2.popN hk⟩
theorem sns_for {is : List Nat} {f : List Cell → RS} (hc0 : X.calm = true) (hp : PassesOwn (model X.prog X.w) X.A X.env X.xe) (hs : ∀ x, foldedSetIterable it X.env x = pure x) (hi : ∀ ds, SndI X L F tg it ds ((vv G (evE G cf ci ds)).bind asItems)) (hg : SndG X L F tg is) (hb : ∀ ds, SndB X L F body ds (f ds)) :
    SndS X L F (.For tg it body [] pos) ds (((vv G (evE G cf ci ds)).bind asItems).bind fun l => forL is f l.1 l.2) := by
  intro σ H ts tcs D s q
  refine ws (ps_for hp hc0 pi_wi pg_wg pb_wb hs) (hi ds σ H ts tcs _ s ?_)
  cases hv : (vv G (evE G cf ci ds)).bind asItems with
  | no => rw [hv] at q; exact q
  | er r ds' => rw [hv] at q; exact TkS.tk q σ
  | ok x =>
    obtain ⟨l, ds1⟩ := x
    rw [hv] at q
    have q0 : AfterS X L F ts tcs D (forL is f l ds1) := q
    intro J kv kc H1 hk s1 gv
    refine ⟨fun k n σ' H' => ∃ ds', k + n = l.length ∧ AfterS X L F ts tcs D (forL is f (l.drop k) ds') ∧ SD X.K L F H' σ' ds' (kv ++ ts) (kc ++ tcs), ⟨l.length, ds1, by omega, q0, s1⟩, ?_⟩
    rintro k n σ' H' ⟨ds', hn, q1, s2⟩
    obtain ⟨stop, go⟩ := gv F [] [] ts tcs k σ' ds' H' rfl s2
    by_cases hlt2 : k < l.length
    · obtain ⟨g1, g2⟩ := go l[k] (List.getElem?_eq_getElem hlt2)
      rw [List.drop_eq_getElem_cons hlt2] at q1
      have q2 : AfterS X L F ts tcs D (match setTgB ds' is l[k] with
        | none => .no
        | some ds1 => (f ds1).bind fun x => match x.1 with
          | .nx => forL is f (l.drop (k + 1)) x.2
          | .ct => forL is f (l.drop (k + 1)) x.2
          | .bk => .ok (.nx, x.2)
          | .rt r => .ok (.rt r, x.2)) := q1
      cases ht : setTgB ds' is l[k] with
      | none => rw [ht] at q2; exact q2.elim
      | some dst =>
        rw [ht] at q2
        simp only at q2
        refine .inr ⟨g1, fun σ'' H'' => ∃ ds'', AfterS X L F ts tcs D (forL is f (l.drop (k + 1)) ds'') ∧ SD X.K L F H'' σ'' ds'' (kv ++ ts) (kc ++ tcs), ?_, fun x H3 y => ?_⟩
        · rintro σ3 H3 ⟨ds3, h1, h2⟩
          exact ⟨n - 1, by omega, ds3, by omega, h1, h2⟩
        · refine hg σ' H3 x l[k] ds' dst (kv ++ ts) (kc ++ tcs) _ (g2 x H3 y) (setTgB_some ht).1 (setTgB_some ht).2 fun σ4 _ s4 => hb dst σ4 H3 (kv ++ ts) (kc ++ tcs) _ s4 ?_
          match f dst, q2 with
          | .ok (.nx, ds5), q2 => exact fun σ5 H5 s5 => ⟨ds5, q2, s5⟩
          | .ok (.ct, ds5), q2 => exact fun σ5 H5 s5 => ⟨ds5, q2, s5⟩
          | .ok (.bk, ds5), q2 => exact fun σ5 H5 s5 => q2 σ5 H5 (s5.popN hk)
          | .ok (.rt rv, ds5), q2 => exact fun v σ5 H5 s5 => q2 v σ5 H5 (has_drop hk s5)
          | .er r ds5, q2 => exact TkS.upN hk q2
    · have e : k = l.length := by omega
      subst e
      rw [List.drop_length] at q1
      exact .inl ⟨stop (Nat.le_refl _), q1 σ' H' (s2.popN hk)⟩
theorem sns_while {f : List Cell → RS} (hp : PassesOwn (model X.prog X.w) X.A X.env X.xe) (hc : ∀ ds, SndT X L F c ds (tt G (evE G cf cc ds))) (hb : ∀ ds, SndB X L F body ds (f ds)) :
    SndS X L F (.While c body [] pos) ds (whileL (fun ds => tt G (evE G cf cc ds)) f W ds) := by
  intro σ H ts tcs D s q
  refine ws (ps_while hp pt_wt pb_wb) ⟨fun m σ' H' => ∃ ds', AfterS X L F ts tcs D (whileL (fun ds => tt G (evE G cf cc ds)) f m ds') ∧ SD X.K L F H' σ' ds' ts tcs, ⟨W, ds, q, s⟩, ?_⟩
  rintro m σ' H' ⟨ds', q1, s1⟩
  cases m with
  | zero => exact q1.elim
  | succ m =>
    have q2 : AfterS X L F ts tcs D ((tt G (evE G cf cc ds')).bind fun b => if b.1 then (f b.2).bind fun x => match x.1 with
        | .nx => whileL (fun ds => tt G (evE G cf cc ds)) f m x.2
        | .ct => whileL (fun ds => tt G (evE G cf cc ds)) f m x.2
        | .bk => .ok (.nx, x.2)
        | .rt r => .ok (.rt r, x.2)
      else .ok (.nx, b.2)) := q1
    refine hc ds' σ' H' ts tcs _ s1 (After0.of q2 id (fun r ds h => TkS.tk h σ') fun b ds2 q3 H2 s2 => ?_)
    cases b with
    | true =>
      refine iteT ⟨fun σ'' H'' => ∃ ds'', AfterS X L F ts tcs D (whileL (fun ds => tt G (evE G cf cc ds)) f m ds'') ∧ SD X.K L F H'' σ'' ds'' ts tcs, ?_, hb ds2 σ' H2 ts tcs _ s2 ?_⟩
      · rintro σ3 H3 ⟨ds3, h1, h2⟩
        exact ⟨m, by omega, ds3, h1, h2⟩
      · have q4 : AfterS X L F ts tcs D ((f ds2).bind fun x => match x.1 with
          | .nx => whileL (fun ds => tt G (evE G cf cc ds)) f m x.2
          | .ct => whileL (fun ds => tt G (evE G cf cc ds)) f m x.2
          | .bk => .ok (.nx, x.2)
          | .rt r => .ok (.rt r, x.2)) := q3
        match f ds2, q4 with
        | .ok (.nx, ds5), q2 => exact fun σ5 H5 s5 => ⟨ds5, q2, s5⟩
        | .ok (.ct, ds5), q2 => exact fun σ5 H5 s5 => ⟨ds5, q2, s5⟩
        | .ok (.bk, ds5), q2 => exact q2
        | .ok (.rt rv, ds5), q2 => exact q2
        | .er r ds5, q2 => exact q2
    | false => exact iteF (q3 σ' H2 s2)
end
end Ev
/-! E14: targets, changes in place, errors. -/
namespace Ev
open PySem PySem.Spec PyProof.Rows L2 Sg
section
variable {X : Cx} {L : Kl} {F : Fm} {G : Gm} {cf : CallF} {k W : Nat} {ds : List Cell} {σ : L2.St} {H : Hp} {ts vs : List V} {tcs : List Cell} {dvs l : List Dt} {D : Ends} {a b c e tg it : Expr} {pos p : Pos} {ca cb cc ce ck ci cs : CE} {x y z : Str} {st : Stmt} {rest body : List Stmt} {r : RS} {i j n : Nat} {is : List Nat}
theorem sns_asg (hL : L.fl = G.fl) (h1 : noComp e = true) (hw : swappedStores [tg] e X.env = pure none) (hae : (assignEach [tg] X.env).map (·.2) = [assign tg X.env])
    (hg : SndG X L F tg is) (ha : ∀ ds, SndE X L F e ds (evE G cf ce ds)) :
    SndS X L F (.Assign [tg] e pos) ds ((vv G (evE G cf ce ds)).bind fun x => setR x.2 is x.1) := by
  intro σ H ts tcs D s q
  refine ws (ps_asg pe_we pg_wg (noComp_sole h1) hw hae) ((ha ds).v hL s (AfterV.of q id (fun r ds h => TkS.tk h σ) fun d ds1 q v H1 s1 => ?_))
  unfold setR at q
  cases ht : setTgB ds1 is d with
  | none => rw [ht] at q; exact q.elim
  | some ds2 =>
    rw [ht] at q
    exact hg σ H1 v d ds1 ds2 ts tcs _ s1 (setTgB_some ht).1 (setTgB_some ht).2 fun σ' _ s2 => q σ' H1 s2
theorem vv_tup : vv G (evE G cf (.tup cs) ds) = (evA G cf cs ds).bind fun x => if x.1.length ≤ sizeLine then .ok (.tup x.1, x.2) else .no := by
  show Res.bind (Res.bind (evA G cf cs ds) _) _ = _
  rw [bind_assoc]
  congr 1
  funext x
  by_cases h : x.1.length ≤ sizeLine
  · show Res.bind (opt (okV (decide (x.1.length ≤ sizeLine)) (Dt.tup x.1)) x.2) _ = _
    rw [decide_eq_true h, if_pos h]
    rfl
  · show Res.bind (opt (okV (decide (x.1.length ≤ sizeLine)) (Dt.tup x.1)) x.2) _ = _
    rw [decide_eq_false h, if_neg h]
    rfl
/-- a, b = x, y -/
theorem sns_par {kt k2 : Nat} {px py pt pt2 : Pos} (hc0 : X.calm = true) (hN : X.N.Nodup) (hi : X.N[i]? = some x) (hj : X.N[j]? = some y) (hij : i ≠ j) (hx : X.env.scope.names.lookup x = some .local) (hy : X.env.scope.names.lookup y = some .local)
    (hw : swappedStores [.Tuple [.Name x px, .Name y py] kt pt] (.Tuple [a, b] k2 pt2) X.env = pure (some [x, y])) (ha : ∀ ds, SndA X L F [a, b] ds (evA G cf cs ds)) :
    SndS X L F (.Assign [.Tuple [.Name x px, .Name y py] kt pt] (.Tuple [a, b] k2 pt2) pos) ds ((vv G (evE G cf (.tup cs) ds)).bind fun x => setR x.2 [i, j] x.1) := by
  intro σ H ts tcs D s q
  rw [vv_tup, bind_assoc] at q
  refine ws (ps_par hc0 hN hi hj hij hx hy pa_wa hw rfl) (ha ds σ H ts tcs _ s (AfterA.of q id (fun r ds h => TkS.tk h σ) fun l ds1 q vs H1 hl s1 => ?_))
  by_cases hz : l.length ≤ sizeLine
  · simp only [if_pos hz] at q
    have q' : AfterS X L F ts tcs D (setR ds1 [i, j] (.tup l)) := q
    unfold setR at q'
    cases ht : setTgB ds1 [i, j] (.tup l) with
    | none => rw [ht] at q'; exact q'.elim
    | some ds2 =>
      rw [ht] at q'
      have hb := (setTgB_some ht).2
      have ht' : (if [i, j].length = l.length then some (([i, j].zip l).foldl (fun ds p => ds.set p.1 (.im p.2)) ds1) else none) = some ds2 := (setTgB_some ht).1
      match l, vs, hl, s1, ht' with
      | [d1, d2], [v, w], _, s1, ht' =>
        have e2 : (ds1.set i (.im d1)).set j (.im d2) = ds2 := by simpa using ht'
        subst e2
        have s1' : SD X.K L F H1 σ ds1 (v :: w :: ts) (.im d1 :: .im d2 :: tcs) := s1
        have s2 := s1'.store (i := i) (by simp) (hb i (by simp))
        have s3 := s2.store (i := j) (by simp) (by rw [List.length_set]; exact hb j (by simp))
        exact ⟨v, w, rfl, q' _ H1 s3⟩
      | [], _, _, _, ht' => simp at ht'
      | [_], _, _, _, ht' => simp at ht'
      | _ :: _ :: _ :: _, _, _, _, ht' => simp at ht'
  · simp only [if_neg hz] at q
    exact q.elim
theorem sns_par3 {kt k2 i2 : Nat} {px py pz pt pt2 : Pos} {d : Expr} (hc0 : X.calm = true) (hN : X.N.Nodup) (hi : X.N[i]? = some x) (hj : X.N[j]? = some y) (hk : X.N[i2]? = some z) (hij : i ≠ j) (hik : i ≠ i2) (hjk : j ≠ i2) (hx : X.env.scope.names.lookup x = some .local) (hy : X.env.scope.names.lookup y = some .local) (hz : X.env.scope.names.lookup z = some .local)
    (hw : swappedStores [.Tuple [.Name x px, .Name y py, .Name z pz] kt pt] (.Tuple [a, b, d] k2 pt2) X.env = pure (some [x, y, z])) (ha : ∀ ds, SndA X L F [a, b, d] ds (evA G cf cs ds)) :
    SndS X L F (.Assign [.Tuple [.Name x px, .Name y py, .Name z pz] kt pt] (.Tuple [a, b, d] k2 pt2) pos) ds ((vv G (evE G cf (.tup cs) ds)).bind fun x => setR x.2 [i, j, i2] x.1) := by
  intro σ H ts tcs D s q
  rw [vv_tup, bind_assoc] at q
  refine ws (ps_par3 hc0 hN hi hj hk hij hik hjk hx hy hz pa_wa hw rfl) (ha ds σ H ts tcs _ s (AfterA.of q id (fun r ds h => TkS.tk h σ) fun l ds1 q vs H1 hl s1 => ?_))
  by_cases hzl : l.length ≤ sizeLine
  · simp only [if_pos hzl] at q
    have q' : AfterS X L F ts tcs D (setR ds1 [i, j, i2] (.tup l)) := q
    unfold setR at q'
    cases ht : setTgB ds1 [i, j, i2] (.tup l) with
    | none => rw [ht] at q'; exact q'.elim
    | some ds2 =>
      rw [ht] at q'
      have hb := (setTgB_some ht).2
      have ht' : (if [i, j, i2].length = l.length then some (([i, j, i2].zip l).foldl (fun ds p => ds.set p.1 (.im p.2)) ds1) else none) = some ds2 := (setTgB_some ht).1
      match l, vs, hl, s1, ht' with
      | [d1, d2, d3], [v, w, u], _, s1, ht' =>
        have e2 : ((ds1.set i (.im d1)).set j (.im d2)).set i2 (.im d3) = ds2 := by simpa using ht'
        subst e2
        have s1' : SD X.K L F H1 σ ds1 (v :: w :: u :: ts) (.im d1 :: .im d2 :: .im d3 :: tcs) := s1
        have s2 := s1'.store (i := i) (by simp) (hb i (by simp))
        have s3 := s2.store (i := j) (by simp) (by rw [List.length_set]; exact hb j (by simp))
        have s4 := s3.store (i := i2) (by simp) (by rw [List.length_set, List.length_set]; exact hb i2 (by simp))
        exact ⟨v, w, u, rfl, q' _ H1 s4⟩
      | [], _, _, _, ht' => simp at ht'
      | [_], _, _, _, ht' => simp at ht'
      | [_, _], _, _, _, ht' => simp at ht'
      | _ :: _ :: _ :: _ :: _, _, _, _, ht' => simp at ht'
  · simp only [if_neg hzl] at q
    exact q.elim
/-- a name's facts when it is read -/
structure VrN (X : Cx) (x : Str) (i : Nat) : Prop where
  ix : X.N[i]? = some x
  vis : Vis X.env.scope x
  nd : (x == ("__debug__" : Str)) = false
  nc : (x == ("__classdict__" : Str)) = false
theorem VrN.pe (h : VrN X x i) : PE X (.Name x pos) (tVar i) := pe_var h.ix h.vis h.nd h.nc
theorem ownL_eq {b : Bool} {l : List Dt} {ds ds' : List Cell} (h : ownL i ds = .ok (b, l)) : ds[i]? = some (.own b (.lst l)) := by
  unfold ownL at h
  split at h
  · rename_i e
    cases h
    exact e
  · cases h
theorem ownL_cases (ds : List Cell) (i : Nat) : (∃ b l, ownL i ds = .ok (b, l) ∧ ds[i]? = some (.own b (.lst l))) ∨ ownL i ds = .no := by
  unfold ownL
  split
  · exact .inl ⟨_, _, rfl, ‹_›⟩
  · exact .inr rfl
def ixR (i : Nat) (d : Dt) (n : Int) (l : Bool × List Dt) (ds : List Cell) : RS := match ixN l.2.length n with
  | some n => .ok (.nx, ds.set i (.own l.1 (.lst (l.2.set n d))))
  | none => .no
theorem sns_setIx {tp : Pos} (hL : L.fl = G.fl) (hv : VrN X x i) (h1 : noComp e = true) (hn : notSlice b = true) (ha : ∀ ds, SndE X L F e ds (evE G cf ce ds)) (hb : ∀ ds, SndE X L F b ds (evE G cf ck ds)) :
    SndS X L F (.Assign [.Subscript (.Name x p) b tp] e pos) ds ((vv G (evE G cf ce ds)).bind fun x => (ownL i x.2).bind fun _ => ((vv G (evE G cf ck x.2)).bind asInt).bind fun y => (ownL i y.2).bind fun l => ixR i x.1 y.1 l y.2) := by
  intro σ H ts tcs D s q
  have hsa : ∀ v, assign (.Subscript (.Name x p) b tp) X.env v = (do
      let ov ← holding [v] (eval (.Name x p) X.env)
      let iv ← holding [v, ov] (eval b X.env)
      standAt tp
      holding [v, ov, iv] (setItem ov iv v)
      release [v, ov, iv] []) := by
    intro v
    cases b <;> first | rfl | cases hn
  have h3 : (assignEach [.Subscript (.Name x p) b tp] X.env).map (·.2) = [assign (.Subscript (.Name x p) b tp) X.env] := by rfl
  have h2 : swappedStores [.Subscript (.Name x p) b tp] e X.env = pure none := by
    cases e <;> rfl
  refine ws (ps_asg pe_we (pg_sub hv.pe pe_we set_list hsa) (noComp_sole h1) h2 h3) ((ha ds).v hL s (AfterV.of q id (fun r ds h => TkS.tk h σ) fun d ds1 q v H1 s1 => ?_))
  rcases ownL_cases ds1 i with ⟨b1, l1, e1, o1⟩ | e1
  · rw [e1] at q
    obtain ⟨p1, h1', a1, a2, -⟩ := SD.ownS (vs := []) (dvs := []) rfl s1 o1
    refine ⟨.ref p1, a1, (hb ds1).v hL s1 (AfterV.int q id (fun r ds h => Tk.up (TkS.tk h σ)) fun n ds2 q2 H2 s2 => ?_)⟩
    rcases ownL_cases ds2 i with ⟨b2, l2, e2, o2⟩ | e2
    · have q3 : AfterS X L F ts tcs D ((ownL i ds2).bind fun l => ixR i d n l ds2) := q2
      rw [e2] at q3
      have q4 : AfterS X L F ts tcs D (ixR i d n (b2, l2) ds2) := q3
      unfold ixR at q4
      obtain ⟨p2, h2', c1, c2, c3, c4, c5, c6⟩ := SD.ownS (vs := [v]) (dvs := [d]) rfl s2 o2
      have hp : p1 = p2 := by
        have := a1.symm.trans c1
        simpa using this
      subst hp
      cases c3 with
      | lst r3 =>
        rename_i xs
        have hl := r3.length
        cases hn2 : ixN l2.length n with
        | none => simp only [hn2] at q4; exact q4.elim
        | some m =>
          simp only [hn2] at q4
          refine ⟨p1, xs, n, m, rfl, rfl, c2, by rw [hl]; exact hn2, q4 σ _ ?_⟩
          have := c6 (.lst (xs.set m v)) (.lst (l2.set m d)) [] [] fun Hh _ o r => by
            cases o with
            | lst r4 =>
              cases r with
              | cons im _ => exact ⟨.lst (r4.set m im), .nil⟩
          simpa using this
    · have q3 : AfterS X L F ts tcs D ((ownL i ds2).bind fun l => ixR i d n l ds2) := q2
      rw [e2] at q3
      exact q3.elim
  · rw [e1] at q
    exact q.elim
theorem putF_new {f : Str} {v : V} : ∀ {fs : List (Str × V)}, f ∉ fs.map (·.1) → putF f v fs = fs ++ [(f, v)]
  | [], _ => rfl
  | (g, u) :: r, h => by
    rw [List.map_cons, List.mem_cons] at h
    show (if g = f then (g, v) :: r else (g, u) :: putF f v r) = _
    rw [if_neg fun e => h (.inl e.symm), putF_new fun e => h (.inr e)]
    rfl
theorem OAt.insInv {K : PySem.W.Frag} {Hh : Hp} {h : HO} {c : Nat} {ns : List Str} {l : List Dt} (o : OAt K L Hh h (.ins c ns l)) : ∃ dx fs, h = .ins (L.ad c) dx fs ∧ fs.map (·.1) = ns ∧ Ims K L Hh (fs.map (·.2)) l := by
  cases o with
  | ins n r => exact ⟨_, _, rfl, n, r⟩
theorem sns_fld {f : Nat} {p2 : Pos} (hL : L.fl = G.fl) (C : Ctx X L G cf k) (hv : VrN X x i) (h1 : noComp e = true) (ha : ∀ ds, SndE X L F e ds (evE G cf ce ds)) :
    SndS X L F (.Assign [.Attribute (.Name x p) (G.nm f) p2] e pos) ds ((vv G (evE G cf ce ds)).bind fun x => (fldR G i f x.1 x.2).bind fun ds' => .ok (.nx, ds')) := by
  intro σ H ts tcs D s q
  refine ws (ps_fld hv.pe pe_we (noComp_sw h1)) ((ha ds).v hL s (AfterV.of q id (fun r ds h => TkS.tk h σ) fun d ds1 q v H1 s1 => ?_))
  unfold fldR at q
  split at q
  · rename_i b c ns l o1
    split at q
    · rename_i hh
      obtain ⟨g1, g2, g3, g4⟩ := hh
      have q' : AfterS X L F ts tcs D (.ok (.nx, ds1.set i (.own b (.ins c (ns ++ [G.nm f]) (l ++ [d]))))) := q
      obtain ⟨p1, h1', a1, a2, a3, a4, a5, a6⟩ := SD.ownS (vs := [v]) (dvs := [d]) rfl s1 o1
      obtain ⟨dx, fs, rfl, n3, r3⟩ := a3.insInv
      have en : putF (G.nm f) v fs = fs ++ [(G.nm f, v)] := putF_new (n3 ▸ g3)
      have hl := r3.length
      rw [List.length_map] at hl
      refine ⟨.ref p1, a1, p1, _, dx, fs, rfl, a2, (C.kcl c g1).cl, (C.kcl c g1).na _ (hL ▸ g2), by omega, ?_⟩
      rw [en]
      refine q' σ _ ?_
      have := a6 (.ins (L.ad c) dx (fs ++ [(G.nm f, v)])) (.ins c (ns ++ [G.nm f]) (l ++ [d])) [] [] fun Hh _ o r => by
        cases r with
        | cons im _ =>
          refine ⟨.ins (by rw [List.map_append, n3]; rfl) ?_, .nil⟩
          rw [List.map_append]
          obtain ⟨dx', fs', e, -, r4⟩ := o.insInv
          cases e
          exact r4.append (.cons im .nil)
      simpa using this
    · exact q.elim
  · exact q.elim
theorem sns_app {p1 apos cpos : Pos} (hL : L.fl = G.fl) (hv : VrN X x i) (h1 : star1 e = false) (hline : (apos.endLine == cpos.line) = true) (ha : ∀ ds, SndE X L F e ds (evE G cf ce ds)) :
    SndS X L F (.Expr (.Call (.Attribute (.Name x p1) "append" apos) [e] [] cpos) pos) ds ((ownL i ds).bind fun _ => (vv G (evE G cf ce ds)).bind fun x => (ownL i x.2).bind fun l => if l.2.length < sizeLine then .ok (.nx, x.2.set i (.own l.1 (.lst (l.2 ++ [x.1])))) else .no) := by
  intro σ H ts tcs D s q
  rcases ownL_cases ds i with ⟨b1, l1, e1, o1⟩ | e1
  · rw [e1] at q
    obtain ⟨p1, h1', a1, a2, a3, -⟩ := SD.ownS (vs := []) (dvs := []) rfl s o1
    have hs : starEach [e] X.env = (false, eval e X.env) :: starEach [] X.env := starEach_cons h1
    cases a3 with
    | lst r3 =>
      rename_i xs
      refine ws (ps_expr (pe_bm PySem.F.plainAttrs_list PySem.F.slot_list_append PySem.F.type_list_append mt_append hv.pe (pa_cons pe_we pa_nil hs) rfl (by rw [hs]; rfl) hline hs rfl) rfl) ?_
      refine ⟨.ref p1, a1, .inl ⟨rfl, xs, SqL.of a2⟩, (ha ds).v hL s (AfterV.of q id (fun r ds h => TkS.tk h σ) fun d ds1 q v H1 s1 => ?_)⟩
      rcases ownL_cases ds1 i with ⟨b2, l2, e2, o2⟩ | e2
      · have q3 : AfterS X L F ts tcs D ((ownL i ds1).bind fun l => if l.2.length < sizeLine then .ok (.nx, ds1.set i (.own l.1 (.lst (l.2 ++ [d])))) else .no) := q
        rw [e2] at q3
        have q4 : AfterS X L F ts tcs D (if l2.length < sizeLine then .ok (.nx, ds1.set i (.own b2 (.lst (l2 ++ [d])))) else .no) := q3
        obtain ⟨p2, h2', c1, c2, c3, c4, c5, c6⟩ := SD.ownS (vs := [v]) (dvs := [d]) rfl s1 o2
        have hp : p1 = p2 := by
          have := a1.symm.trans c1
          simpa using this
        subst hp
        cases c3 with
        | lst r4 =>
          rename_i ys
          split at q4
          · rename_i hz
            refine ⟨p1, ys, v, rfl, rfl, c2, by rw [r4.length]; exact hz, q4 σ _ ?_⟩
            have := c6 (.lst (ys ++ [v])) (.lst (l2 ++ [d])) [] [] fun Hh _ o r => by
              cases o with
              | lst r5 =>
                cases r with
                | cons im _ => exact ⟨.lst (r5.append (.cons im .nil)), .nil⟩
            simpa using this
          · exact q4.elim
      · have q3 : AfterS X L F ts tcs D ((ownL i ds1).bind fun l => if l.2.length < sizeLine then .ok (.nx, ds1.set i (.own l.1 (.lst (l.2 ++ [d])))) else .no) := q
        rw [e2] at q3
        exact q3.elim
  · rw [e1] at q
    exact q.elim
end
end Ev
/-! E15: raise, try. -/
namespace Ev
open PySem PySem.Spec PyProof.Rows L2 Sg
/-- an own exception class without an __init__ -/
structure KExc (X : Cx) (L : Kl) (x : Str) (n : Nat) : Prop where
  ex : ∃ (C : Addr) (B newId initId : String) (bmB : List Value), L.xv n = .ref C ∧ ExcBaseFacts B newId initId bmB ∧ PySem.W.excIn X.K C bmB newId = true ∧ X.mg x = some (.ref C) ∧ PySem.W.keepIn X.K (.ref C) = true ∧
    PySem.W.subIn X.K (.ref C) (.type "BaseException") = some true ∧ PySem.W.typeIn X.K (.ref C) = some (.type "type")
/-- a built-in one -/
structure KExb (L : Kl) (x : Str) (n : Nat) : Prop where
  ex : ∃ T N I : String, L.xv n = .type T ∧ ExcB T N I ∧ bootBuiltins x = some (.type T)
  nn : x ≠ "__name__"
section
variable {X : Cx} {L : Kl} {F : Fm} {G : Gm} {cf : CallF} {k W : Nat} {ds : List Cell} {σ : L2.St} {H : Hp} {ts vs : List V} {tcs : List Cell} {dvs l : List Dt} {D : Ends} {a b c e tg it : Expr} {pos p pc : Pos} {ca cb cc ce ck ci cs : CE} {x y z : Str} {st : Stmt} {rest body : List Stmt} {r : RS} {i j n : Nat} {is : List Nat}
def raiseR (G : Gm) (cf : CallF) (n : Nat) (l : Res (List Dt × List Cell)) : RS := l.bind fun l => raiseD G cf n l.1 l.2
theorem raiseD_none {dvs : List Dt} (h : G.eini n = none) : raiseD G cf n dvs ds = (G.mkE n dvs).elim .no fun r => .er r ds := by unfold raiseD; rw [h]
theorem sns_raise (hL : L.fl = G.fl) (hi : G.eini n = none) (hc0 : X.calm = true) (hx : KExc X L x n) (hm : ∀ d r, G.mkE n [d] = some r → r = ⟨n, none⟩) (hg : Gl X x) (hdb : (x == ("__debug__" : Str)) = false) (h1 : star1 e = false) (ha : ∀ ds, SndE X L F e ds (evE G cf ce ds)) :
    SndS X L F (.Raise (some (.Call (.Name x p) [e] [] pc)) none pos) ds (raiseR G cf n (evA G cf (.cons ce .nil) ds)) := by
  intro σ H ts tcs D s q
  obtain ⟨C, B, newId, initId, bmB, e1, e2, e3, e4, e5, e6, e7⟩ := hx.ex
  have q' : AfterS X L F ts tcs D ((vv G (evE G cf ce ds)).bind fun y => ((Res.ok (([] : List Dt), y.2)).bind fun l => Res.ok (y.1 :: l.1, l.2)).bind fun l => raiseD G cf n l.1 l.2) := by
    unfold raiseR at q
    have e9 : evA G cf (.cons ce .nil) ds = (vv G (evE G cf ce ds)).bind fun y => ((Res.ok (([] : List Dt), y.2)).bind fun l => Res.ok (y.1 :: l.1, l.2)) := rfl
    rw [e9, bind_assoc] at q
    exact q
  -- the error is the context's, whatever it is that is told
  have tk : ∃ W : WX, Takes X W ∧ WE X e σ H fun _ H1 => W (.ref C) none σ H1 := by
    cases hv : vv G (evE G cf ce ds) with
    | no => rw [hv] at q'; exact q'.elim
    | er r ds' =>
      rw [hv] at q'
      exact ⟨_, takes_never X, (ha ds).v hL s (by rw [hv]; exact TkS.tk q' σ)⟩
    | ok y =>
      obtain ⟨d, ds1⟩ := y
      rw [hv] at q'
      have q2 : AfterS X L F ts tcs D (raiseD G cf n [d] ds1) := q'
      rw [raiseD_none hi] at q2
      cases hm' : G.mkE n [d] with
      | none => rw [hm'] at q2; exact q2.elim
      | some r =>
        rw [hm'] at q2
        obtain rfl := hm d r hm'
        obtain ⟨W, t, f⟩ := q2
        refine ⟨W, t, (ha ds).v hL s ?_⟩
        rw [hv]
        exact fun v H1 s1 => f (.ref C) none σ H1 s1.pop ⟨e1.symm, rfl⟩
  obtain ⟨W, t, w⟩ := tk
  exact ws (ps_raise hc0 t (SkE.pmk_own1 e2 e3 e4 e5 (raises_own e6 e7) hg pe_we (starEach_cons h1) hdb)) w
theorem sns_raiseB {m : Str} {j : Nat} {p2 : Pos} (hi : G.eini n = none) (hc0 : X.calm = true) (hx : KExb L x n) (hm : ∀ d r, G.mkE n [d] = some r → r = ⟨n, none⟩) (hm0 : X.mg x = none) (hg : Gl X x) (hdb : (x == ("__debug__" : Str)) = false) :
    SndS X L F (.Raise (some (.Call (.Name x p) [.Constant (.str m) j p2] [] pc)) none pos) ds (raiseR G cf n (evA G cf (.cons (.lit (.str m.cps.toList)) .nil) ds)) := by
  intro σ H ts tcs D s q
  obtain ⟨T, N, I, e1, e2, e3⟩ := hx.ex
  have q2 : AfterS X L F ts tcs D (raiseD G cf n [.str m.cps.toList] ds) := q
  rw [raiseD_none hi] at q2
  cases hm' : G.mkE n [.str m.cps.toList] with
  | none => rw [hm'] at q2; exact q2.elim
  | some r =>
    rw [hm'] at q2
    obtain rfl := hm _ r hm'
    obtain ⟨W, t, f⟩ := q2
    exact ws (ps_raiseB hc0 t e2 hg hm0 e3 hx.nn hdb) (f (.type T) none σ H s ⟨e1.symm, rfl⟩)
end
end Ev
/-! X1: own exception classes with an __init__ of their own, over any built-in one. -/
namespace PySem
namespace XI
open PySem.W PySem.Calls PyProof.Rows PySem.HandSPX Builtin Builtin.ObjectAttr
/-- a built-in class of exceptions below which an own one stands -/
structure XBase (B nw ini : String) (tl : List Value) : Prop where
  f : ExcBaseFacts B nw ini tl
  pass : ∀ self : Value, refuseLoop self "__setattr__" tl = pure ()
  ob : tl.contains (.type "object") = true
/-- own classes, then the built-in one's order -/
def own (rs : List Addr) (tl : List Value) : List Value := rs.map Value.ref ++ tl
theorem own_pass {tl : List Value} (h : ∀ self : Value, refuseLoop self "__setattr__" tl = pure ()) (self : Value) : ∀ rs : List Addr, refuseLoop self "__setattr__" (own rs tl) = pure ()
  | [] => h self
  | r :: rs => by
    show refuseLoop self "__setattr__" (.ref r :: own rs tl) = _
    rw [refuseLoop_ref]; exact own_pass h self rs
theorem own_has (X : String) {tl : List Value} : ∀ rs : List Addr, (own rs tl).contains (.type X) = tl.contains (.type X)
  | [] => rfl
  | r :: rs => by
    show (Value.ref r :: own rs tl).contains (.type X) = _
    rw [List.contains_cons, own_has X rs]; rfl
theorem own_ne {tl : List Value} (h : tl.contains (.type "object") = true) : ∀ rs : List Addr, (own rs tl).isEmpty = false
  | [] => by cases tl with
    | nil => cases h
    | cons => rfl
  | _ :: _ => rfl
section
variable {P : Program} {w : World} {A : Around} {E : Value → Shared → Prop} {R : Result → Shared → Prop} {hp : Heap} {g : Array GenState} {d : Drawn} {t : Nat} {os : OsState}
/-- the first field -/
theorem set_new {K : W.Frag} {nm : Str} {tk : Tok} {u : Value} {e C : Addr} {fv : Array Value} {cd : ClassData} {rs : List Addr} {tl : List Value} (ps : ∀ self : Value, refuseLoop self "__setattr__" tl = pure ()) (ob : tl.contains (.type "object") = true)
    (X : K.In hp) (he : hp.get? e = some { cls := .ref C, data := .fields fv }) (hcd : W.clsIn K C = some cd) (hm : cd.mro = own rs tl) (hh : cd.hasDict = true) (ha : W.findIn K (.ref C) nm = some none)
    (hq : ∀ h' tk' dx, (∀ b o, b ≠ e → hp.get? b = some o → h'.get? b = some o) → hp.objs.size ≤ dx → dx ≠ e → h'.get? e = some { cls := .ref C, dict := some dx, data := .fields fv } → h'.Ns1 dx (fun y => if y = nm then some u else none) → R (.ok (.ret .none)) ⟨h', g, d, tk', os⟩) :
    codeAny (model P w) A (.call (.builtin "object.__setattr__") ⟨[.ref e, .str nm tk, u], []⟩) R ⟨hp, g, d, t, os⟩ := by
  have I : W.InstAt hp e { cls := .ref C, data := .fields fv } C none := ⟨he, rfl, rfl, trivial⟩
  have SF := F.store_object; have ne := own_ne ob rs
  have hob : cd.mro.contains (.type "object") = true := by rw [hm, own_has]; exact ob
  have ne' : cd.mro.isEmpty = false := by rw [hm]; exact ne
  have hes : e ≠ hp.objs.size := Nat.ne_of_lt (Heap.lt_size he)
  have sub : W.Looks (model P w) hp (isInstance (.ref e) (.type "object")) true := I.type.andThen (W.looks_mroIn X (by unfold W.mroIn; rw [hcd, Option.bind_some, if_neg (by rw [ne']; decide), hob]))
  refine codeAny_call_builtin SF.slot.plain SF.entry (@W.check_slot (model P w) _ _ ⟨hp, g, d, t, os⟩ "object.__setattr__" "object" "__setattr__" (.ref e) [.str nm tk, u] [] _ SF.kind SF.split sub (SF.args (.ref e) (.str nm tk) u) ?_)
  have hmr : W.Looks (model P w) hp (mroOf (.ref C)) cd.mro := (W.looks_clsIn X hcd).andThen .now; have L3 : W.Looks (model P w) hp (storeTaker? none) none := .now
  have hcls : W.Looks (model P w) hp (classData C) cd := W.looks_clsIn X hcd
  rw [W.osa_eq, refuse_eq]; refine wpAny_bind (wpAny_bind (I.type.at (wpAny_bind (hmr.at ?_))))
  rw [hm, own_pass ps]; refine wpAny_pure (wpAny_bind (I.type.at (wpAny_bind ((W.looks_findIn X ha).at (wpAny_bind (L3.at ?_))))))
  show wpAny _ _ (storeInOwnDict (.ref e) (.ref C) (.str nm tk) nm u false) _ _ _
  obtain ⟨cn, bs, mro, ns, qn, hd, sn, sb, ab, col, del⟩ := cd
  dsimp only at hh; subst hh
  unfold storeInOwnDict ownDictForStores
  repeat (first | with_reducible refine store_in_new ?_ ?_ | with_reducible refine wpAny_loadPart_at he ?_ | with_reducible refine hcls.at ?_ | wp_step)
  · exact ⟨_, #[], _, (Heap.get?_update_ne _ _ _ _ hes.symm).trans (Heap.get?_push_at rfl rfl), rfl, fun z hz => absurd hz (by simp), fun _ => rfl⟩
  · intro h' tk' hn' hs
    have he₁ : (hp.push { cls := .type "dict", data := .dict #[] }).get? e = some { cls := .ref C, data := .fields fv } := Heap.get?_push_of_some _ he
    refine hq h' tk' hp.objs.size (fun b o hb ho => ?_) (Nat.le_refl _) hes.symm ?_ hn'
    · exact (hs.2 b (Nat.ne_of_lt (Heap.lt_size ho))).trans ((Heap.get?_update_ne _ _ _ _ hb).trans (Heap.get?_push_of_some _ ho))
    · exact (hs.2 e hes).trans (Heap.get?_update_self _ he₁ rfl)
/-- a further one -/
theorem set_old {K : W.Frag} {nm : Str} {tk : Tok} {u : Value} {e C dx : Addr} {fv : Array Value} {cd : ClassData} {m0 : Str → Option Value} {nl : List Str} {rs : List Addr} {tl : List Value} (ps : ∀ self : Value, refuseLoop self "__setattr__" tl = pure ()) (ob : tl.contains (.type "object") = true)
    (X : K.In hp) (he : hp.get? e = some { cls := .ref C, dict := some dx, data := .fields fv }) (hns : hp.Ns1 dx m0) (hw : Within m0 nl) (hz : nl.length ≤ 1000) (hcd : W.clsIn K C = some cd) (hm : cd.mro = own rs tl) (hh : cd.hasDict = true) (ha : W.findIn K (.ref C) nm = some none)
    (hq : ∀ h' tk', (∀ b o, b ≠ dx → hp.get? b = some o → h'.get? b = some o) → h'.Ns1 dx (fun y => if y = nm then some u else m0 y) → R (.ok (.ret .none)) ⟨h', g, d, tk', os⟩) :
    codeAny (model P w) A (.call (.builtin "object.__setattr__") ⟨[.ref e, .str nm tk, u], []⟩) R ⟨hp, g, d, t, os⟩ := by
  obtain ⟨oD, esD, epD, hoD, hdD, _⟩ := hns.count hw
  have I : W.InstAt hp e { cls := .ref C, dict := some dx, data := .fields fv } C (some oD) := ⟨he, rfl, rfl, hoD⟩
  have SF := F.store_object; have ne := own_ne ob rs
  have hob : cd.mro.contains (.type "object") = true := by rw [hm, own_has]; exact ob
  have ne' : cd.mro.isEmpty = false := by rw [hm]; exact ne
  have sub : W.Looks (model P w) hp (isInstance (.ref e) (.type "object")) true := I.type.andThen (W.looks_mroIn X (by unfold W.mroIn; rw [hcd, Option.bind_some, if_neg (by rw [ne']; decide), hob]))
  refine codeAny_call_builtin SF.slot.plain SF.entry (@W.check_slot (model P w) _ _ ⟨hp, g, d, t, os⟩ "object.__setattr__" "object" "__setattr__" (.ref e) [.str nm tk, u] [] _ SF.kind SF.split sub (SF.args (.ref e) (.str nm tk) u) ?_)
  have hmr : W.Looks (model P w) hp (mroOf (.ref C)) cd.mro := (W.looks_clsIn X hcd).andThen .now; have L3 : W.Looks (model P w) hp (storeTaker? none) none := .now
  have hcls : W.Looks (model P w) hp (classData C) cd := W.looks_clsIn X hcd
  rw [W.osa_eq, refuse_eq]; refine wpAny_bind (wpAny_bind (I.type.at (wpAny_bind (hmr.at ?_))))
  rw [hm, own_pass ps]; refine wpAny_pure (wpAny_bind (I.type.at (wpAny_bind ((W.looks_findIn X ha).at (wpAny_bind (L3.at ?_))))))
  show wpAny _ _ (storeInOwnDict (.ref e) (.ref C) (.str nm tk) nm u false) _ _ _
  obtain ⟨cn, bs, mro, ns, qn, hd, sn, sb, ab, col, del⟩ := cd
  dsimp only at hh; subst hh
  unfold storeInOwnDict ownDictForStores
  repeat (first | with_reducible refine PySem.OEX.store_in_old hns hw hz ?_ | with_reducible refine wpAny_loadPart_at he ?_ | with_reducible refine hcls.at ?_ | wp_step)
  intro h' tk' hn' hs
  exact hq h' tk' (fun b o hb ho => (hs.2 b hb).trans ho) hn'
end
end XI
end PySem
/-! X2: .. as rules. -/
namespace Ev
open PySem PySem.Spec PyProof.Rows L2 Sg PySem.XI
/-- what the written part says of the class -/
structure XCls (K : PySem.W.Frag) (C : Addr) (B nw ini : String) (tl : List Value) : Prop where
  b : XBase B nw ini tl
  cls : ∃ nm q N bs rs sn sub ab col dd k0 k1 k2 k3 k5, K.lookup C = some (excClassObj nm q C N bs (own rs tl) true sn sub ab col dd k0 k1 k2 k3 k5 nw)
  sa : PySem.W.findIn K (.ref C) "__setattr__" = some (some (.builtin "object.__setattr__"))
  ex : PySem.W.subIn K (.ref C) (.type "BaseException") = some true
  ty : PySem.W.typeIn K (.ref C) = some (.type "type")
  kp : PySem.W.keepIn K (.ref C) = true
section
variable {X : Cx} {pins : List (Addr × Obj)} {σ : L2.St} {H : Hp} {s : Shared} {a C dx : Addr} {f : Str} {y : V} {u : Value} {fs : List (Str × V)} {Q : Unit → Shared → Prop} {E : Value → Shared → Prop} {A : Around} {B nw ini : String} {tl : List Value}
theorem XCls.cd (T : XCls X.K C B nw ini tl) : ∃ cd rs, PySem.W.clsIn X.K C = some cd ∧ cd.mro = own rs tl ∧ cd.hasDict = true := by
  obtain ⟨nm, q, N, bs, rs, sn, sub, ab, col, dd, k0, k1, k2, k3, k5, hC⟩ := T.cls
  refine ⟨{ name := nm, bases := bs, mro := .ref C :: own rs tl, ns := N, qualname := q, hasDict := true, slotNames := sn, subclasses := sub, abstract := ab, collection := col, hasDel := false }, C :: rs, ?_, rfl, rfl⟩
  unfold PySem.W.clsIn; rw [hC] <;> rfl
theorem xst_new (T : XCls X.K C B nw ini tl) (I : Inv X pins σ H s) (e : H a = some (exo a C none)) (hno : PySem.W.findIn X.K (.ref C) f = some none) (ry : RelV y u)
    (h : ∀ dx s', H dx = none → dx ≠ a → Inv X pins σ (upd (upd H dx (exd dx [(f, y)])) a (exo a C (some dx))) s' → Q () s') : wpAny (model X.prog X.w) A (setAttr (.ref a) f u) Q E s := by
  obtain ⟨cd, rs, hcl, hmr, hhd⟩ := T.cd
  obtain ⟨t1, ho⟩ := exo_at I.hok e; obtain ⟨hp, g, d, t, os⟩ := s
  refine PySem.W.set_plain I.kIn (ox := { cls := .ref C, dict := none, data := .fields #[.ref t1, .none, .none, .none, .bool false, .none] }) (od := none) ⟨ho, rfl, rfl, trivial⟩ T.sa (set_new T.b.pass T.b.ob I.kIn ho hcl hmr hhd hno fun h' tk' dx k dn dne hx hn => ?_)
  have hnd : H dx = none := I.hok.fresh dn
  have nd : ∀ {b : Addr} {o : Obj}, hp.get? b = some o → b ≠ dx := fun q => Nat.ne_of_lt (Nat.lt_of_lt_of_le (Heap.lt_size q) dn)
  have na : ∀ {b : Addr}, H b = none → b ≠ a := fun n z => by rw [z, e] at n; cases n
  have un : Un X.fs [] H (upd (upd H dx (exd dx [(f, y)])) a (exo a C (some dx))) hp h' := {
    keep := fun b o q n _ _ => k b o (na n) q, slot := fun b o q n _ _ => ⟨o.slots, k b o (na n) q⟩, free := fun b o q n _ => by rw [upd_ne (na n), upd_ne (nd q)]; exact n
    there := fun b o q _ => if hb : b = a then ⟨_, hb ▸ hx⟩ else ⟨o, k b o hb q⟩
    tups := fun b xs q => by rw [upd_ne (at_ne e q exo_tup), upd_ne (ne_of_none q hnd)]; exact q
    frzs := fun b o v q => by rw [upd_ne (at_ne e q exo_frz), upd_ne (ne_of_none q hnd)]; exact q
    tbls := fun b ps q => ⟨#[], by rw [upd_ne (at_ne e q exo_tbl), upd_ne (ne_of_none q hnd), q]; simp⟩ }
  refine h dx _ hnd dne (I.un (t' := tk') un fun b o q => ?_)
  by_cases hb : b = a
  · subst hb; rw [upd_same] at q; cases q
    exact exo_ok hx
  · rw [upd_ne hb] at q
    by_cases hd : b = dx
    · subst hd; rw [upd_same] at q; cases q
      exact exd_ok hn (relO_put (fs := []) ry fun g => True.intro)
    · rw [upd_ne hd] at q
      exact (I.hok b o q).stay (fun c v hc z => k c v (hc.elim (fun hc => hc ▸ hb) fun hc => at_ne e hc exo_own) z)
        (fun c hc => by rw [upd_ne (at_ne e hc exo_own), upd_ne (ne_of_none hc hnd)]; exact hc) (fun c xs hc => by rw [upd_ne (at_ne e hc exo_tup), upd_ne (ne_of_none hc hnd)]; exact hc)
theorem xst_old (T : XCls X.K C B nw ini tl) (I : Inv X pins σ H s) (e : H a = some (exo a C (some dx))) (ed : H dx = some (exd dx fs)) (hl : fs.length ≤ 900) (hno : PySem.W.findIn X.K (.ref C) f = some none) (ry : RelV y u)
    (h : ∀ s', Inv X pins σ (upd H dx (exd dx ((f, y) :: fs))) s' → Q () s') : wpAny (model X.prog X.w) A (setAttr (.ref a) f u) Q E s := by
  obtain ⟨cd, rs, hcl, hmr, hhd⟩ := T.cd
  obtain ⟨t1, ho⟩ := exo_at I.hok e; obtain ⟨mA, hns, rel⟩ := exd_at I.hok ed
  have hw := within_of rel; obtain ⟨hp, g, d, t, os⟩ := s; obtain ⟨oD, _, _, hoD, _, _⟩ := hns.count hw
  refine PySem.W.set_plain I.kIn (ox := { cls := .ref C, dict := some dx, data := .fields #[.ref t1, .none, .none, .none, .bool false, .none] }) (od := some oD) ⟨ho, rfl, rfl, hoD⟩ T.sa
    (set_old T.b.pass T.b.ob I.kIn ho hns hw (by rw [List.length_map]; omega) hcl hmr hhd hno fun h' tk' k hn => ?_)
  have hd : ∃ o, h'.get? dx = some o := let ⟨o, _, _, e', _⟩ := hn; ⟨o, e'⟩
  exact h _ (I.write (t' := tk') (x := dx) (e := dx) (o := exd dx ((f, y) :: fs)) (by rw [ed]; exact True.intro) (.inl rfl) k hd (exd_ok hn (relO_put ry rel)))
theorem xinit {us : List Value} {Q : Value → Shared → Prop} (T : XCls X.K C B nw ini tl) (I : Inv X pins σ H s) (e : H a = some (exo a C none)) (hl : us.length ≤ sizeLine) (h : ∀ s', Inv X pins σ H s' → Q .none s') :
    wpAny (model X.prog X.w) A (call (.builtin ini) (.ref a :: us)) Q E s := by
  obtain ⟨nm, q, N, bs, rs, sn, sub, ab, col, dd, k0, k1, k2, k3, k5, hC⟩ := T.cls
  obtain ⟨t1, ho⟩ := exo_at I.hok e; obtain ⟨hp, g, d, t, os⟩ := s
  refine wpAny_call (PySem.HandSPX.init_base T.b.f (fun Y => own_has Y rs) (I.kIn _ _ hC) ho hl fun h' t2 k hx => ?_)
  have J := I.write (t' := t) (x := a) (e := a) (o := exo a C none) (by rw [e]; exact True.intro) (.inl rfl) k ⟨_, hx⟩ (exo_ok hx)
  have eu : upd H a (exo a C none) = H := funext fun b => if hb : b = a then by rw [hb, upd_same, e] else by rw [upd_ne hb]
  rw [eu] at J
  exact h _ J
end
/-- self.f = e, a field of an exception -/
def tXst (K : PySem.W.Frag) (C : Addr) (f : Str) (to te : TE) : TS := fun D σ H => te σ H fun y H1 => to σ H1 fun x H2 => ∃ a : Addr, x = .ref a ∧
  ((H2 a = some (exo a C none) ∧ ∀ dx, H2 dx = none → dx ≠ a → D.nx σ (upd (upd H2 dx (exd dx [(f, y)])) a (exo a C (some dx)))) ∨
    ∃ (dx : Addr) (fs : List (Str × V)), H2 a = some (exo a C (some dx)) ∧ H2 dx = some (exd dx fs) ∧ fs.length ≤ 900 ∧ D.nx σ (upd H2 dx (exd dx ((f, y) :: fs))))
/-- C(e, ..), its own __init__ keeping sp -/
def tXmk (C : Addr) (sp : Sp) (ta : TA) : L2.St → Hp → XK → Prop := fun σ H Q => ta σ H fun vs H1 => vs.length ≤ 1000 ∧ ∀ a, H1 a = none → sp (.ref a :: vs) (upd H1 a (exo a C none))
  (fun v H2 => v = .non ∧ ∃ (d : Addr) (fs : List (Str × V)), H2 a = some (exo a C (some d)) ∧ H2 d = some (exd d fs) ∧ (∀ o, H1 d = some o → ∃ qs, o = .tbl qs) ∧ Q (.ref C) (some d) (upd (del H2 a) d (.xd fs))) (fun _ _ _ => False)
section
variable {X : Cx} {o e : Expr} {es : List Expr} {to te : TE} {ta : TA} {f : Str} {p p' p1 p2 pos : Pos} {C : Addr} {B nw ini : String} {tl : List Value}
theorem ps_xst (T : XCls X.K C B nw ini tl) (hno : PySem.W.findIn X.K (.ref C) f = some none) (ho : PE X o to) (he : PE X e te) (hs : swapsWith e (some (.Attribute o f p')) pos.line X.env = pure false) : PS X (.Assign [.Attribute o f p'] e pos) (tXst X.K C f to te) := by
  refine ⟨fun pins s σ H D I h => ?_⟩
  refine plainObj_wpAny_Assign_Attribute (thn (he.run pins s σ H _ I h) fun v s1 ⟨y, H1, I1, r1, q1⟩ => thn (ho.run pins s1 σ H1 _ I1 q1) fun u s2 ⟨x, H2, I2, r2, a, ex, q⟩ => ?_) hs
  subst ex; obtain rfl : u = Value.ref a := r2
  rcases q with ⟨ea, q⟩ | ⟨dx, fs, ea, ed, hl, q⟩
  · exact xst_new T I2 ea hno r1 fun dx s' n ne J => ⟨σ, _, J, q dx n ne⟩
  · exact xst_old T I2 ea ed hl hno r1 fun s' J => ⟨σ, _, J, q⟩
/-- B.__init__(self, ..) -/
theorem pe_xinit {Bs : Str} {pl : Sem Bool} (hB : Bs = (B : Str)) (T : XCls X.K C B nw ini tl) (hg : Gl X Bs) (hm : X.mg Bs = none) (hv : bootBuiltins Bs = some (.type B)) (ht : typeOf (.type B) = pure (.type "type")) (vV : PySem.W.findCls X.K (.type B) (.type "type") "__init__" = some (.val (.builtin ini))) (hn : Bs ≠ "__name__") (hdb : (Bs == ("__debug__" : Str)) = false) (ha : PA X (e :: es) ta)
    (hc : eval (.Call (.Attribute (.Name Bs p1) "__init__" p2) (e :: es) [] pos) X.env = (do
      let ov ← eval (.Name Bs p1) X.env
      standAt p2.atName
      let (f, first) ← holding [ov] (getMethod ov "__init__" pl)
      callWith pos f first (backTo pos (starEach (e :: es) X.env)) (backToKw pos (keywordEach [] X.env)))) (hq1 : Manifest.isStub B = false) (hq2 : PySem.W.handedIn (.builtin ini) = true)
    (he : starEach (e :: es) X.env = (false, eval e X.env) :: starEach es X.env) (hpl : (backTo pos (starEach es X.env)).any (·.1) = false) :
    PE X (.Call (.Attribute (.Name Bs p1) "__init__" p2) (e :: es) [] pos) (fun σ H Q => ta σ H fun vs H1 => ∃ (a : Addr) (ws : List V), vs = .ref a :: ws ∧ ws.length ≤ 1000 ∧ H1 a = some (exo a C none) ∧ Q .non H1) := by
  refine ⟨fun pins s σ H Q I h => ?_⟩
  refine PySem.W.methodCall_KW (ld_blt I hg hm hv ?_ hn hdb) hc
  obtain ⟨m, fr⟩ := I.fr
  refine PySem.W.method_type fr I.ok.mod.kin ht ?h1 vV ?h2 ?_
  case h1 => exact hq1
  case h2 => exact hq2
  show wpAny _ _ (callWith pos (Value.builtin ini) [] (backTo pos (starEach (e :: es) X.env)) []) _ _ _
  refine PyProof.Rows.callWith_method1 (thn (ha.run pos pins _ σ H _ (I.tok _) h) fun us s1 ⟨vs, H1, I1, r1, a, ws, ev, hl, ea, q⟩ => ?_) he hpl
  subst ev
  cases r1 with
  | @cons _ u0 _ ur ra rw' =>
    obtain rfl : u0 = Value.ref a := ra
    exact xinit T I1 ea (by rw [← Paired.length rw', sizeLine_eq]; omega) fun s' J => ⟨.non, H1, J, rfl, q⟩
theorem pmk_x {CX : CXT} {x : Str} {fI : Addr} {k : Nat} {fd : FuncData} {ps : List Str} {sp : Sp} (T : XCls X.K C B nw ini tl) (iC : PySem.W.findIn X.K (.ref C) "__init__" = some (some (.ref fI))) (tI : PySem.W.typeIn X.K (.ref fI) = some (.type "function"))
    (F1 : FnG X.prog X.w X.K X.mg X.base CX k fI fd ps sp) (g : NoG X.A) (hr : Room (k + 1) X.A) (hb : Binds X.K fd ps []) (hx : Passes CX X (fun _ _ _ => False)) (hg : Gl X x) (hm : X.mg x = some (.ref C)) (ha : PA X (e :: es) ta)
    (hdb : (x == ("__debug__" : Str)) = false) (he : starEach (e :: es) X.env = (false, eval e X.env) :: starEach es X.env) (hpl : (backTo pos (starEach es X.env)).any (·.1) = false) :
    PMk X (.Call (.Name x p) (e :: es) [] pos) (tXmk C sp ta) := by
  intro pins s σ H Q I h
  obtain ⟨nm, q, N, bs, rs, sn, sub, ab, col, dd, k0, k1, k2, k3, k5, hC⟩ := T.cls
  refine wpAny_Call_Name_kw (ld_glob I hg hm ?_ hdb)
  refine PySem.W.callWith_K (h₀ := X.base) I.ok.mod.kin T.kp (thn (ha.run pos pins s σ H _ I h) fun us s1 ⟨vs, H1, I1, r1, hz, q1⟩ => ⟨I1.kIn, ?_⟩) he hpl
  show wpAny _ _ (call (.ref C) us) _ _ _
  obtain ⟨hp, gs, dr, tk, os⟩ := s1
  have hsz : hp.objs.size ≤ hp.objs.size + 1 := Nat.le_succ _
  have hq := q1 (hp.objs.size + 1) (I1.hok.fresh hsz)
  have kk : ∀ b o, hp.get? b = some o → ((hp.push (PySem.W.kdv_tup us)).push (PySem.HandSPX.excO C hp.objs.size)).get? b = some o := fun b o e => Heap.get?_push_of_some _ (Heap.get?_push_of_some _ e)
  have hget : ((hp.push (PySem.W.kdv_tup us)).push (PySem.HandSPX.excO C hp.objs.size)).get? (hp.objs.size + 1) = some (PySem.HandSPX.excO C hp.objs.size) := by heap_get
  have I2 : Inv X pins σ (upd H1 (hp.objs.size + 1) (exo (hp.objs.size + 1) C none)) ⟨(hp.push (PySem.W.kdv_tup us)).push (PySem.HandSPX.excO C hp.objs.size), gs, dr, tk, os⟩ :=
    I1.laid (t' := tk) (a := hp.objs.size + 1) (o := exo (hp.objs.size + 1) C none) (h' := (hp.push (PySem.W.kdv_tup us)).push (PySem.HandSPX.excO C hp.objs.size)) kk hsz (exo_ok hget)
  have r2 : Vals (V.ref (hp.objs.size + 1) :: vs) (Value.ref (hp.objs.size + 1) :: us) := .cons rfl r1
  have hl : (Value.ref (hp.objs.size + 1) :: us ++ []).length = ps.length := by rw [List.append_nil, ← r2.length, F1.len _ _ _ _ hq]
  have hus : us.length ≤ sizeLine := by rw [← Paired.length r1, sizeLine_eq]; omega
  have hbs := hb _ (Value.ref (hp.objs.size + 1) :: us) I2.kIn hl
  rw [List.append_nil] at hbs
  refine wpAny_call (PySem.HandSPX.call_own T.b.f (fun Y => own_has Y rs) (I1.kIn _ _ hC) (PySem.W.looks_findIn I1.kIn iC) (fun self => PySem.W.bind_fn I1.kIn self tI) hus
    (codeAny_mono (F1.run _ X.stack _ _ ⟨Value.ref (hp.objs.size + 1) :: us, []⟩ (Value.ref (hp.objs.size + 1) :: us) _ _ (fun _ _ _ => False) (noG_make g C us []) (hr.make C us []) (I2.env0.make C us []) hbs r2 hq) fun r s' hq' => ?_))
  match r, hq' with
  | .error er, hq' => exact hx pins σ _ _ er s' I2 hq'
  | .ok (.ret u), hq' =>
    obtain ⟨v, H2, os2, bare2, un2, hok2, rv, ev, d, fs, ea, ed, hd1, q2⟩ := hq'
    subst ev; obtain ⟨h2, g2, d2, t2, os'⟩ := s'
    have hd2 : H1 d = none := by
      cases hh : H1 d with
      | none => rfl
      | some o =>
        obtain ⟨qs, rfl⟩ := hd1 o hh
        have hda : d ≠ hp.objs.size + 1 := fun z => by
          rw [z, I1.hok.fresh hsz] at hh
          cases hh
        obtain ⟨more, z⟩ := un2.tbls d qs (by rw [upd_ne hda]; exact hh)
        rw [ed] at z
        cases z
    exact ⟨rv, mk_end (raises_own T.ex T.ty) I1 hsz kk un2 hok2 os2 bare2 ea ed hd2 q2⟩
end
end Ev
/-! X3: errors with an __init__ of their own, in the layer. -/
namespace Ev
open PySem PySem.Spec PyProof.Rows L2 Sg PySem.XI
/-- the promise of an __init__ that keeps its arguments under names -/
def spFld (C : Addr) (ns : List Str) : Sp := fun vs H Q _ => ∃ (a : Addr) (ys : List V), vs = .ref a :: ys ∧ ys.length = ns.length ∧ H a = some (exo a C none) ∧ ∀ dx, H dx = none → dx ≠ a → Q .non (upd (upd H dx (exd dx (ns.reverse.zip ys.reverse))) a (exo a C (some dx)))
/-- .. of one that keeps a copy -/
def spCop (C : Addr) (m : Str) (cs : Sp) : Sp := fun vs H Q _ => ∃ (a : Addr) (v : V), vs = [.ref a, v] ∧ cs [v] H (fun kv H2 => H2 a = some (exo a C none) ∧ ∀ dx, H2 dx = none → dx ≠ a → Q .non (upd (upd H2 dx (exd dx [(m, kv)])) a (exo a C (some dx)))) (fun _ _ _ => False)
/-- names of the parameters, and what is seen -/
structure Two (N : List Str) (sc : Scope) (i : Nat) (x : Str) : Prop where
  ix : N[i]? = some x
  vis : Vis sc x
  nd : (x == ("__debug__" : Str)) = false
  nc : (x == ("__classdict__" : Str)) = false
inductive IniOk (K : PySem.W.Frag) (mg : Str → Option Value) (L : Kl) (G : Gm) (C : Addr) (B ini : String) (N ps : List Str) (sc : Scope) (body : List Stmt) : EIni → Prop
  | one {f : Nat} {s a : Str} {p1 p2 p3 p4 : Pos} : ps = [s, a] → Two N sc 0 s → Two N sc 1 a → PySem.W.findIn K (.ref C) (G.nm f) = some none → body = [.Assign [.Attribute (.Name s p1) (G.nm f) p2] (.Name a p3) p4] → IniOk K mg L G C B ini N ps sc body (.fld [f])
  | two {f g : Nat} {s a b : Str} {p1 p2 p3 p4 q1 q2 q3 q4 : Pos} : ps = [s, a, b] → Two N sc 0 s → Two N sc 1 a → Two N sc 2 b → PySem.W.findIn K (.ref C) (G.nm f) = some none → PySem.W.findIn K (.ref C) (G.nm g) = some none →
      body = [.Assign [.Attribute (.Name s p1) (G.nm f) p2] (.Name a p3) p4, .Assign [.Attribute (.Name s q1) (G.nm g) q2] (.Name b q3) q4] → IniOk K mg L G C B ini N ps sc body (.fld [f, g])
  | cop {f m : Nat} {s a k Bs cp : Str} {p1 p2 p3 p4 p5 q1 q2 q3 q4 q5 q6 r1 r2 r3 r4 : Pos} : ps = [s, a] → N.Nodup → Two N sc 0 s → Two N sc 1 a → Two N sc 2 k → sc.names.lookup k = some .local → sc.names.lookup cp = some .globalImplicit → (cp == ("__debug__" : Str)) = false → mg cp = some (.ref (L.fa f)) → (G.code f).isSome = true →
      Bs = (B : Str) → sc.names.lookup Bs = some .globalImplicit → mg Bs = none → bootBuiltins Bs = some (.type B) → typeOf (.type B) = pure (.type "type") → PySem.W.findCls K (.type B) (.type "type") "__init__" = some (.val (.builtin ini)) → Bs ≠ "__name__" → (Bs == ("__debug__" : Str)) = false → Manifest.isStub B = false → PySem.W.handedIn (.builtin ini) = true → (Bs != "super") = true → q2.endLine = q6.line →
      PySem.W.findIn K (.ref C) (G.nm m) = some none →
      body = [.Assign [.Name k p1] (.Call (.Name cp p2) [.Name a p3] [] p4) p5, .Expr (.Call (.Attribute (.Name Bs q1) "__init__" q2) [.Name s q3, .Name k q4] [] q6) q5, .Assign [.Attribute (.Name s r1) (G.nm m) r2] (.Name k r3) r4] → IniOk K mg L G C B ini N ps sc body (.cop f m)
/-- an own exception class with an __init__ of its own -/
structure KExcI (X : Cx) (L : Kl) (G : Gm) (x : Str) (n : Nat) : Prop where
  ex : ∃ (C fI : Addr) (B nw ini : String) (tl : List Value) (fd : FuncData) (st : Stmt) (N ps : List Str) (qual y : Str) (ei : EIni), L.xv n = .ref C ∧ X.mg x = some (.ref C) ∧ XCls X.K C B nw ini tl ∧ XfC X.K C ∧ PySem.W.findIn X.K (.ref C) "__init__" = some (some (.ref fI)) ∧ PySem.W.typeIn X.K (.ref fI) = some (.type "function") ∧
    Fun X.K y qual st fI fd ∧ FnScope N ps (defScope st) ∧ L2.Binds X.K fd ps [] ∧ G.eini n = some ei ∧ IniOk X.K X.mg L G C B ini N ps (defScope st) (defBody st) ei
section
variable {P : Program} {w : World} {K : PySem.W.Frag} {mg : Str → Option Value} {base : Heap} {L : Kl} {G : Gm} {C fI : Addr} {B nw ini : String} {tl : List Value} {fd : FuncData} {st : Stmt} {N ps : List Str} {qual y : Str} {k : Nat} {cf : CallF}
theorem upd_com {H : Hp} {a b : Addr} {o u v : HO} (h : b ≠ a) : upd (upd (upd H b o) a u) b v = upd (upd H b v) a u := by
  funext c
  unfold upd
  by_cases h1 : c = b
  · subst h1
    rw [if_pos rfl, if_neg h, if_pos rfl]
  · rw [if_neg h1]
    by_cases h2 : c = a
    · rw [if_pos h2, if_pos h2]
    · rw [if_neg h2, if_neg h2, if_neg h1, if_neg h1]
theorem spC_mono {out : Option OD → List Dt → CRes} {vs : List V} {H : Hp} {Q Q' : V → Hp → Prop} {E E' : XK} (hq : ∀ v H', Q v H' → Q' v H') (he : ∀ c d H', E c d H' → E' c d H') (h : spC K L out vs H Q E) : spC K L out vs H Q' E' := by
  obtain ⟨S, T, ws, bo, dvs, e1, h1, h2, h3, h4, h5⟩ := h
  refine ⟨S, T, ws, bo, dvs, e1, h1, h2, h3, h4, ?_⟩
  match out bo dvs, h5 with
  | .ok rv bo', h5 => exact fun v H' a b => hq _ _ (h5 v H' a b)
  | .er r bo', h5 => exact fun c d H' a b e => he _ _ _ (h5 c d H' a b e)
theorem hc_init {Bs : Str} {p1 p2 pos q3 q4 : Pos} {se ke : Str} {env : Env} (h : p2.endLine = pos.line) : eval (.Call (.Attribute (.Name Bs p1) "__init__" p2) [.Name se q3, .Name ke q4] [] pos) env = (do
      let ov ← eval (.Name Bs p1) env
      standAt p2.atName
      let (f, first) ← holding [ov] (getMethod ov "__init__" (do return (← importBound (.Name Bs p1) env).getD true))
      callWith pos f first (backTo pos (starEach [.Name se q3, .Name ke q4] env)) (backToKw pos (keywordEach [] env))) := by
  have hb : (p2.endLine == pos.line) = true := by rw [h]; exact beq_self_eq_true _
  have hp : methodCallPos true (.Name Bs p1) env p2 pos = pure pos := by
    unfold methodCallPos
    rw [hb]
    rfl
  have h1 : eval (.Call (.Attribute (.Name Bs p1) "__init__" p2) [.Name se q3, .Name ke q4] [] pos) env = (do
    let ov ← eval (.Name Bs p1) env
    standAt p2.atName
    methodCall (.Name Bs p1) "__init__" p2 pos env ov 2 (backTo pos (starEach [.Name se q3, .Name ke q4] env)) (backToKw pos (keywordEach [] env))) := rfl
  have h2 : methodCallForm 2 (backTo pos (starEach [.Name se q3, .Name ke q4] env)) (backToKw pos (keywordEach [] env)) = true := rfl
  rw [h1]
  unfold methodCall
  rw [h2, hp]
  rfl
theorem ini_fld (T : XCls K C B nw ini tl) (Fu : Fun K y qual st fI fd) (S : FnScope N ps (defScope st)) {ns : List Nat} (h : IniOk K mg L G C B ini N ps (defScope st) (defBody st) (.fld ns)) : FnG P w K mg base (L2.CX P w) (k + 1) fI fd ps (spFld C (ns.map G.nm)) := by
  cases h with
  | one h1 t0 t1 h3 h4 =>
    rename_i f s a p1 p2 p3 p4
    refine fnG Fu S (fun vs H Q E h => ?_) fun cdv A outer sh H vs Q E hG hr h _ => ?_
    · obtain ⟨b, ys, rfl, hl, -⟩ := h
      rw [h1, List.length_cons, hl]
      rfl
    · obtain ⟨b, ys, rfl, hl, hb, q⟩ := h
      have : ∃ y1, ys = [y1] := by
        match ys, hl with
        | [y1], _ => exact ⟨y1, rfl⟩
      obtain ⟨y1, rfl⟩ := this
      rw [h4]
      refine ⟨_, pss_one (ps_xst (C := C) T h3 (pe_var t0.ix t0.vis t0.nd t0.nc) (pe_var t1.ix t1.vis t1.nd t1.nc) rfl), ?_⟩
      have z0 : (L2.start N [V.ref b, y1])[0]? = some (some (V.ref b)) := rfl
      have z1 : (L2.start N [V.ref b, y1])[1]? = some (some y1) := rfl
      exact ⟨y1, z1, .ref b, z0, b, rfl, .inl ⟨hb, fun dx n1 n2 => q dx n1 n2⟩⟩
  | two h1 t0 t1 t2 h3 h3' h4 =>
    rename_i f g s a b0 p1 p2 p3 p4 q1 q2 q3 q4
    refine fnG Fu S (fun vs H Q E h => ?_) fun cdv A outer sh H vs Q E hG hr h _ => ?_
    · obtain ⟨b, ys, rfl, hl, -⟩ := h
      rw [h1, List.length_cons, hl]
      rfl
    · obtain ⟨b, ys, rfl, hl, hb, q⟩ := h
      have : ∃ y1 y2, ys = [y1, y2] := by
        match ys, hl with
        | [y1, y2], _ => exact ⟨y1, y2, rfl⟩
      obtain ⟨y1, y2, rfl⟩ := this
      rw [h4]
      refine ⟨_, pss_cons (ps_xst (C := C) T h3 (pe_var t0.ix t0.vis t0.nd t0.nc) (pe_var t1.ix t1.vis t1.nd t1.nc) rfl) (pss_one (ps_xst (C := C) T h3' (pe_var t0.ix t0.vis t0.nd t0.nc) (pe_var t2.ix t2.vis t2.nd t2.nc) rfl)), ?_⟩
      have z0 : (L2.start N [V.ref b, y1, y2])[0]? = some (some (V.ref b)) := rfl
      have z1 : (L2.start N [V.ref b, y1, y2])[1]? = some (some y1) := rfl
      have z2 : (L2.start N [V.ref b, y1, y2])[2]? = some (some y2) := rfl
      refine ⟨y1, z1, .ref b, z0, b, rfl, .inl ⟨hb, fun dx n1 n2 => ?_⟩⟩
      refine ⟨y2, z2, .ref b, z0, b, rfl, .inr ⟨dx, _, upd_same, by rw [upd_ne n2, upd_same], by simp, ?_⟩⟩
      rw [upd_com n2]
      exact q dx n1 n2
theorem ini_cop (T : XCls K C B nw ini tl) (Fu : Fun K y qual st fI fd) (S : FnScope N ps (defScope st)) {f m : Nat} (h : IniOk K mg L G C B ini N ps (defScope st) (defBody st) (.cop f m))
    (F0 : FnG P w K mg base (L2.CX P w) k (L.fa f) (L.fd f) (L.ps f) (spC K L (cf f))) (hbd : L2.Binds K (L.fd f) (L.ps f) []) (hkp : PySem.W.keepIn K (.ref (L.fa f)) = true) :
    FnG P w K mg base (L2.CX P w) (k + 1) fI fd ps (spCop C (G.nm m) (spC K L (cf f))) := by
  cases h with
  | cop h1 hN t0 t1 t2 hk hc1 hc2 hc3 hc4 b1 b2 b3 b4 b5 b6 b7 b8 b9 b10 b11 hln h3 h4 =>
    rename_i s a kx Bs cp p1 p2 p3 p4 p5 q1 q2 q3 q4 q5 q6 r1 r2 r3 r4
    refine fnG Fu S (fun vs H Q E h => ?_) fun cdv A outer sh H vs Q E hG hr h _ => ?_
    · obtain ⟨b, v, rfl, -⟩ := h
      rw [h1]
      rfl
    · obtain ⟨b, v, rfl, q⟩ := h
      rw [h4]
      let Y : Cx := cxOf (L2.CX P w) P w K mg base N qual (defScope st) fI cdv A outer sh H E
      have gB : Gl Y Bs := b2
      have gC : Gl Y cp := hc1
      refine ⟨_, pss_cons (ps_set (X := Y) (i := 2) hN t2.ix (.inl hk) pe_we rfl) (pss_cons (ps_expr (pe_xinit (C := C) (pl := (do return (← importBound (.Name Bs q1) Y.env).getD true)) b1 T gB b3 b4 b5 b6 b7 b8 (pa_cons (pe_var t0.ix t0.vis t0.nd t0.nc) (pa_cons (pe_var t2.ix t2.vis t2.nd t2.nc) pa_nil rfl) rfl) (hc_init hln) b9 b10 rfl rfl) rfl) (pss_one (ps_xst (C := C) T h3 (pe_var t0.ix t0.vis t0.nd t0.nc) (pe_var t2.ix t2.vis t2.nd t2.nc) rfl))), ?_⟩
      have z1 : (L2.start N [V.ref b, v])[1]? = some (some v) := rfl
      refine we_call (X := Y) gC hc3 hkp hc2 rfl rfl (wa (pa_cons (pe_var t1.ix t1.vis t1.nd t1.nc) pa_nil rfl) ⟨v, z1, ?_⟩)
      intro pins s1 us I r
      refine runAtS (X := Y) (E := L2.WE fun _ _ _ _ => False) F0 hG (hr.mono (by omega)) I.env0 hbd (passAt (takes_never Y) _) I r ?_
      refine spC_mono (fun kv H2 hk => ?_) (fun _ _ _ h => h) q
      obtain ⟨hb, qd⟩ := hk
      have z0 : (L2.start N [V.ref b, v])[0]? = some (some (V.ref b)) := rfl
      have hl2 : (2 : Nat) < (L2.start N [V.ref b, v]).length := by
        have h2N : 2 < N.length := (List.getElem?_eq_some_iff.mp t2.ix).1
        unfold L2.start
        simp
        omega
      have y0 : ((L2.start N [V.ref b, v]).set 2 (some kv))[0]? = some (some (V.ref b)) := by
        rw [List.getElem?_set_ne (by decide)]
        exact z0
      have y2 : ((L2.start N [V.ref b, v]).set 2 (some kv))[2]? = some (some kv) := List.getElem?_set_self hl2
      refine ⟨.ref b, y0, kv, y2, b, [kv], rfl, by simp, hb, ?_⟩
      exact ⟨kv, y2, .ref b, y0, b, rfl, .inl ⟨hb, fun dx n1 n2 => qd dx n1 n2⟩⟩
end
end Ev
/-! X4: raise of errors with an __init__ of their own. -/
namespace Ev
open PySem PySem.Spec PyProof.Rows L2 Sg PySem.XI
section
variable {cls : Value} {X : Cx} {L : Kl} {F : Fm} {G : Gm} {cf : CallF} {k W : Nat} {ds : List Cell} {σ : L2.St} {H : Hp} {ts vs : List V} {tcs : List Cell} {dvs l : List Dt} {D : Ends} {a b c e tg it : Expr} {es : List Expr} {pos p pc : Pos} {ca cb cc ce ck ci cs : CE} {x y z : Str} {st : Stmt} {rest body : List Stmt} {r : RS} {i j n : Nat} {is : List Nat}
theorem zip_fst {α β : Type} : ∀ {l : List α} {m : List β}, l.length = m.length → (l.zip m).map (·.1) = l
  | [], [], _ => rfl
  | a :: l, b :: m, h => by simp [zip_fst (l := l) (m := m) (by simpa using h)]
theorem zip_snd {α β : Type} : ∀ {l : List α} {m : List β}, l.length = m.length → (l.zip m).map (·.2) = m
  | [], [], _ => rfl
  | a :: l, b :: m, h => by simp [zip_snd (l := l) (m := m) (by simpa using h)]
theorem del_upd {H : Hp} {q d : Addr} {o o' u v : HO} (h : H q = none) (hd : d ≠ q) : upd (del (upd (upd (upd H q o) d o') q u) q) d v = upd H d v := by
  funext z
  by_cases h1 : z = d
  · rw [h1, upd_same, upd_same]
  · rw [upd_ne h1, upd_ne h1]
    show (if z = q then none else _) = _
    by_cases h2 : z = q
    · rw [if_pos h2, h2, h]
    · rw [if_neg h2, upd_ne h2, upd_ne h1, upd_ne h2]
theorem exo_code {q C c : Addr} {x : Str} (h : exo q C none = LamX.CodeO c x) : False := by
  unfold exo LamX.CodeO at h
  have h1 := congrFun (HO.ext.inj h) { objs := Array.replicate (q + 1) { cls := .ref C, dict := none, data := .fields #[.ref 0, .none, .none, .none, .bool false, .none] } }
  have h2 : ∃ t1 : Addr, Heap.get? { objs := Array.replicate (q + 1) ({ cls := .ref C, dict := none, data := .fields #[.ref 0, .none, .none, .none, .bool false, .none] } : Obj) } q = some ({ cls := .ref C, dict := none, data := .fields #[.ref t1, .none, .none, .none, .bool false, .none] } : Obj) := by
    refine ⟨0, ?_⟩
    unfold Heap.get?
    simp
  rw [h1] at h2
  obtain ⟨oc, vs, t, e1, e2, e3⟩ := h2
  unfold Heap.get? at e1
  simp only [Array.getElem?_replicate] at e1
  by_cases hc : c < q + 1
  · rw [if_pos hc] at e1
    have := Option.some.inj e1
    subst this
    cases e2
    simp at e3
  · rw [if_neg hc] at e1
    cases e1
theorem tbs_keepX {T : List (Addr × Str)} {H H' : Hp} (t : Tbs T H) (e : ∀ b o, H b = some o → ((∃ ps, o = .tbl ps) ∨ ∃ c q, o = LamX.CodeO c q) → H' b = some o) : Tbs T H' := fun p hp => by
  obtain ⟨ps, h1, h2, h3⟩ := t p hp
  exact ⟨ps, e _ _ h1 (.inl ⟨_, rfl⟩), h2, fun pos cv hc => let ⟨c, e1, e2⟩ := h3 pos cv hc; ⟨c, e1, e _ _ e2 (.inr ⟨_, _, rfl⟩)⟩⟩
theorem del_upd2 {H : Hp} {q d : Addr} {o' u v : HO} (hd : d ≠ q) : upd (del (upd (upd H d o') q u) q) d v = upd (del H q) d v := by
  funext z
  by_cases h1 : z = d
  · rw [h1, upd_same, upd_same]
  · rw [upd_ne h1, upd_ne h1]
    show (if z = q then none else _) = (if z = q then none else _)
    by_cases h2 : z = q
    · rw [if_pos h2, if_pos h2]
    · rw [if_neg h2, if_neg h2, upd_ne h2, upd_ne h1]
theorem passes_never (X : Cx) : Passes (L2.CX X.prog X.w) X (fun _ _ _ => False) := fun pins σ H s e s' I c => passAt (takes_never X) σ pins H s e s' I c
/-- the error that is made, for the context -/
theorem er_made (hnm : L.nm = G.nm) (e1 : cls = L.xv n) {ns : List Nat} (hl : vs.length = l.length) (hn : l.length = ns.length) {H1 : Hp} (s1 : SD X.K L F H1 σ ds (vs ++ ts) (l.map Cell.im ++ tcs)) {dx : Addr} (hd : H1 dx = none) :
    SD X.K L F (upd H1 dx (.xd ((ns.map G.nm).reverse.zip vs.reverse))) σ ds ts tcs ∧ ErIs X.K L (hide (upd H1 dx (.xd ((ns.map G.nm).reverse.zip vs.reverse))) F.S) cls (some dx) ⟨n, some (ns.reverse, l.reverse)⟩ := by
  obtain ⟨S, al, im, go⟩ := s1.call hl
  have ex : ExB L H1 (upd H1 dx (.xd ((ns.map G.nm).reverse.zip vs.reverse))) := ⟨Ex.new hd, tbs_new s1.ext.tb hd⟩
  obtain ⟨g1, g2, g3, g4⟩ := go _ ex
  refine ⟨g1, e1, dx, (ns.map G.nm).reverse.zip vs.reverse, rfl, ?_, ?_, ?_⟩
  · exact hide_get upd_same fun z => (s1.alive dx z).ne hd
  · rw [zip_fst (by simp [hl, hn]), hnm, List.map_reverse]
  · rw [zip_snd (by simp [hl, hn])]
    exact ((im.ext (hide_mono ex.ex)).ext g2).reverse
theorem sns_raiseX (C0 : Ctx X L G cf k) (hnm : L.nm = G.nm) (hc0 : X.calm = true) (hx : KExcI X L G x n) (hg : Gl X x) (hdb : (x == ("__debug__" : Str)) = false) (h1 : star1 e = false) (h2 : es.all (fun e => !star1 e) = true) (ha : ∀ ds, SndA X L F (e :: es) ds (evA G cf ca ds)) :
    SndS X L F (.Raise (some (.Call (.Name x p) (e :: es) [] pc)) none pos) ds (raiseR G cf n (evA G cf ca ds)) := by
  intro σ H ts tcs D s q
  obtain ⟨C, fI, B, nw, ini, tl, fd, st, N, ps, qual, y, ei, e1, e2, e3, e4, e5, e6, e7, e8, e9, e10, e11⟩ := hx.ex
  have key : ∀ sp : Sp, FnG X.prog X.w X.K X.mg X.base (L2.CX X.prog X.w) (k + 1) fI fd ps sp →
      (∃ W : WX, Takes X W ∧ WA X (e :: es) σ H fun vs H1 => vs.length ≤ 1000 ∧ ∀ a, H1 a = none → sp (.ref a :: vs) (upd H1 a (exo a C none))
        (fun v H2 => v = .non ∧ ∃ (d : Addr) (fs : List (Str × V)), H2 a = some (exo a C (some d)) ∧ H2 d = some (exd d fs) ∧ (∀ o, H1 d = some o → ∃ qs, o = .tbl qs) ∧ W (.ref C) (some d) σ (upd (del H2 a) d (.xd fs))) (fun _ _ _ => False)) →
      WS X (.Raise (some (.Call (.Name x p) (e :: es) [] pc)) none pos) D σ H := by
    intro sp F1 ⟨W, t, w⟩
    refine ws (ps_raise hc0 t (pmk_x e3 e5 e6 F1 C0.g (C0.hr.mono (by omega)) e9 (passes_never X) hg e2 (pa_wa (X := X)) hdb (starEach_cons h1) (plainS h2))) ?_
    exact w
  cases hA : evA G cf ca ds with
  | no => rw [hA] at q; exact q.elim
  | er r ds' =>
    rw [hA] at q
    have W0 : ∀ Q, WA X (e :: es) σ H Q → True := fun _ _ => trivial
    cases ei with
    | fld ns => exact key _ (ini_fld e3 e7 e8 e11) ⟨_, takes_never X, ha ds σ H ts tcs _ s (by rw [hA]; exact TkS.tk q σ)⟩
    | cop f m => 
      have hc : (G.code f).isSome = true := by cases e11; assumption
      obtain ⟨c, hc⟩ := Option.isSome_iff_exists.mp hc
      exact key _ (ini_cop e3 e7 e8 e11 (C0.fn f c hc) (C0.bd f c hc) (C0.kp f c hc)) ⟨_, takes_never X, ha ds σ H ts tcs _ s (by rw [hA]; exact TkS.tk q σ)⟩
  | ok x =>
    obtain ⟨l, ds1⟩ := x
    rw [hA] at q
    have q2 : AfterS X L F ts tcs D (raiseD G cf n l ds1) := q
    unfold raiseD at q2
    rw [e10] at q2
    cases ei with
    | fld ns =>
      by_cases hl : l.length = ns.length
      · have q3 : TkS X L F ts tcs ⟨n, some (ns.reverse, l.reverse)⟩ ds1 := by
          simp only [if_pos hl] at q2
          exact q2
        obtain ⟨W, t, w⟩ := q3
        refine key _ (ini_fld e3 e7 e8 e11) ⟨W, t, ha ds σ H ts tcs _ s ?_⟩
        rw [hA]
        intro vs H1 hv s1
        have hns : ns.length ≤ 2 := by cases e11 <;> simp
        refine ⟨by omega, fun q0 hq => ⟨q0, vs, rfl, by simp [hv, hl], upd_same, fun dx n1 n2 => ⟨rfl, dx, (ns.map G.nm).reverse.zip vs.reverse, upd_same, ?_, ?_, ?_⟩⟩⟩
        · rw [upd_ne n2, upd_same]
        · rw [upd_ne n2] at n1
          intro o ho
          rw [n1] at ho
          cases ho
        · rw [upd_ne n2] at n1
          rw [del_upd hq n2]
          obtain ⟨a1, a2⟩ := er_made hnm e1.symm hv hl s1 n1
          exact w _ _ σ _ a1 a2
      · simp only [if_neg hl] at q2
        exact q2.elim
    | cop f m =>
      have hc : (G.code f).isSome = true := by cases e11; assumption
      obtain ⟨c, hc⟩ := Option.isSome_iff_exists.mp hc
      match l, q2, hA with
      | [], q2, _ => exact q2.elim
      | _ :: _ :: _, q2, _ => exact q2.elim
      | [d], q2, hA =>
        cases hv : vv G (goCall cf f [d] ds1) with
        | no => simp only [hv] at q2; exact q2.elim
        | er r0 ds2 => simp only [hv] at q2; exact q2.elim
        | ok x =>
          obtain ⟨d2, ds2⟩ := x
          simp only [hv] at q2
          have q3 : TkS X L F ts tcs ⟨n, some ([m], [d2])⟩ ds2 := q2
          obtain ⟨W, t, w⟩ := q3
          refine key _ (ini_cop e3 e7 e8 e11 (C0.fn f c hc) (C0.bd f c hc) (C0.kp f c hc)) ⟨W, t, ha ds σ H ts tcs _ s ?_⟩
          rw [hA]
          intro vs H1 hvl s1
          match vs, hvl with
          | [v], hvl =>
            refine ⟨by simp, fun q0 hq => ⟨q0, v, rfl, ?_⟩⟩
            have ex1 : ExB L H1 (upd H1 q0 (exo q0 C none)) := ⟨Ex.new hq, tbs_new s1.ext.tb hq⟩
            obtain ⟨S, al, im, go⟩ := s1.call (vs := [v]) (dvs := [d]) rfl
            have hx0 : NtO (exo q0 C none) := fun qs z => by unfold exo at z; cases z
            have keep1 : ∀ a o, H1 a = some o → upd H1 q0 (exo q0 C none) a = some o := fun a o z => by rw [upd_ne (ne_of_none z hq)]; exact z
            refine ⟨q0 :: S, none, [v], none, [d], rfl, ?_, ex1.tb, trivial, im.ext ?_, ?_⟩
            · intro p hp
              rcases List.mem_cons.mp hp with z | z
              · rw [z]
                exact ⟨_, upd_same, hx0⟩
              · exact ex1.ex.nt (al p z)
            · intro a u z _
              have hs : a ∉ S := fun y => by rw [hide_in y] at z; cases z
              have z1 : H1 a = some u := hide_ex a u z (by assumption)
              exact hide_get (keep1 a u z1) fun y => (List.mem_cons.mp y).elim (fun y => by rw [y, hq] at z1; cases z1) hs
            · have fin : ∀ (v' : V) (H' : Hp) (rv : RV), ExB L (hide (upd H1 q0 (exo q0 C none)) []) H' → RetAt X.K L (q0 :: S) none none (upd H1 q0 (exo q0 C none)) H' v' rv → frzR G.fl rv ds1 = .ok (d2, ds2) →
                  H' q0 = some (exo q0 C none) ∧ ∀ dx, H' dx = none → dx ≠ q0 → V.non = V.non ∧ ∃ (d : Addr) (fs : List (Str × V)), upd (upd H' dx (exd dx [(G.nm m, v')])) q0 (exo q0 C (some dx)) q0 = some (exo q0 C (some d)) ∧ upd (upd H' dx (exd dx [(G.nm m, v')])) q0 (exo q0 C (some dx)) d = some (exd d fs) ∧
                    (∀ o, H1 d = some o → ∃ qs, o = .tbl qs) ∧ W (.ref C) (some d) σ (upd (del (upd (upd H' dx (exd dx [(G.nm m, v')])) q0 (exo q0 C (some dx))) q0) d (.xd fs)) := by
                intro v' H' rv ex r hf
                rw [hide_nil] at ex
                have e0 : H' q0 = some (exo q0 C none) := ex.ex q0 _ upd_same hx0
                refine ⟨e0, fun dx n1 n2 => ⟨rfl, dx, [(G.nm m, v')], upd_same, ?_, ?_, ?_⟩⟩
                · rw [upd_ne n2, upd_same]
                · intro o ho
                  by_cases hh : ∃ qs, o = .tbl qs
                  · exact hh
                  · have := ex.ex dx o (keep1 dx o ho) fun qs z => hh ⟨qs, z⟩
                    rw [n1] at this
                    cases this
                · rw [del_upd2 n2]
                  have exD : ExB L H1 (del H' q0) := by
                    refine ⟨fun a o z n => ?_, tbs_keepX ex.tb fun b o z y => ?_⟩
                    · have ha : a ≠ q0 := ne_of_none z hq
                      rw [del_ne ha]
                      exact ex.ex a o (keep1 a o z) n
                    · have hb : b ≠ q0 := fun z2 => by
                        rw [z2, e0] at z
                        rcases y with ⟨ps, y⟩ | ⟨c0, x0, y⟩
                        · rw [y] at z
                          unfold exo at z
                          cases z
                        · rw [y] at z
                          exact exo_code (Option.some.inj z)
                      rw [del_ne hb]
                      exact z
                  have n3 : del H' q0 dx = none := by rw [del_ne n2]; exact n1
                  have sub : ∀ S', Ex (hide H' (q0 :: S')) (hide (del H' q0) S') := fun S' a u z _ => by
                    have hs : a ∉ q0 :: S' := fun y => by rw [hide_in y] at z; cases z
                    have ha : a ≠ q0 := fun y => hs (y ▸ List.mem_cons_self)
                    have z1 : H' a = some u := by
                      unfold hide at z
                      rw [if_neg hs] at z
                      exact z
                    exact hide_get (by rw [del_ne ha]; exact z1) fun y => hs (List.mem_cons_of_mem _ y)
                  obtain ⟨g1, g2, g3, g4⟩ := go _ exD
                  have s3 : ds2 = ds1 ∧ SD X.K L F (del H' q0) σ ds1 (v' :: ts) (.im d2 :: tcs) := by
                    cases rv with
                    | val d' =>
                      cases hf
                      exact ⟨rfl, g3 _ _ (r.2.ext (sub S))⟩
                    | ali i => exact r.elim
                    | new o =>
                      obtain ⟨p, h, rfl, h1, h2, h3, -⟩ := r
                      have hp : p ≠ q0 := fun z => by rw [z] at h1; exact h1 ⟨_, upd_same, hx0⟩
                      have h4 : ¬ Nt H1 p := fun z => h1 (ex1.ex.nt z)
                      have hd0 : del H' q0 p = some h := by rw [del_ne hp]; exact h2
                      have s4 := g4 p h o h4 hd0 (h3.ext ((hide_sub fun z hz => by
                        simp only [List.mem_cons] at hz ⊢
                        rcases hz with z | z | z
                        · exact .inr (.inl z)
                        · exact .inl z
                        · exact .inr (.inr z)).trans (sub (p :: S))))
                      unfold frzR at hf
                      cases hz : o.frz G.fl with
                      | none => simp only [hz] at hf; cases hf
                      | some d3 =>
                        simp only [hz] at hf
                        cases hf
                        exact ⟨rfl, SD.frzTop s4 (by rw [C0.hL]; exact hz)⟩
                  obtain ⟨rfl, s3⟩ := s3
                  obtain ⟨a1, a2⟩ := er_made (vs := [v']) (l := [d2]) (ns := [m]) hnm e1.symm rfl rfl s3 n3
                  exact w _ _ σ _ a1 a2
              have hv' : (goCall cf f [d] ds1).bind (fun x => frzR G.fl x.1 x.2) = .ok (d2, ds2) := hv
              unfold goCall at hv'
              cases e : cf f none [d] with
              | no => rw [e] at hv'; cases hv'
              | er r0 bo => 
                rw [e] at hv'
                cases bo <;> cases hv'
              | ok rv bo =>
                rw [e] at hv'
                cases bo with
                | some o => cases hv'
                | none => exact fun v' H' ex r => fin v' H' rv ex r hv'
end
end Ev
/-! X5: a try whose clauses name their error, or not. -/
namespace Ev
open PySem PySem.Spec PyProof.Rows L2 Sg PySem.XI
/-- a clause: its class, the slot of its name, its suite -/
structure ClT where
  c : Value
  sl : Option Nat
  ts : Addr → Value → Option Addr → TS
def Ends.gone (i : Nat) (D : Ends) : Ends := { nx := fun σ H => D.nx (σ.set i none) H, rt := D.rt, bk := fun σ H => D.bk (σ.set i none) H, ct := fun σ H => D.ct (σ.set i none) H }
def ClT.go (t : ClT) (D : Ends) (a : Addr) (cls : Value) (d : Option Addr) (σ : L2.St) (H : Hp) : Prop := match t.sl with
  | none => t.ts a cls d D σ H
  | some i => t.ts a cls d (Ends.gone i D) (σ.set i (some (.ref a))) H
def wCl (K : PySem.W.Frag) (Wout : WX) (D : Ends) : List ClT → WX
  | [] => Wout
  | t :: r => fun cls d σ H => ∃ b, PySem.W.exmOne K cls t.c = some b ∧ (b = true → ∀ a, H a = none → t.go D a cls d σ H) ∧ (b = false → wCl K Wout D r cls d σ H)
inductive ClOk (X : Cx) : List ExceptHandler → List ClT → Prop
  | nil : ClOk X [] []
  | bare {x : Str} {c : Value} {ts : Addr → Value → Option Addr → TS} {b₀ : Stmt} {suite : List Stmt} {np p' : Pos} {hds : List ExceptHandler} {l : List ClT} (hc : Names X x c)
      (hsu : ∀ (a : Addr) (oe : Obj) (cls : Value) (d : Option Addr) (pn : List (Addr × Obj)), Zc cls d oe → (∃ vs, oe.data = .fields vs) → PSs (X.suite a ((a, oe) :: pn)) (b₀ :: suite) (ts a cls d)) (r : ClOk X hds l) :
      ClOk X (.ExceptHandler (some (.Name x np)) none (b₀ :: suite) p' :: hds) (⟨c, none, ts⟩ :: l)
  | named {x n : Str} {i : Nat} {c : Value} {ts : Addr → Value → Option Addr → TS} {b₀ : Stmt} {suite : List Stmt} {np p' : Pos} {hds : List ExceptHandler} {l : List ClT} (hc : Names X x c)
      (hN : X.N.Nodup) (hi : X.N[i]? = some n) (hln : X.env.kindOf n = some .local)
      (hsu : ∀ (a : Addr) (oe : Obj) (cls : Value) (d : Option Addr) (pn : List (Addr × Obj)), Zc cls d oe → (∃ vs, oe.data = .fields vs) → PSs (X.suite a ((a, oe) :: pn)) (b₀ :: suite) (ts a cls d)) (r : ClOk X hds l) :
      ClOk X (.ExceptHandler (some (.Name x np)) (some n) (b₀ :: suite) p' :: hds) (⟨c, some i, ts⟩ :: l)
/-- an error on its way into the clauses -/
structure Fly (X : Cx) (pins : List (Addr × Obj)) (σ : L2.St) (H : Hp) (cls : Value) (d : Option Addr) (a : Addr) (B : Heap) (sI st : Shared) : Prop where
  J : Inv X pins σ H sI
  hs : X.stack = X.env :: X.outer
  hf : X.env.frame = some X.env.locals
  nb : ∀ b o, sI.heap.get? b = some o → b ∉ frs X.stack → B.get? b = some o
  up : sI.heap.UpToSlots st.heap
  fl : HandSPX.FlyingZ B (X.env :: X.outer) a (Zc cls d) st.heap
  na : H a = none
  os : st.os = sI.os
  ag : AllBare st.gens
section
variable {X : Cx} {body : List Stmt} {h₀ : ExceptHandler} {hds : List ExceptHandler} {l : List ClT} {pos : Pos} {tb : WX → TS} {Wout : WX} {pins : List (Addr × Obj)} {σ : L2.St} {H : Hp} {D : Ends} {cls : Value} {d : Option Addr} {a : Addr} {st sI : Shared} {B : Heap}
theorem Fly.inv (f : Fly X pins σ H cls d a B sI st) : Inv X pins σ H st := f.J.landed f.nb f.fl.1 f.up f.os f.ag
theorem Fly.suite (f : Fly X pins σ H cls d a B sI st) : ∃ (oe : Obj) (vs : Array Value), st.heap.get? a = some oe ∧ Zc cls d oe ∧ oe.data = .fields vs ∧ Inv (X.suite a ((a, oe) :: (X.pn ++ pins))) [] σ H st := by
  obtain ⟨oe, vs, he, hz, hd⟩ := f.fl.there
  have nfr : a ∉ frs (X.env :: X.outer) := fun hm => by
    obtain ⟨_, o', e', hnf⟩ := f.fl.2.2.1.mem hm
    rw [he] at e'
    cases e'
    exact hnf _ hd
  refine ⟨oe, vs, he, hz, hd, f.inv.suite he hd f.na (fun z => ?_) fun hm => ?_⟩
  · exact nfr (List.mem_filterMap.mpr ⟨X.env, List.mem_cons_self, by rw [f.hf, z]⟩)
  · obtain ⟨e, he', q⟩ := List.mem_filterMap.mp hm
    exact nfr (List.mem_filterMap.mpr ⟨e, List.mem_cons_of_mem _ he', q⟩)
/-- the error is let on -/
theorem Fly.on (f : Fly X pins σ H cls d a B sI st) (tk : Takes X Wout) (w : Wout cls d σ H) : wpAny (model X.prog X.w) X.A (handleBy (.ref a) X.env []) (SP X pins D) X.xe st := by
  refine wpAny_handleBy_nil ?_
  obtain ⟨k1, k2, k3, oe, vs, T, oT, ts', he, hz, hd, h1, hr⟩ := id f.fl
  unfold PySem.passOn
  refine wpAny_bind (wpAny_field he hd h1 ?_)
  rw [if_neg (show ¬ ((Value.ref T == Value.none) = true) from by simp)]
  have fin : wpAny (model X.prog X.w) X.A (setFlight (.ref a) X.env.frame) (fun _ s4 => wpAny (model X.prog X.w) X.A (throw (.ref a) : Sem Flow) (SP X pins D) X.xe s4) X.xe st := by
    rw [f.hf]
    refine HandSPX.setFlight_upZ f.fl fun h4 hh4 up4 => wpAny_throw (tk _ _ ?_)
    exact ⟨a, B, sI, pins, σ, H, cls, d, rfl, f.J, f.nb, f.up.trans up4, .inr (.inr (by rw [f.hs]; exact hh4)), f.na, f.os, f.ag, w⟩
  first
    | exact wpAny_bind (wpAny_pure (wpAny_bind fin))
    | exact wpAny_bind fin
/-- the clauses, one after the other -/
theorem clauses_ok (tk : Takes X Wout) (f : Fly X pins σ H cls d a B sI st) (hcl : ClOk X hds l) : wCl X.K Wout D l cls d σ H → wpAny (model X.prog X.w) X.A (handleBy (.ref a) X.env hds) (SP X pins D) X.xe st := by
  have test : ∀ {x : Str} {c : Value} {np : Pos} {Q : Value → Shared → Prop} {E : Value → Shared → Prop}, Names X x c → Q c st → wpAny (model X.prog X.w) (X.A.mark (some (.ref a))) (eval (.Name x np) X.env) Q E st := fun {x c np Q E} hc q => by
    obtain ⟨oe, vs, he, hz, hd, S⟩ := f.suite
    obtain ⟨hg, hdbg, hm | ⟨hm, hv, hnn⟩⟩ := hc
    · exact ld_glob (X := X.suite a ((a, oe) :: (X.pn ++ pins))) S hg hm q hdbg
    · exact ld_blt (X := X.suite a ((a, oe) :: (X.pn ++ pins))) S hg hm hv q hnn hdbg
  have cmp : ∀ {c : Value} {b : Bool}, PySem.W.exmOne X.K cls c = some b → PySem.W.Looks (model X.prog X.w) st.heap (excMatches (.ref a) c) b := fun {c b} hb1 => by
    obtain ⟨oe, vs, he, hz, hd, S⟩ := f.suite
    have LT : PySem.W.Looks (model X.prog X.w) st.heap (typeOf (.ref a)) cls := fun A Q E s k q => wpAny_typeOf_ref (k _ _ he) (by rw [hz.1]; exact q)
    exact PySem.W.exm_one (M := model X.prog X.w) f.inv.kIn LT hb1
  have ok := f.J.ok
  have again : ∀ {Q : Unit → Shared → Prop} {E : Value → Shared → Prop} {A : Around}, (∀ h4, Fly X pins σ H cls d a B sI { st with heap := h4 } → Q () { st with heap := h4 }) → wpAny (model X.prog X.w) A (setFlight (.ref a) none) Q E st := fun {Q E A} h =>
    HandSPX.lands_againZ f.fl fun h4 fl4 up4 => h h4 ⟨f.J, f.hs, f.hf, f.nb, f.up.trans up4, fl4, f.na, f.os, f.ag⟩
  induction hcl with
  | nil => exact fun w => f.on tk w
  | @bare x c ts b₀ suite np p' hds2 l2 hc hsu r ih =>
    intro w
    obtain ⟨b, hb1, hyes, hno⟩ := w
    refine wpAny_handleBy_cons (codeAny_handlers_test ?_) (by intro q; cases q)
    refine test hc ((cmp hb1).here ?_)
    cases b with
    | true =>
      refine codeAny_handlers_suite (again fun h4 f4 => ?_)
      obtain ⟨oe4, vs4, he4, hz4, hd4, S4⟩ := f4.suite
      refine wpAny_mono ((hsu a oe4 cls d (X.pn ++ pins) hz4 ⟨_, hd4⟩).run [] _ _ H _ S4 (hyes rfl a f.na)) (fun fw s6 hsp => ?_) (fun _ _ z => False.elim z)
      cases fw with
      | next => exact let ⟨σ6, H6, S6, q6⟩ := hsp; ⟨_, _, S6.unsuite ok, q6⟩
      | brk => exact let ⟨σ6, H6, S6, q6⟩ := hsp; ⟨_, _, S6.unsuite ok, q6⟩
      | cont => exact let ⟨σ6, H6, S6, q6⟩ := hsp; ⟨_, _, S6.unsuite ok, q6⟩
      | ret u => exact let ⟨v6, σ6, H6, S6, r6, q6⟩ := hsp; ⟨_, _, _, S6.unsuite ok, r6, q6⟩
    | false =>
      show wpAny _ X.A (handleBy (.ref a) X.env hds2) _ _ _
      exact ih (hno rfl)
  | @named x n i c ts b₀ suite np p' hds2 l2 hc hN hi hln hsu r ih =>
    intro w
    obtain ⟨b, hb1, hyes, hno⟩ := w
    refine wpAny_handleBy_cons (codeAny_handlers_test ?_) (by intro q; cases q)
    refine test hc ((cmp hb1).here ?_)
    cases b with
    | true =>
      refine codeAny_handlers_suite_as (again fun h4 f4 => ?_)
      obtain ⟨oe4, vs4, he4, hz4, hd4, S4⟩ := f4.suite
      refine store_ok (X := X.suite a ((a, oe4) :: (X.pn ++ pins))) (v := .ref a) S4 hN hi (.inl hln) rfl (fun s5 S5 => ?_) (.inr hln)
      refine wpAny_mono ((hsu a oe4 cls d (X.pn ++ pins) hz4 ⟨_, hd4⟩).run [] s5 _ H _ S5 (hyes rfl a f.na)) (fun fw s6 hsp => ?_) (fun _ _ z => False.elim z)
      have fin : ∀ {σ6 : L2.St} {H6 : Hp} {Q : Shared → Prop}, Inv (X.suite a ((a, oe4) :: (X.pn ++ pins))) [] σ6 H6 s6 → (∀ s7, Inv X pins (σ6.set i none) H6 s7 → Q s7) →
          wpAny (model X.prog X.w) X.A (do bindName X.env n .none; unbindBehindTheSuite X.env n p') (fun _ s7 => Q s7) X.xe s6 := fun {σ6 H6 Q} S6 hq => gone_ok (S6.unsuite ok) hN hi hln hq
      cases fw with
      | next => exact let ⟨σ6, H6, S6, q6⟩ := hsp; fin S6 fun s7 J7 => ⟨_, _, J7, q6⟩
      | brk => exact let ⟨σ6, H6, S6, q6⟩ := hsp; fin S6 fun s7 J7 => ⟨_, _, J7, q6⟩
      | cont => exact let ⟨σ6, H6, S6, q6⟩ := hsp; fin S6 fun s7 J7 => ⟨_, _, J7, q6⟩
      | ret u => exact let ⟨v6, σ6, H6, S6, r6, q6⟩ := hsp; fin S6 fun s7 J7 => ⟨_, _, _, J7, r6, q6⟩
    | false =>
      show wpAny _ X.A (handleBy (.ref a) X.env hds2) _ _ _
      exact ih (hno rfl)
/-- the try -/
theorem ps_tryC (hs : X.stack = X.env :: X.outer) (hf : X.env.frame = some X.env.locals) (tk : Takes X Wout)
    (hb : ∀ (W : WX) (pn : List (Addr × Obj)) (xe : Value → Shared → Prop), Takes (X.tr pn xe) W → PassesOwn (model X.prog X.w) X.A X.env xe → PSs (X.tr pn xe) body (tb W))
    (hh : ClOk X (h₀ :: hds) l) : PS X (.Try body (h₀ :: hds) [] [] pos) (fun D σ H => tb (wCl X.K Wout D l) D σ H) := by
  refine ⟨fun pins s σ H D I h => ?_⟩
  have ok := I.ok
  refine wpAny_Try_except ?_
  refine wpAny_mono ((hb (wCl X.K Wout D l) (X.pn ++ pins) (fun e s₁ => wpAny (model X.prog X.w) X.A (noteFrame e X.env) (fun _ s₂ => wpAny (model X.prog X.w) X.A (setFlight e none) (fun _ s₃ =>
    wpAny (model X.prog X.w) X.A (handleBy e X.env (h₀ :: hds)) (SP X pins D) X.xe s₃) X.xe s₂) X.xe s₁) (fun u s' xx => ?_) PassesOwn.looking).run [] s σ H D (I.toTry _) h) (fun f s1 hsp => ?_) (fun e s1 he => he)
  · obtain ⟨a, B, sI, pins', σ', H', cls, d, rfl, J, nb, up, sky, na, os, ag, w⟩ := xx
    have sky' : Sky B (X.env :: X.outer) a (Zc cls d) X.env.locals s'.heap := hs ▸ sky
    exact Sky.land Zc.steady (by rw [ok.frames, hs]) hf sky' fun h3 fl3 up3 => clauses_ok tk ⟨J.ofTry ok, hs, hf, nb, up.trans up3, fl3, na, os, ag⟩ hh w
  · cases f with
    | next => exact let ⟨σ', H', J', q⟩ := hsp; wpAny_execs_nil ⟨σ', H', J'.ofTry ok, q⟩
    | brk => exact let ⟨σ', H', J', q⟩ := hsp; ⟨σ', H', J'.ofTry ok, q⟩
    | cont => exact let ⟨σ', H', J', q⟩ := hsp; ⟨σ', H', J'.ofTry ok, q⟩
    | ret u => exact let ⟨v, σ', H', J', r, q⟩ := hsp; ⟨v, σ', H', J'.ofTry ok, r, q⟩
end
section
variable {X : Cx} {L : Kl} {F : Fm} {G : Gm} {cf : CallF} {k W : Nat} {ds : List Cell} {σ : L2.St} {H : Hp} {ts vs : List V} {tcs : List Cell} {dvs l : List Dt} {D : Ends} {a b c e tg it : Expr} {es : List Expr} {pos p pc : Pos} {x y z : Str} {st : Stmt} {rest body : List Stmt} {r : RS} {i j n : Nat} {is : List Nat}
def Wany (X : Cx) : WX := fun cls d σ H => ∃ W : WX, Takes X W ∧ W cls d σ H
theorem takes_any : Takes X (Wany X) := by
  intro u s' x
  obtain ⟨a, B, sI, pins, σ, H, cls, d, e, I, nb, up, sky, na, os, ag, W, tk, w⟩ := x
  exact tk u s' ⟨a, B, sI, pins, σ, H, cls, d, e, I, nb, up, sky, na, os, ag, w⟩
/-- the clauses of a try -/
def SndH (X : Cx) (L : Kl) (F : Fm) (hds : List ExceptHandler) (h : Er → List Cell → RS) : Prop :=
  ∃ l, ClOk X hds l ∧ ∀ (r : Er) (cls : Value) (d : Option Addr) (σ : L2.St) (H : Hp) (ds : List Cell) (ts : List V) (tcs : List Cell) (D : Ends), SD X.K L F H σ ds ts tcs → ErIs X.K L (hide H F.S) cls d r → AfterS X L F ts tcs D (h r ds) → wCl X.K (Wany X) D l cls d σ H
theorem snh_nil : SndH X L F [] fun r ds => .er r ds := ⟨[], .nil, fun r cls d σ H ds ts tcs D s e q =>
  let ⟨W, t, f⟩ := q
  ⟨W, t, f cls d σ H s e⟩⟩
theorem snh_cons {hds : List ExceptHandler} {f : List Cell → RS} {h : Er → List Cell → RS} {b₀ : Stmt} {np pos' : Pos} {suite : List Stmt} (C : Ctx X L G cf k) (hn : Names X x (L.xv n)) (hs : ∀ a pn ds, SndB (X.suite a pn) L F (b₀ :: suite) ds (f ds)) (hr : SndH X L F hds h) :
    SndH X L F (.ExceptHandler (some (.Name x np)) none (b₀ :: suite) pos' :: hds) fun r ds => match G.sub r.c n with
      | some true => noEr (f ds)
      | some false => h r ds
      | none => .no := by
  obtain ⟨l, ok, w⟩ := hr
  refine ⟨⟨L.xv n, none, fun a cls d D σ H => ∀ oe pn, WB (X.suite a ((a, oe) :: pn)) (b₀ :: suite) D σ H⟩ :: l, .bare hn (fun a oe cls d pn _ _ => ⟨fun pins s σ H D I h => h oe pn pins s I⟩) ok, fun r cls d σ H ds ts tcs D s e q => ?_⟩
  cases hb : G.sub r.c n with
  | none => simp only [hb] at q; exact q.elim
  | some b =>
    simp only [hb] at q
    refine ⟨b, by rw [e.1]; exact C.xm _ _ _ hb, fun t a _ oe pn => ?_, fun t => ?_⟩
    · subst t
      refine hs a _ ds σ H ts tcs D s ?_
      have q' : AfterS X L F ts tcs D (noEr (f ds)) := q
      match f ds, q' with
      | .ok (.nx, _), q' => exact q'
      | .ok (.bk, _), q' => exact q'
      | .ok (.ct, _), q' => exact q'
      | .ok (.rt _, _), q' => exact q'
      | .er _ _, q' => exact q'.elim
      | .no, q' => exact q'
    · subst t
      exact w r cls d σ H ds ts tcs D s e q
/-- the attributes of a caught error -/
inductive Attrs (L : Kl) (nm : Str) : List Expr → List Nat → Prop
  | nil : Attrs L nm [] []
  | cons {f : Nat} {pa pb : Pos} {es : List Expr} {fs : List Nat} : Attrs L nm es fs → Attrs L nm (.Attribute (.Name nm pa) (L.nm f) pb :: es) (f :: fs)
/-- a class whose errors' attributes can be read -/
structure KXf (X : Cx) (L : Kl) (n : Nat) (fs : List Nat) : Prop where
  ex : ∃ C : Addr, L.xv n = .ref C ∧ XfC X.K C ∧ ∀ f ∈ fs, PySem.W.findIn X.K (.ref C) (L.nm f) = some none ∧ ∀ m, L.nm f = L.nm m → f = m
theorem look_xd {K : PySem.W.Frag} {f : Nat} (nmI : ∀ m, L.nm f = L.nm m → f = m) : ∀ {fv : List (Str × V)} {ns : List Nat} {l : List Dt} {d : Dt}, fv.map (·.1) = ns.map L.nm → Ims K L H (fv.map (·.2)) l → lookN f ns l = some d → ∃ v, fv.lookup (L.nm f) = some v ∧ Im K L H v d
  | [], ns, l, d, h1, h2, h3 => by
    cases ns with
    | nil => cases l <;> cases h3
    | cons _ _ => cases h1
  | (q, v) :: fv, ns, l, d, h1, h2, h3 => by
    cases ns with
    | nil => cases h1
    | cons m ns =>
      cases h2 with
      | cons a r =>
        rename_i d0 l0
        have e1 : q = L.nm m := (List.cons.inj h1).1
        have e2 := (List.cons.inj h1).2
        have h3' : (if Nat.beq f m then some d0 else lookN f ns l0) = some d := h3
        by_cases hf : Nat.beq f m = true
        · rw [if_pos hf] at h3'
          cases h3'
          have : f = m := Nat.eq_of_beq_eq_true hf
          subst this
          exact ⟨v, by rw [e1]; simp [List.lookup], a⟩
        · rw [if_neg hf] at h3'
          obtain ⟨u, g1, g2⟩ := look_xd nmI e2 r h3'
          refine ⟨u, ?_, g2⟩
          have hne : (L.nm f == q) = false := by
            rw [e1, beq_eq_false_iff_ne]
            intro z
            exact hf (by rw [nmI _ z]; exact Nat.beq_refl m)
          rw [List.lookup, hne]
          exact g1
end
end Ev
/-! X6: `except X as e: return pre + repr(e.f)`. -/
namespace Ev
open PySem PySem.Spec PyProof.Rows L2 Sg PySem.XI
section
variable {X : Cx} {L : Kl} {F : Fm} {G : Gm} {cf : CallF} {k W : Nat} {ds : List Cell} {σ : L2.St} {H : Hp} {ts vs : List V} {tcs : List Cell} {dvs l : List Dt} {D : Ends} {arg e : Expr} {es : List Expr} {pos p pc : Pos} {x nm : Str} {i j n : Nat}
theorem wa_attrs {a C dx : Addr} {oe : Obj} {pn : List (Addr × Obj)} {ns : List Nat} {l0 : List Dt} {fv : List (Str × V)} (T : XfC X.K C) (hz : Zc (.ref C) (some dx) oe) (hf : ∃ vs, oe.data = .fields vs)
    (hN : X.N[i]? = some nm) (hv : Vis X.env.scope nm) (hd : (nm == ("__debug__" : Str)) = false) (hcd : (nm == ("__classdict__" : Str)) = false)
    (hsl : σ[i]? = some (some (.ref a))) (ea : H dx = some (.xd fv)) (h1 : fv.map (·.1) = ns.map L.nm) (h2 : Ims X.K L H (fv.map (·.2)) l0) :
    ∀ {es : List Expr} {fs : List Nat} {l : List Dt} {Q : List V → Hp → Prop}, Attrs L nm es fs → (∀ f ∈ fs, PySem.W.findIn X.K (.ref C) (L.nm f) = some none ∧ ∀ m, L.nm f = L.nm m → f = m) → looksN ns l0 fs = some l → (∀ vs, Ims X.K L H vs l → Q vs H) → WA (X.suite a ((a, oe) :: pn)) es σ H Q
  | _, _, l, Q, .nil, _, hl, q => by
    have : l = [] := by
      unfold looksN at hl
      exact (Option.some.inj hl).symm
    subst this
    exact wa pa_nil (q [] .nil)
  | _, _, l, Q, @Attrs.cons _ _ f pa pb es fs ha, hn, hl, q => by
    unfold looksN at hl
    cases e1 : lookN f ns l0 with
    | none => simp only [e1] at hl; cases hl
    | some d =>
      cases e2 : looksN ns l0 fs with
      | none => simp only [e1, e2] at hl; cases hl
      | some r =>
        simp only [e1, e2] at hl
        cases hl
        obtain ⟨v, g1, g2⟩ := look_xd (hn f List.mem_cons_self).2 h1 h2 e1
        refine wa (pa_cons (pe_xf T (hn f List.mem_cons_self).1 hz hf (pe_var hN hv hd hcd)) pa_wa) ⟨_, hsl, rfl, rfl, dx, fv, v, rfl, ea, g1, ?_⟩
        exact wa_attrs T hz hf hN hv hd hcd hsl ea h1 h2 ha (fun g hg => hn g (List.mem_cons_of_mem _ hg)) e2 fun vs ims => q (v :: vs) (.cons g2 ims)
inductive ArgR (L : Kl) (nm : Str) : Expr → List Nat → Bool → Prop
  | one {e : Expr} {fs : List Nat} : Attrs L nm [e] fs → star1 e = false → ArgR L nm e fs false
  | tup {es : List Expr} {fs : List Nat} {k : Nat} {pt : Pos} : Attrs L nm es fs → fs.length ≤ 8 → ArgR L nm (.Tuple es k pt) fs true
theorem looksN_len {ns : List Nat} {l0 : List Dt} : ∀ {fs : List Nat} {l : List Dt}, looksN ns l0 fs = some l → l.length = fs.length
  | [], l, h => by
    unfold looksN at h
    cases h
    rfl
  | f :: fs, l, h => by
    unfold looksN at h
    cases e1 : lookN f ns l0 with
    | none => simp only [e1] at h; cases h
    | some d =>
      cases e2 : looksN ns l0 fs with
      | none => simp only [e1, e2] at h; cases h
      | some r =>
        simp only [e1, e2] at h
        cases h
        simp [looksN_len e2]
/-- what is said of a caught error -/
theorem we_said {a C dx : Addr} {oe : Obj} {pn : List (Addr × Obj)} {ns fs : List Nat} {l0 : List Dt} {fv : List (Str × V)} {pre t : List Nat} {tup : Bool} {p1 p2 p3 : Pos} {j1 : Nat} {Q : VK} (g : NoG X.A) (hu : X.A.units + 100 < cLine) (hgr : Gl X "repr") (hmr : X.mg "repr" = none)
    (T : XfC X.K C) (hz : Zc (.ref C) (some dx) oe) (hf : ∃ vs, oe.data = .fields vs)
    (hN : X.N[i]? = some nm) (hv : Vis X.env.scope nm) (hd : (nm == ("__debug__" : Str)) = false) (hcd : (nm == ("__classdict__" : Str)) = false)
    (hsl : σ[i]? = some (some (.ref a))) (ea : H dx = some (.xd fv)) (h1 : fv.map (·.1) = ns.map L.nm) (h2 : Ims X.K L H (fv.map (·.2)) l0) (ha : ArgR L nm arg fs tup) (hn : ∀ f ∈ fs, PySem.W.findIn X.K (.ref C) (L.nm f) = some none ∧ ∀ m, L.nm f = L.nm m → f = m)
    (hr : hdRv ⟨n, some (ns, l0)⟩ pre fs tup = some t) (s : SD X.K L F H σ ds ts tcs) (q : ∀ H', SD X.K L F H' σ ds ts tcs → Q (.str (mkS t)) H') :
    WE (X.suite a ((a, oe) :: pn)) (.BinOp (.Constant (.str (mkS pre)) j1 p1) .Add (.Call (.Name "repr" p2) [arg] [] p3) pos) σ H Q := by
  refine we_bin (we pe_str ?_)
  have fin : ∀ {v : V} {d : Dt} {H1 : Hp}, Im X.K L H1 v d → SD X.K L F H1 σ ds ts tcs → (if shwB d && szB (pre.length + (shD d).length) then some (pre ++ shD d) else none) = some t →
      W1 (X.suite a ((a, oe) :: pn)) (.builtin "repr") σ [v] H1 fun y H2 => W2 (X.suite a ((a, oe) :: pn)) (binaryOp .Add) σ (.str (mkS pre)) y H2 Q := by
    intro v d H1 im s1 ht
    cases hs : shwB d && szB (pre.length + (shD d).length) with
    | false => rw [hs] at ht; cases ht
    | true =>
      rw [hs] at ht
      have ht' : pre ++ shD d = t := Option.some.inj ht
      obtain ⟨hs1, hs2⟩ := Bool.and_eq_true _ _ |>.mp hs
      obtain ⟨a1, a2, a3, a4⟩ := shwB_ok hs1
      refine w1 (call_reprD (X := X.suite a ((a, oe) :: pn)) g hu) ⟨v, d.py, rfl, im.dp a1, ⟨a2, a3, a4⟩, ?_⟩
      rw [shD_py a1]
      have s2 : SD (X.suite a ((a, oe) :: pn)).K L F H1 σ ds (.str (mkS (shD d)) :: .str (mkS pre) :: ts) (.im (.str (shD d)) :: .im (.str pre) :: tcs) := (s1.push fun _ => .str _).push fun _ => .str _
      refine bin_ok s2 ?_
      have e : binD .Add (.str pre) (.str (shD d)) = some (.val (.str t)) := by
        show okV (szB (pre.length + (shD d).length)) (.str (pre ++ shD d)) = _
        rw [hs2, ht']
        rfl
      rw [e]
      intro u H2 s3
      have s4 : SD X.K L F H2 σ ds (u :: ts) (.im (.str t) :: tcs) := s3
      have im2 := s4.top
      cases im2
      exact q H2 s4.pop
  have ex : SD X.K L F H σ ds ([] ++ ts) (([] : List Dt).map Cell.im ++ tcs) := s
  unfold hdRv at hr
  simp only at hr
  cases hl : looksN ns l0 fs with
  | none => rw [hl] at hr; cases hr
  | some r =>
    rw [hl] at hr
    simp only at hr
    cases ha with
    | one ha h1s =>
      refine we_blt (u := .builtin "repr") hgr hmr (by decide +kernel) (.inl ⟨_, rfl⟩) (by decide +kernel) (by decide +kernel) h1s rfl ?_
      match r, hr with
      | [], hr => cases hr
      | _ :: _ :: _, hr => cases hr
      | [d], hr =>
        refine wa_attrs T hz hf hN hv hd hcd hsl ea h1 h2 ha hn hl fun vs ims => ?_
        cases ims with
        | cons im r0 =>
          cases r0
          exact fin im s hr
    | tup ha h8 =>
      refine we_blt (u := .builtin "repr") hgr hmr (by decide +kernel) (.inl ⟨_, rfl⟩) (by decide +kernel) (by decide +kernel) rfl rfl ?_
      have hr' : (if shwB (.tup r) && szB (pre.length + (shD (.tup r)).length) then some (pre ++ shD (.tup r)) else none) = some t := by
        match r, hr with
        | [], hr => exact hr
        | [_], hr => exact hr
        | _ :: _ :: _, hr => exact hr
      refine wa (pa_cons (pe_tup pa_wa) pa_nil rfl) ?_
      refine wa_attrs T hz hf hN hv hd hcd hsl ea h1 h2 ha hn hl fun vs ims => ⟨?_, fun p hp => ?_⟩
      · rw [ims.length, looksN_len hl]
        exact Nat.le_trans h8 (by decide +kernel)
      · obtain ⟨S, al, im, go⟩ := ex.call rfl
        refine fin (.tup (SqT.of upd_same) (ims.ext (Ex.new hp))) ?_ hr'
        exact (go _ ⟨Ex.new hp, tbs_new s.ext.tb hp⟩).1
theorem snh_r {hds : List ExceptHandler} {h : Er → List Cell → RS} {np pos' p1 p2 p3 p4 : Pos} {j1 : Nat} {m : Str} {fs : List Nat} {tup : Bool} (C : Ctx X L G cf k) (hn : Names X x (L.xv n)) (hx : KXf X L n fs) 
    (hgr : Gl X "repr") (hi : X.N[i]? = some nm) (hln : X.env.kindOf nm = some .local) (hv : Vis X.env.scope nm) (hd : (nm == ("__debug__" : Str)) = false) (hcd : (nm == ("__classdict__" : Str)) = false) (ha : ArgR L nm arg fs tup) (hr : SndH X L F hds h) :
    SndH X L F (.ExceptHandler (some (.Name x np)) (some nm) [.Return (some (.BinOp (.Constant (.str m) j1 p1) .Add (.Call (.Name "repr" p2) [arg] [] p3) pos)) p4] pos' :: hds) fun r ds => match G.sub r.c n with
      | some true => if r.c = n ∧ i < ds.length then match hdRv r m.cps.toList fs tup with
          | some t => .ok (.rt (.val (.str t)), ds.set i .free)
          | none => .no
        else .no
      | some false => h r ds
      | none => .no := by
  obtain ⟨l, ok, w⟩ := hr
  obtain ⟨C1, x1, x2, x3⟩ := hx.ex
  refine ⟨⟨L.xv n, some i, fun a cls d D σ H => ∀ oe pn, Zc cls d oe → (∃ vs, oe.data = .fields vs) → WB (X.suite a ((a, oe) :: pn)) [.Return (some (.BinOp (.Constant (.str m) j1 p1) .Add (.Call (.Name "repr" p2) [arg] [] p3) pos)) p4] D σ H⟩ :: l,
    .named hn C.nd hi hln (fun a oe cls d pn hz hf => ⟨fun pins s σ H D I h => h oe pn hz hf pins s I⟩) ok, fun r cls d σ H ds ts tcs D s e q => ?_⟩
  cases hb : G.sub r.c n with
  | none => simp only [hb] at q; exact q.elim
  | some b =>
    simp only [hb] at q
    refine ⟨b, by rw [e.1]; exact C.xm _ _ _ hb, fun t a _ oe pn hz hf => ?_, fun t => ?_⟩
    · subst t
      simp only at q
      by_cases hc : r.c = n ∧ i < ds.length
      · rw [if_pos hc] at q
        cases ht : hdRv r m.cps.toList fs tup with
        | none => rw [ht] at q; exact q.elim
        | some t =>
          rw [ht] at q
          have q' : ∀ v σ H, Has X.K L F H σ (ds.set i .free) [] [] v ts tcs (.val (.str t)) → D.rt v H := q
          obtain ⟨rc, rfs⟩ := r
          obtain ⟨hc1, hc2⟩ := hc
          obtain rfl : rc = n := hc1
          cases rfs with
          | none => cases ht
          | some nl =>
            obtain ⟨ns, l0⟩ := nl
            obtain ⟨e1, dx, fv, rfl, e3, e4, e5⟩ := e
            rw [x1] at e1
            subst e1
            have hls : σ.length = ds.length := SD.len s
            have sl : (σ.set i (some (.ref a)))[i]? = some (some (.ref a)) := List.getElem?_set_self (by omega)
            refine wb (pss_one (ps_ret pe_we)) ?_
            have := we_said (p1 := p1) (p2 := p2) (p3 := p3) (pos := pos) (j1 := j1) (pn := pn) (Q := D.rt) C.g (by have := C.hr.un; omega) hgr (C.bn _ (by decide +kernel)) x2 hz hf hi hv hd hcd sl (hide_ex dx _ e3 nt_xd) e4 (e5.ext hide_ex) ha x3 ht (s.wipe (x := some (.ref a)) (i := i)) fun H' s' => q' _ _ H' (s'.push fun _ => .str _)
            rw [mkS_of] at this
            exact this
      · rw [if_neg hc] at q
        exact q.elim
    · subst t
      exact w r cls d σ H ds ts tcs D s e q
theorem sns_try {h₀ : ExceptHandler} {hds : List ExceptHandler} {body : List Stmt} {f : List Cell → RS} {h : Er → List Cell → RS} (hs : X.stack = X.env :: X.outer) (hf : X.env.frame = some X.env.locals)
    (hb : ∀ pn xe, PassesOwn (model X.prog X.w) X.A X.env xe → ∀ ds, SndB (X.tr pn xe) L F body ds (f ds)) (hh : SndH X L F (h₀ :: hds) h) :
    SndS X L F (.Try body (h₀ :: hds) [] [] pos) ds (catchS (f ds) h) := by
  intro σ H ts tcs D s q
  obtain ⟨l, ok, w⟩ := hh
  refine ws (ps_tryC (tb := fun W D σ H => ∀ pn xe, Takes (X.tr pn xe) W → PassesOwn (model X.prog X.w) X.A X.env xe → WB (X.tr pn xe) body D σ H) hs hf takes_any (fun W pn xe tk' po => ⟨fun pins s σ H D I h => h pn xe tk' po pins s I⟩) ok) fun pn xe tk' po => ?_
  refine hb pn xe po ds σ H ts tcs D s ?_
  match f ds, q with
  | .ok (.nx, _), q => exact q
  | .ok (.bk, _), q => exact q
  | .ok (.ct, _), q => exact q
  | .ok (.rt _, _), q => exact q
  | .er r ds1, q => exact ⟨_, tk', fun cls d σ' H' s' e => w r cls d σ' H' ds1 ts tcs D s' e q⟩
end
end Ev
/-! X7: list.extend of a list of one's own. -/
namespace Ev
open PySem PySem.Spec PyProof.Rows L2 Sg
section
variable {X : Cx} {L : Kl} {F : Fm} {G : Gm} {cf : CallF} {k W : Nat} {ds : List Cell} {σ : L2.St} {H : Hp} {ts vs : List V} {tcs : List Cell} {D : Ends} {pos p : Pos} {x y : Str} {i j : Nat}
theorem sns_ext {p1 p2 apos cpos : Pos} (hv : VrN X x i) (hw : VrN X y j) (hline : (apos.endLine == cpos.line) = true) :
    SndS X L F (.Expr (.Call (.Attribute (.Name x p1) "extend" apos) [.Name y p2] [] cpos) pos) ds (extR i j ds) := by
  intro σ H ts tcs D s q
  unfold extR at q
  cases hij : Nat.beq i j with
  | true => rw [hij] at q; exact q.elim
  | false =>
    rw [hij] at q
    rcases ownL_cases ds i with ⟨b1, l1, e1, o1⟩ | e1
    · rcases ownL_cases ds j with ⟨b2, l2, e2, o2⟩ | e2
      · rw [e1] at q
        have q2 : AfterS X L F ts tcs D ((ownL j ds).bind fun m => if szB (l1.length + m.2.length) then .ok (.nx, ds.set i (.own b1 (.lst (l1 ++ m.2)))) else .no) := q
        rw [e2] at q2
        have q3 : AfterS X L F ts tcs D (if szB (l1.length + l2.length) then .ok (.nx, ds.set i (.own b1 (.lst (l1 ++ l2)))) else .no) := q2
        cases hz : szB (l1.length + l2.length) with
        | false => rw [hz] at q3; exact q3.elim
        | true =>
          rw [hz] at q3
          obtain ⟨p2', h2, a1, a2, a3, a4, a5, a6⟩ := SD.ownS (vs := []) (dvs := []) rfl s o2
          cases a3 with
          | lst r2 =>
            rename_i zs
            have s2 : SD X.K L F H σ ds (zs ++ ts) (l2.map Cell.im ++ tcs) := a5 zs l2 fun Hh _ o _ => by
              cases o with
              | lst r => exact r
            obtain ⟨p1', h1, c1, c2, c3, c4, c5, c6⟩ := SD.ownS (vs := zs) (dvs := l2) r2.length s2 o1
            cases c3 with
            | lst r1 =>
              rename_i xs
              refine ws (ps_expr (pe_bm PySem.F.plainAttrs_list PySem.F.slot_list_extend PySem.F.type_list_extend mt_extend hv.pe (pa_cons hw.pe pa_nil rfl) rfl rfl hline rfl rfl) rfl) ?_
              refine ⟨.ref p1', c1, .inl ⟨rfl, xs, SqL.of c2⟩, .ref p2', a1, p1', p2', xs, zs, rfl, rfl, c2, a2, ?_, q3 σ _ ?_⟩
              · rw [r1.length, r2.length]
                exact szB_le hz
              · have := c6 (.lst (xs ++ zs)) (.lst (l1 ++ l2)) [] [] fun Hh _ o r => by
                  cases o with
                  | lst r5 => exact ⟨.lst (r5.append r), .nil⟩
                simpa using this
      · rw [e1] at q
        have q2 : AfterS X L F ts tcs D ((ownL j ds).bind fun m => if szB (l1.length + m.2.length) then .ok (.nx, ds.set i (.own b1 (.lst (l1 ++ m.2)))) else .no) := q
        rw [e2] at q2
        exact q2.elim
    · rw [e1] at q
      exact q.elim
end
end Ev
/-! X8: f-strings. -/
namespace Ev
open PySem PySem.Spec PyProof.Rows L2 Sg
section
variable {X : Cx} {L : Kl} {F : Fm} {G : Gm} {cf : CallF} {k : Nat} {ds : List Cell} {σ : L2.St} {H : Hp} {ts vs : List V} {tcs : List Cell} {Q : VK} {e v1 v2 : Expr} {es : List Expr} {pos p : Pos} {ce cs : CE}
theorem snd_fval {r : Bool} {cv : Int} (hcv : cv = if r then 114 else -1) (hL : L.fl = G.fl) (ha : ∀ ds, SndE X L F e ds (evE G cf ce ds)) : SndE X L F (.FormattedValue e cv none pos) ds (evE G cf (.fval r ce) ds) := by
  intro σ H ts tcs Q s q
  have key : ∀ v H1 d ds1, SD X.K L F H1 σ ds1 (v :: ts) (.im d :: tcs) → After X L F σ ts tcs Q (opt (fvD r d) ds1) →
      (∃ y : Str, v = .str y ∧ (if r then (reprText y).length ≤ sizeLine ∧ Q (.str (reprText y)) H1 else y.length ≤ sizeLine ∧ Q (.str y) H1)) ∨ ∃ i : Int, v = .int i ∧ i.natAbs.log2 < 1920 ∧ Q (.str (toString i)) H1 := by
    intro v H1 d ds1 s1 q1
    have im := s1.top
    have s0 := s1.pop
    cases im with
    | str x =>
      refine .inl ⟨_, rfl, ?_⟩
      cases r with
      | true =>
        rw [if_pos rfl]
        have q2 : After X L F σ ts tcs Q (opt (okV (shwB (.str x)) (.str (shD (.str x)))) ds1) := q1
        cases hs : shwB (.str x) with
        | false => rw [hs] at q2; exact q2.elim
        | true =>
          rw [hs] at q2
          obtain ⟨a1, a2, a3, a4⟩ := shwB_ok hs
          have e1 : PyData.shown (Dt.py (.str x)) = mkS (shD (.str x)) := shD_py a1
          have e2 : PyData.shown (Dt.py (.str x)) = reprText (mkS x) := by simp [Dt.py, PyData.shown]
          refine ⟨by rw [← e2]; exact a3, ?_⟩
          rw [← e2, e1]
          exact q2 _ _ (s0.push fun _ => .str _)
      | false =>
        rw [if_neg (by simp)]
        have q2 : After X L F σ ts tcs Q (opt (okV (szB x.length) (.str x)) ds1) := q1
        cases hs : szB x.length with
        | false => rw [hs] at q2; exact q2.elim
        | true =>
          rw [hs] at q2
          exact ⟨by rw [mkS_len]; exact szB_le hs, q2 _ _ (s0.push fun _ => .str _)⟩
    | int i =>
      refine .inr ⟨i, rfl, ?_⟩
      have q2 : After X L F σ ts tcs Q (opt (okV (shwB (.int i)) (.str (shD (.int i)))) ds1) := q1
      cases hs : shwB (.int i) with
      | false => rw [hs] at q2; exact q2.elim
      | true =>
        rw [hs] at q2
        obtain ⟨a1, a2, a3, a4⟩ := shwB_ok hs
        have e1 : PyData.shown (Dt.py (.int i)) = mkS (shD (.int i)) := shD_py a1
        have e2 : PyData.shown (Dt.py (.int i)) = (toString i : String) := by simp [Dt.py, PyData.shown]
        refine ⟨by simpa [Dt.py, PyData.showable] using a2, ?_⟩
        rw [← e2, e1]
        exact q2 _ _ (s0.push fun _ => .str _)
    | _ => exact q1.elim
  cases r with
  | true =>
    subst hcv
    refine we (pe_fmtR pe_we) ((ha ds).v hL s (AfterV.of q id (fun _ _ h => h) fun d ds1 q v H1 s1 => ?_))
    rcases key v H1 d ds1 s1 q with ⟨y, rfl, h⟩ | h
    · exact .inl ⟨y, rfl, by simpa using h⟩
    · exact .inr h
  | false =>
    subst hcv
    refine we (pe_fmt pe_we) ((ha ds).v hL s (AfterV.of q id (fun _ _ h => h) fun d ds1 q v H1 s1 => ?_))
    rcases key v H1 d ds1 s1 q with ⟨y, rfl, h⟩ | h
    · exact .inl ⟨y, rfl, by simpa using h⟩
    · exact .inr h
/-- the parts, each with its code -/
inductive SndJ (X : Cx) (L : Kl) (F : Fm) (G : Gm) (cf : CallF) : List Expr → CE → Prop
  | nil : SndJ X L F G cf [] .nil
  | cons {e : Expr} {es : List Expr} {ce cs : CE} : (∀ ds, SndE X L F e ds (evE G cf ce ds)) → SndJ X L F G cf es cs → SndJ X L F G cf (e :: es) (.cons ce cs)
theorem pj_we : ∀ {es : List Expr}, PJ X es (es.map (WE X))
  | [] => .nil
  | _ :: _ => .cons pe_we pj_we
theorem tjs_ok (hL : L.fl = G.fl) {es : List Expr} {cs : CE} (h : SndJ X L F G cf es cs) : ∀ {acc : List Nat} {ds : List Cell} {σ : L2.St} {H : Hp} {ts : List V} {tcs : List Cell}, SD X.K L F H σ ds ts tcs → After X L F σ ts tcs Q (evJ G cf cs acc ds) →
    tJs (es.map (WE X)) (mkS acc) σ H fun out H1 => Q (.str out) H1 := by
  induction h with
  | nil => exact fun s q => q _ _ (s.push fun _ => .str _)
  | @cons e es ce cs ha hr ih =>
    intro acc ds σ H ts tcs s q
    have q' : After X L F σ ts tcs Q ((vv G (evE G cf ce ds)).bind fun x => match x.1 with
      | .str y => if szB (acc.length + y.length) then evJ G cf cs (acc ++ y) x.2 else .no
      | _ => .no) := q
    refine (ha ds).v hL s (AfterV.of q' id (fun _ _ h => h) fun d ds1 q v H1 s1 => ?_)
    have im := s1.top
    have s0 := s1.pop
    cases im with
    | str y =>
      simp only at q
      cases hz : szB (acc.length + y.length) with
      | false => rw [hz] at q; exact q.elim
      | true =>
        rw [hz] at q
        refine ⟨_, rfl, ?_, ?_⟩
        · rw [mkS_app, mkS_len, List.length_append]
          exact szB_le hz
        · rw [mkS_app]
          exact ih s0 q
    | _ => exact q.elim
theorem snd_fstr {cs : CE} (hL : L.fl = G.fl) (h : SndJ X L F G cf (v1 :: v2 :: es) cs) : SndE X L F (.JoinedStr (v1 :: v2 :: es) pos) ds (evE G cf (.fstr cs) ds) := by
  intro σ H ts tcs Q s q
  refine we (pe_joined pj_we) ?_
  have := tjs_ok hL h (acc := []) s q
  exact this
end
end Ev
/-! E16: a def's promise from its body. -/
namespace Ev
open PySem PySem.Spec PyProof.Rows L2 Sg
section
variable {K : PySem.W.Frag} {L : Kl} {F : Fm} {G : Gm} {cf : CallF} {H : Hp} {σ : L2.St} {ds : List Cell} {ts vs ws : List V} {tcs : List Cell} {dvs : List Dt} {v : V} {c : Code} {bo : Option OD} {B : List Addr} {os : List Addr}
theorem back_at (hT : F.T.isSome = c.bor) (hTS : ∀ p, F.T = some p → p ∈ B) (sub : ∀ q ∈ B, q ∈ os ++ F.S) (sl : Slots K L F.T (hide H (os ++ F.S)) H σ ds os) (e : backO c ds = some bo) : BorAt K L B H F.T bo := by
  unfold backO at e
  split at e
  · rename_i hb
    split at e
    · rename_i o e0
      cases e
      obtain ⟨p, h, hp, e1, e2, hx, t⟩ := sl.ownAt e0
      have ht : F.T = some p := t.mpr rfl
      rw [ht]
      exact ⟨hTS p ht, h, e2, hx.ext (hide_sub sub)⟩
    · cases e
  · rename_i hb
    cases e
    have : F.T = none := by
      cases hh : F.T with
      | none => rfl
      | some p => rw [hh] at hT; exact absurd hT.symm hb
    rw [this]
    trivial
theorem ret_at {rv r : RV} (hT : F.T.isSome = c.bor) (hTS : ∀ p, F.T = some p → p ∈ F.S) (s : Has K L F H σ ds [] [] v [] [] rv) (e : retR rv ds = some r) (eb : backO c ds = some bo) : RetAt K L F.S F.T bo F.H0 H v r := by
  have two : ∀ {p : Addr} {h : HO} {o : OD} {os : List Addr}, (∀ q ∈ p :: os, (¬ Nt F.H0 q ∨ F.T = some q) ∧ Nt H q) → H p = some h → OAt K L (hide H (p :: os ++ F.S)) h o → F.T ≠ some p → Slots K L F.T (hide H (p :: os ++ F.S)) H σ ds os →
      RetAt K L F.S F.T bo F.H0 H (.ref p) (.new o) := by
    intro p h o os hd a w t sl
    refine ⟨p, h, rfl, ?_, a, w.ext (hide_sub fun q hq => ?_), ?_⟩
    · rcases (hd p List.mem_cons_self).1 with z | z
      · exact z
      · exact absurd z t
    · rcases List.mem_cons.mp hq with z | z
      · exact z ▸ List.mem_append_left _ List.mem_cons_self
      · exact List.mem_append_right _ z
    · have sl' : Slots K L F.T (hide H (os ++ (p :: F.S))) H σ ds os := sl.ext (hide_sub fun q hq => by
        simp only [List.mem_append, List.mem_cons] at hq ⊢
        rcases hq with z | z | z
        · exact .inl (.inr z)
        · exact .inl (.inl z)
        · exact .inr z) fun _ _ _ z _ => z
      exact back_at (F := ⟨F.H0, p :: F.S, F.T⟩) hT (fun q hq => List.mem_cons_of_mem _ (hTS q hq)) (fun q hq => List.mem_append_right _ hq) sl' eb
  cases rv with
  | val d =>
    cases e
    obtain ⟨os, n, hd, sl⟩ := SD.sl s
    cases sl with
    | im a r => exact ⟨back_at hT hTS (fun q hq => List.mem_append_right _ hq) r eb, a.ext (hide_sub fun q hq => List.mem_append_right _ hq)⟩
  | new o =>
    cases e
    obtain ⟨os, n, hd, sl⟩ := SD.sl s
    cases sl with
    | own a w t r => exact two hd a w (fun z => absurd (t.mp z) (by simp)) r
  | ali i =>
    obtain ⟨hv, s⟩ := s
    have e' : (match ds[i]? with | some (.own false o) => some (.new o) | _ => none) = some r := e
    split at e'
    · rename_i o e0
      cases e'
      obtain ⟨os, n, hd, sl⟩ := s.sl
      have sl0 : Slots K L F.T (hide H (os ++ F.S)) H σ ds os := sl
      obtain ⟨p, h, hp, e1, e2, hx, t⟩ := sl0.ownAt e0
      have hvp : v = .ref p := by rw [hv] at e1; simpa using e1
      subst hvp
      refine ⟨p, h, rfl, ?_, e2, hx.ext (hide_sub fun q hq => ?_), back_at hT (fun q hq => List.mem_cons_of_mem _ (hTS q hq)) (fun q hq => ?_) sl0 eb⟩
      · rcases (hd p hp).1 with z | z
        · exact z
        · exact absurd (t.mp z) (by simp)
      · rcases List.mem_cons.mp hq with z | z
        · exact z ▸ List.mem_append_left _ hp
        · exact List.mem_append_right _ z
      · rcases List.mem_cons.mp hq with z | z
        · exact z ▸ List.mem_append_left _ hp
        · exact List.mem_append_right _ z
    · cases e'
end
theorem Slots.free0 {K : PySem.W.Frag} {L : Kl} {T : Option Addr} {Hh H : Hp} : ∀ n, Slots K L T Hh H (List.replicate n none) (List.replicate n Cell.free) []
  | 0 => .nil
  | n + 1 => .free (Slots.free0 n)
theorem Slots.start {K : PySem.W.Frag} {L : Kl} {T : Option Addr} {Hh H : Hp} {n : Nat} : ∀ {ws : List V} {dvs : List Dt}, Ims K L Hh ws dvs → Slots K L T Hh H (ws.map some ++ List.replicate n none) (dvs.map Cell.im ++ List.replicate n Cell.free) []
  | _, _, .nil => Slots.free0 n
  | _, _, .cons a r => .im a (Slots.start r)
theorem runC_ok {L : Kl} {G : Gm} {cf : CallF} {W : Nat} {P : Program} {w : World} {K : PySem.W.Frag} {mg : Str → Option Value} {base : Heap} {k : Nat} {f : Addr} {fd : FuncData} {x qual : Str} {st : Stmt} {N ps : List Str} {c : Code}
    (Fu : Fun K x qual st f fd) (S : FnScope N ps (defScope st)) (hnp : c.np = ps.length) (hns : c.ns = N.length)
    (body : ∀ (cdv : Value) (A : Around) (outer : List Env) (s : Shared) (H : Hp) (E : XK) (F : Fm), fd.code = cdv →
      NoG (A.deeper (envOfC qual (defScope st) s.heap.objs.size f cdv)) → Room k (A.deeper (envOfC qual (defScope st) s.heap.objs.size f cdv)) →
      ∀ ds, SndB (cxOf (L2.CX P w) P w K mg base N qual (defScope st) f cdv A outer s H E) L F (defBody st) ds (evS G cf W c.body ds)) :
    FnG P w K mg base (L2.CX P w) (k + 1) f fd ps (spC K L (runC G cf W c)) := by
  refine fnG Fu S (fun vs H Q E h => ?_) fun cdv A outer s H vs Q E hG hr h hcdv => ?_
  · obtain ⟨S', T, ws, bo, dvs, rfl, h1, htb, hb, im, q⟩ := h
    unfold runC at q
    by_cases hh : bo.isSome = c.bor ∧ bo.toList.length + dvs.length = c.np ∧ c.np ≤ c.ns
    · rw [if_pos hh] at q
      obtain ⟨a1, a2, a3⟩ := hh
      have : T.toList.length = bo.toList.length := by
        cases T <;> cases bo <;> first | rfl | exact hb.elim
      rw [List.length_append, List.length_map, im.length, this, a2, hnp]
    · rw [if_neg hh] at q
      exact q.elim
  · obtain ⟨S', T, ws, bo, dvs, rfl, h1, htb, hb, im, q⟩ := h
    unfold runC at q
    by_cases hh : bo.isSome = c.bor ∧ bo.toList.length + dvs.length = c.np ∧ c.np ≤ c.ns
    · rw [if_pos hh] at q
      obtain ⟨a1, a2, a3⟩ := hh
      let F : Fm := ⟨H, S', T⟩
      have hTS : ∀ p, F.T = some p → p ∈ F.S := fun p hp => by
        have hp' : T = some p := hp
        subst hp'
        cases bo with
        | none => exact hb.elim
        | some o => exact hb.1
      have ok : FmOk F := ⟨hTS, h1⟩
      have hT : F.T.isSome = c.bor := by
        rw [← a1]
        show T.isSome = bo.isSome
        cases T <;> cases bo <;> first | rfl | exact hb.elim
      have subS : ∀ (A : List Addr), (∀ p ∈ A, p ∈ S') → Ex (hide H S') (hide H (A ++ S')) := fun A hA => hide_sub fun q hq => (List.mem_append.mp hq).elim (hA q) id
      have s0 : SD K L F H (L2.start N (T.toList.map V.ref ++ ws)) (cells0 c bo dvs) [] [] := by
        have hlen : N.length - (T.toList.map V.ref ++ ws).length = c.ns - c.np := by
          have : T.toList.length = bo.toList.length := by
            cases T <;> cases bo <;> first | rfl | exact hb.elim
          rw [List.length_append, List.length_map, im.length, this, a2, hns]
        refine ⟨ok, rfl, ⟨hide_ex, htb⟩, fun p hp => h1 p (hTS p hp), T.toList, by cases T <;> simp, fun p hp => ?_, ?_⟩
        · have hp' : T = some p := by simpa using hp
          exact ⟨.inr hp', h1 p (hTS p hp')⟩
        · unfold L2.start cells0
          rw [hlen]
          cases T with
          | none =>
            cases bo with
            | some o => exact hb.elim
            | none => exact Slots.start im
          | some p =>
            cases bo with
            | none => exact hb.elim
            | some o =>
              obtain ⟨b1, h', b2, b3⟩ := hb
              exact .own b2 (b3.ext (subS [p] (by simpa using b1))) ⟨fun _ => rfl, fun _ => rfl⟩ (Slots.start (im.ext (subS [p] (by simpa using b1))))
      have b := body cdv A outer s H E F hcdv hG hr (cells0 c bo dvs) (L2.start N (T.toList.map V.ref ++ ws)) H [] [] { nx := fun _ H' => Q .non H', rt := Q } s0
      refine ⟨_, pb_wb, b ?_⟩
      have hsub : ∀ (os : List Addr), ∀ q ∈ S', q ∈ os ++ F.S := fun os q hq => List.mem_append_right _ hq
      cases he : evS G cf W c.body (cells0 c bo dvs) with
      | no => rw [he] at q; exact q.elim
      | er r ds =>
        rw [he] at q
        cases hbk : backO c ds with
        | none => simp only [hbk] at q
        | some o =>
          simp only [hbk] at q
          refine ⟨fun cls d _ H => E cls d H, takes_of rfl rfl rfl rfl, fun cls d σ H' s' e => ?_⟩
          obtain ⟨os, n, hd, sl⟩ := s'.sl
          exact q cls d H' s'.ext (back_at hT hTS (hsub os) (show Slots K L F.T (hide H' (os ++ F.S)) H' σ ds os from sl) hbk) e
      | ok y =>
        obtain ⟨so, ds⟩ := y
        rw [he] at q
        cases so with
        | nx =>
          cases hbk : backO c ds with
          | none => simp only [hbk] at q
          | some o =>
            simp only [hbk] at q
            intro σ' H' s'
            exact q .non H' s'.ext (ret_at (rv := .val .non) hT hTS (SD.push s' fun _ => .non) rfl hbk)
        | rt rv =>
          cases hrt : retR rv ds with
          | none => simp only [hrt] at q
          | some r =>
            cases hbk : backO c ds with
            | none => simp only [hrt, hbk] at q
            | some o =>
              simp only [hrt, hbk] at q
              intro v σ' H' s'
              have hext : ExB L (hide H T.toList) H' := by
                cases rv with
                | val d => exact SD.ext s'
                | new o => exact SD.ext s'
                | ali i => exact SD.ext s'.2
              exact q v H' hext (ret_at hT hTS s' hrt hbk)
        | bk => exact q.elim
        | ct => exact q.elim
    · rw [if_neg hh] at q
      exact q.elim
end Ev
/-! X9: a lambda handed to a def that calls it. -/
namespace Ev
open PySem PySem.Spec PyProof.Rows L2 Sg LamX
section
variable {K : PySem.W.Frag} {L : Kl} {F : Fm} {H H' H1 Hh : Hp} {σ τ : L2.St} {ds : List Cell} {ts vs : List V} {tcs : List Cell} {v : V} {d : Dt} {S os : List Addr} {T : Option Addr}
theorem Slots.frees : ∀ {σ : L2.St} {n : Nat}, σ.length = n → Slots K L T Hh H σ (List.replicate n .free) []
  | [], _, rfl => .nil
  | o :: σ, _, rfl => .free (Slots.frees rfl)
/-- a frame with nothing of its own -/
theorem SD.frees {n : Nat} (al : ∀ p ∈ S, Nt H1 p) (ex : ExB L H1 H') (hn : σ.length = n) : SD K L ⟨H1, S, none⟩ H' σ (List.replicate n .free) [] [] :=
  ⟨⟨fun p h => (by cases h), al⟩, rfl, by rw [show hide H1 (none : Option Addr).toList = H1 from hide_nil]; exact ex, fun p h => (by cases h), [], List.nodup_nil, fun p h => (by cases h), Slots.frees hn⟩
theorem SD.frees1 {n : Nat} (al : ∀ p ∈ S, Nt H1 p) (ex : ExB L H1 H') (hn : σ.length = n) (im : Im K L (hide H' S) v d) : SD K L ⟨H1, S, none⟩ H' σ (List.replicate n .free) [v] [.im d] :=
  ⟨⟨fun p h => (by cases h), al⟩, rfl, by rw [show hide H1 (none : Option Addr).toList = H1 from hide_nil]; exact ex, fun p h => (by cases h), [], List.nodup_nil, fun p h => (by cases h), .im im (Slots.frees hn)⟩
theorem Slots.seen : ∀ {σ : L2.St} {ds : List Cell} {os : List Addr}, Slots K L T Hh H σ ds os → Slots K L none Hh H' σ (ds.map seen) []
  | _, _, _, .nil => .nil
  | _, _, _, .free r => .free r.seen
  | _, _, _, .im a r => .im a r.seen
  | _, _, _, .own _ _ _ r => .free r.seen
theorem Slots.lower : ∀ {τ : L2.St} {cs ds : List Cell} {os : List Addr}, τ.length = cs.length → Slots K L T Hh H (τ ++ σ) (cs ++ ds) os → ∃ os', (∀ p ∈ os', p ∈ os) ∧ Slots K L T Hh H σ ds os'
  | [], [], _, os, _, s => ⟨os, fun _ h => h, s⟩
  | x :: τ, c :: cs, ds, os, hl, s => by
    cases s with
    | free r => exact Slots.lower (by simpa using hl) r
    | im a r => exact Slots.lower (by simpa using hl) r
    | own a w t r =>
      obtain ⟨o, h1, h2⟩ := Slots.lower (by simpa using hl) r
      exact ⟨o, fun p hp => List.mem_cons_of_mem _ (h1 p hp), h2⟩
/-- what a lambda sees, and what comes back -/
theorem SD.lamb (s : SD K L F H σ ds ts tcs) :
    ∃ S : List Addr, (∀ p ∈ S, Nt H p) ∧ (∀ H', ExB L H H' → SD K L ⟨H', S, none⟩ H' σ (ds.map seen) [] []) ∧
      ∀ H', ExB L H H' → SD K L F H' σ ds ts tcs ∧ (∀ v d, Im K L (hide H' S) v d → SD K L F H' σ ds (v :: ts) (.im d :: tcs)) ∧
        ∀ p h o, ¬ Nt H p → H' p = some h → OAt K L (hide H' (p :: S)) h o → SD K L F H' σ ds (.ref p :: ts) (.own false o :: tcs) := by
  have al := s.alive
  obtain ⟨os, n, hd, sl⟩ := s.sl
  have hal : ∀ p ∈ os ++ F.S, Nt H p := fun q hq => (List.mem_append.mp hq).elim (fun z => (hd q z).2) (al q)
  refine ⟨os ++ F.S, hal, fun H' e => ?_, fun H' e0 => ?_⟩
  · obtain ⟨os', h1, h2⟩ := Slots.lower (by rw [List.length_map]; exact s.tl) sl
    refine ⟨⟨fun p h => (by cases h), fun p hp => e.ex.nt (hal p hp)⟩, rfl, ?_, fun p h => (by cases h), [], List.nodup_nil, fun p h => (by cases h), (h2.ext (Hh' := hide H' (os ++ F.S)) (H' := H) (hide_mono e.ex) (fun _ _ _ h _ => h)).seen⟩
    rw [show hide H' (none : Option Addr).toList = H' from hide_nil]
    exact ⟨Ex.refl _, e.tb⟩
  · obtain ⟨e, t⟩ := e0
    have tin' : ∀ q, F.T = some q → Nt H' q := fun q hq => e.nt (s.tin q hq)
    have hd' : ∀ q ∈ os, (¬ Nt F.H0 q ∨ F.T = some q) ∧ Nt H' q := fun q hq => ⟨(hd q hq).1, e.nt (hd q hq).2⟩
    have y' : Slots K L F.T (hide H' (os ++ F.S)) H' (ts.map some ++ σ) (tcs ++ ds) os := sl.ext (hide_mono e) fun q _ u z => e q u z
    refine ⟨s.grow e t, fun v d a => ⟨s.ok, congrArg (· + 1) s.tl, s.ext.trans e t, tin', os, n, hd', .im a y'⟩, fun p h o hp hp' w => ?_⟩
    obtain ⟨f1, f2, f3⟩ := s.fresh hp
    have np : p ∉ os := fun z => hp (hd p z).2
    refine ⟨s.ok, congrArg (· + 1) s.tl, s.ext.trans e t, tin', p :: os, List.nodup_cons.mpr ⟨np, n⟩, fun q hq => ?_, ?_⟩
    · rcases List.mem_cons.mp hq with z | z
      · subst z
        exact ⟨.inl f1, _, hp', w.nt⟩
      · exact hd' q z
    · refine .own hp' w ⟨fun z => absurd z f2, fun z => by cases z⟩ (sl.ext (fun a u z zn => ?_) fun q _ u z => e q u z)
      have za : a ≠ p := fun z' => by
        subst z'
        exact hp ⟨u, hide_ex _ _ z zn, zn⟩
      have z2 : a ∉ os ++ F.S := fun z' => by
        rw [hide_in z'] at z
        cases z
      refine hide_get (e a u (hide_ex a u z zn) zn) fun z' => ?_
      rcases List.mem_cons.mp (show a ∈ p :: (os ++ F.S) from z') with q | q
      · exact za q
      · exact z2 q
end
section
variable {X : Cx} {L : Kl} {F : Fm} {G : Gm} {cf : CallF} {k W0 : Nat} {pins : List (Addr × Obj)} {σ σZ : L2.St} {H HZ : Hp} {s : Shared} {ds : List Cell} {ts vs : List V} {tcs : List Cell} {Q : VK}
/-- x(), in the def that got the lambda -/
theorem we_act {CXg : CXT} {Eg : XK} {Ng : List Str} {qg : Str} {sg : Scope} {g f c' : Addr} {cdg pm ctv : Value} {params : Arguments} {body : Expr} {scope : Scope} {i : Nat} {a : Str} {pn : List (Addr × Obj)} {xe : Value → Shared → Prop} {W : WX} {E : XK} {p1 p2 : Pos}
    (I : Inv X pins σ H s) (Ls : LamS X.env.scope scope) (hf : s.heap.get? f = some (PySem.W.kla_obj "<lambda>" (X.env.qual ++ "<lambda>") params body scope (cloFrom X.env.cells scope.names []) pm c' ctv)) (hfn : H f = none) (hfr : f ∉ frs X.stack)
    (hbind : bindArgs (PySem.W.kla_fn "<lambda>" (X.env.qual ++ "<lambda>") params body scope (cloFrom X.env.cells scope.names []) pm (.ref c') ctv) ⟨[], []⟩ = pure [])
    (tk : Takes ((cxOf CXg X.prog X.w X.K X.mg X.base Ng qg sg g cdg X.A X.stack s H Eg).tr pn xe) W) (hW : ∀ cls d H', E cls d H' → W cls d σZ H') (hr : Room (k + 1) (X.A.deeper (envOfC qg sg s.heap.objs.size g cdg)))
    (hbody : ∀ s1 : Shared, Room k ((X.A.deeper (envOfC qg sg s.heap.objs.size g cdg)).deeper (lamEnv X scope s1.heap.objs.size f c')) → WE (lamCx X (X.A.deeper (envOfC qg sg s.heap.objs.size g cdg)) (envOfC qg sg s.heap.objs.size g cdg :: X.stack) s1 HZ E scope f c') body σ HZ Q)
    (hN : Ng[i]? = some a) (hv : Vis sg a) (hd : (a == ("__debug__" : Str)) = false) (hcd : (a == ("__classdict__" : Str)) = false) (hs : σZ[i]? = some (some (.ref f))) (hc : HZ c' = some (CodeO c' (X.env.qual ++ "<lambda>"))) :
    WE ((cxOf CXg X.prog X.w X.K X.mg X.base Ng qg sg g cdg X.A X.stack s H Eg).tr pn xe) (.Call (.Name a p1) [] [] p2) σZ HZ Q := by
  intro pinsZ sZ IZ
  refine wpAny_Call_Name_kw (thn ((pe_var (pos := p1) (i := i) hN hv hd hcd).run pinsZ sZ σZ HZ (fun v H1 => v = .ref f ∧ H1 = HZ) IZ ⟨.ref f, hs, rfl, rfl⟩) fun u s1 ⟨v, H1, I1, r1, ev, eH⟩ => ?_)
  subst ev
  rw [eH] at I1
  obtain rfl : u = Value.ref f := r1
  have of1 := I1.base.keep f _ hf hfn hfr (fun z => nomatch (show f ∈ ([] : List Addr) from z))
  refine PySem.W.callWith_F0 ⟨_, _, _, _, of1⟩ ?_
  obtain ⟨⟨oc, vs, t, hoc, hdc, hvc⟩, _, _⟩ := I1.hok c' _ hc
  have rc : codeAny (model X.prog X.w) (X.A.deeper (envOfC qg sg s.heap.objs.size g cdg)) (.call (.ref f) ⟨[], []⟩) (CR (L2.CX X.prog X.w) (envOfC qg sg s.heap.objs.size g cdg :: X.stack) X.prog X.w HZ s1 Q E) s1 := by
    refine PySem.W.kla_callFunE hr.depth of1 rfl Ls.co Ls.gen rfl ⟨c', oc, vs, t, rfl, hoc, hdc, hvc⟩ ?_
    rw [hbind]
    refine wpAny_pure (wpAny_newFunctionEnv (fun y hy => (Ls.own y hy).2) (fun y hy => absurd hy (by simp)) (fun h₁ hns hsb => ⟨I1.nolimit.fresh _ hsb, ?_⟩) Ls.kind)
    show codeAny _ _ (.expr body (lamEnv X scope s1.heap.objs.size f c')) _ _
    have kp : ∀ b o, s1.heap.get? b = some o → h₁.get? b = some o := fun b o e => hsb.extBut b o (Nat.ne_of_lt (Heap.lt_size e)) (Heap.get?_push_of_some _ e)
    have J := lam_start2 (E := E) (f := f) (c' := c') (tk := s1.toks + ([] : List (Str × Value)).length) I Ls I1.env0 hr.hd I1.base hns kp
    refine PySem.W.kla_codeExpr (wpAny_mono (hbody s1 (hr.deeper _) [] _ J) (fun v s' hq => ?_) fun e s' hq => hq)
    obtain ⟨w', H', J', rv, q⟩ := hq
    exact ⟨w', H', J'.os, J'.bare, J'.base, J'.hok, rv, q⟩
  have hx : PassesAt (L2.CX X.prog X.w) ((cxOf CXg X.prog X.w X.K X.mg X.base Ng qg sg g cdg X.A X.stack s H Eg).tr pn xe) σZ E := fun _ _ _ e s' I c => tk e s' (XE.of_call I hW c)
  refine wpAny_call (codeAny_mono rc fun r s' hq => ?_)
  match r, hq with
  | .error e, hq => exact hx pinsZ HZ s1 e s' I1 hq
  | .ok (.ret u), hq => exact I1.after hq
/-- the statement that calls it -/
inductive ActS (a : Str) : Bool → Stmt → Prop
  | expr {p1 p2 p3 : Pos} : ActS a false (.Expr (.Call (.Name a p1) [] [] p2) p3)
  | ret {p1 p2 p3 : Pos} : ActS a true (.Return (some (.Call (.Name a p1) [] [] p2)) p3)
/-- a def that calls what it got -/
structure LDef (X : Cx) (L : Kl) (G : Gm) (cf : CallF) (W : Nat) (f : Nat) (c : LCode) : Prop where
  ex : ∃ (x qual a : Str) (st : Stmt) (Ng : List Str) (act : Stmt) (h₀ : ExceptHandler) (hds : List ExceptHandler) (rest : List Stmt) (pt : Pos), Fun X.K x qual st (L.fa f) (L.fd f) ∧ FnScope Ng [a] (defScope st) ∧ Ng[0]? = some a ∧ Vis (defScope st) a ∧
    (a == ("__debug__" : Str)) = false ∧ (a == ("__classdict__" : Str)) = false ∧ c.ns = Ng.length ∧ L2.Binds X.K (L.fd f) [a] [] ∧ PySem.W.keepIn X.K (.ref (L.fa f)) = true ∧ defBody st = .Try [act] (h₀ :: hds) [] [] pt :: rest ∧ ActS a c.ret act ∧
    ∀ (cdv : Value) (s : Shared) (H1 : Hp) (S : List Addr),
      SndH (cxOf C8.CX0 X.prog X.w X.K X.mg X.base Ng qual (defScope st) (L.fa f) cdv X.A X.stack s H1 C8.E0) L ⟨H1, S, none⟩ (h₀ :: hds) (fun e ds => evH G cf W e c.hds ds) ∧
      ∀ ds, SndB (cxOf C8.CX0 X.prog X.w X.K X.mg X.base Ng qual (defScope st) (L.fa f) cdv X.A X.stack s H1 C8.E0) L ⟨H1, S, none⟩ rest ds (evS G cf W c.rest ds)
/-- the tables of the def that makes lambdas -/
structure TabX (X : Cx) (L : Kl) : Prop where
  ex : ∃ c P : Addr, TabB X.base X.mg c P ∧ X.env.code = .ref c ∧ (P, X.env.qual ++ "<lambda>") ∈ L.tb ∧ ∀ p ∈ L.tb, p.1 = P → p.2 = X.env.qual ++ "<lambda>"
theorem snd_lam {G1 : Gm} {f : Nat} {c : LCode} {x : Str} {params : Arguments} {body : Expr} {scope : Scope} {ce : CE} {p lpos pos : Pos} (hL : L.fl = G.fl) (g : NoG X.A) (hr : Room (k + 4) X.A) (TX : TabX X L) (hlc : G1.lcode f = some c) (LD : LDef X L G1 cf W0 f c) (hg : Gl X x) (hm : X.mg x = some (.ref (L.fa f)))
    (hdb : (x == ("__debug__" : Str)) = false) (Ls : LamS X.env.scope scope) (hdef : defaultsOf params X.env = ([], []))
    (hbind : ∀ (q : Str) (cl : List (Str × Addr)) (pm cv ctv : Value), bindArgs (PySem.W.kla_fn "<lambda>" q params body scope cl pm cv ctv) ⟨[], []⟩ = pure [])
    (hb : ∀ (A : Around) (outer : List Env) (s1 : Shared) (HZ : Hp) (E : XK) (f c' : Addr), NoG (A.deeper (lamEnv X scope s1.heap.objs.size f c')) → Room (k + 2) (A.deeper (lamEnv X scope s1.heap.objs.size f c')) → ∀ F ds, SndE (lamCx X A outer s1 HZ E scope f c') L F body ds (evE G cf ce ds)) :
    SndE X L F (.Call (.Name x p) [.Lambda params body scope lpos] [] pos) ds (lamE (lamK G1 W0 cf f (thk (vv G (evE G cf ce (ds.map seen))))) ds) := by
  intro σ H ts tcs Q s q pins st I
  obtain ⟨S, al, see, go⟩ := s.lamb
  obtain ⟨xg, qual, a, stg, Ng, act, h₀, hds, rest, pt, Fu, Sg, d1, d2, d3, d4, d5, d6, d7, d8, d9, d10⟩ := LD.ex
  obtain ⟨c0, P, TB, hcode, hmT, huT⟩ := TX.ex
  unfold lamK at q
  rw [hlc] at q
  simp only at q
  refine wpAny_Call_Name_kw (ld_glob I hg hm ?_ hdb)
  refine PySem.W.callWith_K (h₀ := X.base) I.ok.mod.kin d7 ?_ (by rfl) (by rfl)
  show wpAny _ _ (spliced ((false, eval (.Lambda params body scope lpos) X.env) :: backTo pos (starEach [] X.env))) _ _ st
  refine Calls.spliced_cons (lam_make2 (T := L.tb) I TB hcode hmT huT s.ext.tb hdef (Ls.has I.ok) fun f0 c' pm' ctv H1 s' I1 eN T1 hf hfn hfr hco => ?_)
  refine Calls.spliced_nil ⟨I1.kIn, ?_⟩
  have ex1 : ExB L H H1 := ⟨eN, T1⟩
  have alS : ∀ p ∈ S, Nt H1 p := fun p hp => ex1.ex.nt (al p hp)
  obtain ⟨oc, od, kV, doc, pm, an, cdv, ct, osl, efd, lk, hcd⟩ := Fu.ex
  have hbs := d6 s' [.ref f0] I1.kIn rfl
  rw [efd] at lk hbs
  have rc : codeAny (model X.prog X.w) X.A (.call (.ref (L.fa f)) ⟨[.ref f0], []⟩) (CR C8.CX0 X.stack X.prog X.w H1 s' Q C8.E0) s' := by
    refine run_ofS (N := Ng) (ps := [a]) (us := [.ref f0]) (vs := [.ref f0]) lk hcd Sg (k := k + 3) hr I1.env0 hbs (.cons rfl .nil) rfl fun hr' => ?_
    refine ⟨_, pb_wb, ?_⟩
    rw [d8]
    obtain ⟨hh, hrest⟩ := d10 cdv s' H1 S
    have hlen : (L2.start Ng [V.ref f0]).length = c.ns := by
      have : 0 < Ng.length := (List.getElem?_eq_some_iff.mp d1).1
      unfold L2.start
      rw [d5]
      simp
      omega
    have hsl : (L2.start Ng [V.ref f0])[0]? = some (some (V.ref f0)) := rfl
    generalize hZ : cxOf C8.CX0 X.prog X.w X.K X.mg X.base Ng qual (defScope stg) (L.fa f) cdv X.A X.stack s' H1 C8.E0 = Z at hh hrest ⊢
    have hZK : Z.K = X.K := by rw [← hZ]; rfl
    -- what follows, for the def
    have back : ∀ {v : V} {H' : Hp} {rv r : RV} {dsz : List Cell} {σz : L2.St}, Has X.K L ⟨H1, S, none⟩ H' σz dsz [] [] v [] [] rv → retR rv dsz = some r → After X L F σ ts tcs Q (lamE (.ok r none) ds) → Q v H' := by
      intro v H' rv r dsz σz hs hr hq
      have exH : ExB L H1 H' := by
        have e : ExB L (hide H1 (none : Option Addr).toList) H' := by
          cases rv with
          | val d => exact SD.ext hs
          | new o => exact SD.ext hs
          | ali i => exact SD.ext hs.2
        rw [show hide H1 (none : Option Addr).toList = H1 from hide_nil] at e
        exact e
      have ra := ret_at (c := ⟨1, c.ns, false, .nil⟩) (bo := none) rfl (fun p h => by cases h) hs hr rfl
      obtain ⟨g1, g2, g3⟩ := go H' ⟨ex1.ex.trans exH.ex, exH.tb⟩
      cases r with
      | val d =>
        have hq' : ∀ v H, SD X.K L F H σ ds (v :: ts) (.im d :: tcs) → Q v H := hq
        exact hq' v H' (g2 v d ra.2)
      | new o =>
        have hq' : ∀ v H, SD X.K L F H σ ds (v :: ts) (.own false o :: tcs) → Q v H := hq
        obtain ⟨p, h, rfl, h1, h2, h3, -⟩ := ra
        exact hq' _ H' (g3 p h o (fun z => h1 (ex1.ex.nt z)) h2 h3)
      | ali i => exact ra.elim
    have qD : AfterS Z L ⟨H1, S, none⟩ [] [] { nx := fun _ H' => Q .non H', rt := Q } (lamS G1 cf W0 c (thk (vv G (evE G cf ce (ds.map seen))))) := by
      match hls : lamS G1 cf W0 c (thk (vv G (evE G cf ce (ds.map seen)))), q with
      | .ok (.nx, dsz), q =>
        intro σz H' sz
        rw [hZK] at sz
        exact back (rv := .val .non) (r := .val .non) (v := .non) (dsz := dsz) (σz := σz) (sz.push fun _ => .non) rfl q
      | .ok (.rt rv, dsz), q =>
        intro v σz H' hs
        rw [hZK] at hs
        cases hr : retR rv dsz with
        | none => simp only [hr] at q; exact q.elim
        | some r =>
          simp only [hr] at q
          exact back hs hr q
      | .ok (.bk, _), q => exact q.elim
      | .ok (.ct, _), q => exact q.elim
      | .er _ _, q => exact q.elim
      | .no, q => exact q.elim
    unfold lamS at qD
    refine wb (pss_cons ps_ws pb_wb) ?_
    have qT : ∀ r0, AfterS Z L ⟨H1, S, none⟩ [] [] { nx := fun _ H' => Q .non H', rt := Q } (thenS r0 fun ds => evS G1 cf W0 c.rest ds) →
        AfterS Z L ⟨H1, S, none⟩ [] [] { nx := fun σ' H' => WB Z rest { nx := fun _ H' => Q .non H', rt := Q } σ' H', rt := Q } r0 := by
      intro r0 q0
      match r0, q0 with
      | .ok (.nx, ds1), q0 => exact fun σ' H' s' => hrest ds1 σ' H' [] [] _ s' q0
      | .ok (.bk, ds1), q0 => exact q0
      | .ok (.ct, ds1), q0 => exact q0
      | .ok (.rt rv, ds1), q0 => exact q0
      | .er _ _, q0 => exact q0
    have q1 := qT _ qD
    clear qT qD back
    obtain ⟨l, okl, w⟩ := hh
    refine ws (ps_tryC (tb := fun W D σ H => ∀ pn xe, Takes (Z.tr pn xe) W → PassesOwn (model Z.prog Z.w) Z.A Z.env xe → WB (Z.tr pn xe) [act] D σ H) (by rw [← hZ]; rfl) (by rw [← hZ]; rfl) takes_any (fun W pn xe tk' po => ⟨fun pins s σ H D I h => h pn xe tk' po pins s I⟩) okl) fun pn xe tk' po => ?_
    subst hZ
    have sY := see H1 ex1
    cases hv : vv G (evE G cf ce (ds.map seen)) with
    | no => rw [hv] at q1; exact q1.elim
    | ok dz =>
      obtain ⟨d, dz⟩ := dz
      rw [hv] at q1
      have fin : ∀ v H', SD X.K L ⟨H1, S, none⟩ H' σ dz [v] [.im d] → ExB L H1 H' ∧ Im X.K L (hide H' S) v d := by
        intro v H' sz
        have e := sz.ext
        rw [show hide (Fm.mk H1 S none).H0 (Fm.mk H1 S none).T.toList = H1 from hide_nil] at e
        obtain ⟨os, n, hd, sl⟩ := sz.sl
        cases sl with
        | im im _ => exact ⟨e, im.ext (hide_sub fun q hq => List.mem_append_right _ hq)⟩
      generalize hcr : c.ret = cr at d9 q1
      cases d9 with
      | expr =>
        refine wb (pss_one (ps_expr pe_we rfl)) ?_
        refine we_act (k := k + 2) (E := fun _ _ _ => False) I1 Ls hf hfn hfr (hbind _ _ _ _ _) tk' (fun _ _ _ h => h.elim) hr' (fun s1 hr2 => ?_) d1 d2 d3 d4 hsl hco
        refine (hb (X.A.deeper (envOfC qual (defScope stg) s'.heap.objs.size (L.fa f) cdv)) _ s1 H1 _ f0 c' g hr2 ⟨H1, S, none⟩ (ds.map seen)).v hL sY ?_
        rw [hv]
        intro v H' sz
        obtain ⟨e, im⟩ := fin v H' sz
        exact q1 _ H' (SD.frees alS e hlen)
      | ret =>
        refine wb (pss_one (ps_ret pe_we)) ?_
        refine we_act (k := k + 2) (E := fun _ _ _ => False) I1 Ls hf hfn hfr (hbind _ _ _ _ _) tk' (fun _ _ _ h => h.elim) hr' (fun s1 hr2 => ?_) d1 d2 d3 d4 hsl hco
        refine (hb (X.A.deeper (envOfC qual (defScope stg) s'.heap.objs.size (L.fa f) cdv)) _ s1 H1 _ f0 c' g hr2 ⟨H1, S, none⟩ (ds.map seen)).v hL sY ?_
        rw [hv]
        intro v H' sz
        obtain ⟨e, im⟩ := fin v H' sz
        exact q1 v _ H' (SD.frees1 alS e hlen im)
    | er r dz =>
      rw [hv] at q1
      have q2 : AfterS _ L ⟨H1, S, none⟩ [] [] _ (evH G1 cf W0 r c.hds (List.replicate c.ns .free)) := q1
      have act0 : ∀ (p1 p2 : Pos) (Q' : VK), WE ((cxOf C8.CX0 X.prog X.w X.K X.mg X.base Ng qual (defScope stg) (L.fa f) cdv X.A X.stack s' H1 C8.E0).tr pn xe) (.Call (.Name a p1) [] [] p2) (L2.start Ng [V.ref f0]) H1 Q' := by
        intro p1 p2 Q'
        refine we_act (k := k + 2) (E := fun cls dd H' => ExB L H1 H' ∧ ErIs X.K L (hide H' S) cls dd r) I1 Ls hf hfn hfr (hbind _ _ _ _ _) tk' (fun cls dd H' h => ?_) hr' (fun s1 hr2 => ?_) d1 d2 d3 d4 hsl hco
        · exact w r cls dd _ H' (List.replicate c.ns .free) [] [] _ (SD.frees alS h.1 hlen) h.2 q2
        · refine (hb (X.A.deeper (envOfC qual (defScope stg) s'.heap.objs.size (L.fa f) cdv)) _ s1 H1 _ f0 c' g hr2 ⟨H1, S, none⟩ (ds.map seen)).v hL sY ?_
          rw [hv]
          refine ⟨fun cls dd _ H' => ExB L H1 H' ∧ ErIs X.K L (hide H' S) cls dd r, takes_of rfl rfl rfl rfl, fun cls dd H' sz he => ⟨?_, he⟩⟩
          have e := sz.ext
          rw [show hide (Fm.mk H1 S none).H0 (Fm.mk H1 S none).T.toList = H1 from hide_nil] at e
          exact e
      generalize hcr : c.ret = cr at d9
      cases d9 with
      | expr => exact wb (pss_one (ps_expr pe_we rfl)) (act0 _ _ _)
      | ret => exact wb (pss_one (ps_ret pe_we)) (act0 _ _ _)
  refine wpAny_call (codeAny_mono rc fun r s2 hq => ?_)
  match r, hq with
  | .error e, hq => exact (show False from hq).elim
  | .ok (.ret u), hq => exact I1.after hq
end
end Ev
/-! X10: what is asked of a class of errors with its own __init__, as a test. -/
namespace Ev
open PySem PySem.Spec PyProof.Rows L2 Sg PySem.XI
def refsOf : List Value → List Addr × List Value
  | .ref a :: r => (a :: (refsOf r).1, (refsOf r).2)
  | l => ([], l)
theorem refsOf_own : ∀ l : List Value, own (refsOf l).1 (refsOf l).2 = l
  | [] => rfl
  | v :: r => by
    cases v with
    | ref a =>
      show Value.ref a :: own (refsOf r).1 (refsOf r).2 = _
      rw [refsOf_own r]
    | _ => rfl
def xclsB (K : PySem.W.Frag) (C : Addr) (tl : List Value) (newId : String) : Bool := match K.lookup C with
  | some ⟨.type "type", _, .cls cd, sl⟩ => (match cd.mro, sl.toList with
    | .ref C' :: bm, [_, _, _, _, some (.builtin n), _] => C' == C && n == newId && !cd.hasDel && cd.hasDict && decide ((refsOf bm).2 = tl)
    | _, _ => false)
  | _ => false
theorem xcls_of {K : PySem.W.Frag} {C : Addr} {B nw ini : String} {tl : List Value} (b : XBase B nw ini tl) (q : xclsB K C tl nw = true) (sa : PySem.W.findIn K (.ref C) "__setattr__" = some (some (.builtin "object.__setattr__"))) (ex : PySem.W.subIn K (.ref C) (.type "BaseException") = some true)
    (ty : PySem.W.typeIn K (.ref C) = some (.type "type")) (kp : PySem.W.keepIn K (.ref C) = true) : XCls K C B nw ini tl := by
  refine ⟨b, ?_, sa, ex, ty, kp⟩
  unfold xclsB at q
  split at q
  · rename_i dd cd sl ho
    split at q
    · rename_i C' bm k0 k1 k2 k3 n k5 hm hs
      simp only [Bool.and_eq_true, beq_iff_eq, Bool.not_eq_true', decide_eq_true_eq] at q
      obtain ⟨⟨⟨⟨rfl, rfl⟩, hdel⟩, hdct⟩, ht⟩ := q
      obtain ⟨nm, bs, mro, ns, qn, hd, sn, sub, ab, col, del⟩ := cd
      dsimp only at hm hdel hdct
      subst hm
      subst hdel
      subst hdct
      obtain ⟨sl⟩ := sl
      dsimp only at hs
      subst hs
      refine ⟨nm, qn, ns, bs, (refsOf bm).1, sn, sub, ab, col, dd, k0, k1, k2, k3, k5, ?_⟩
      rw [ho, ← ht, refsOf_own bm]
    · cases q
  · cases q
theorem xb_IndexError : XBase "IndexError" "IndexError.__new__" "IndexError.__init__" [.type "IndexError", .type "LookupError", .type "Exception", .type "BaseException", .type "object"] := ⟨PySem.F.excBase_IndexError, fun _ => rfl, by decide +kernel⟩
end Ev
/-! E17: calls that hand over what a slot has; is None as a test. -/
namespace Ev
open PySem PySem.Spec PyProof.Rows L2 Sg
section
variable {X : Cx} {L : Kl} {F : Fm} {G : Gm} {cf : CallF} {k : Nat} {ds : List Cell} {σ : L2.St} {H : Hp} {ts vs : List V} {tcs : List Cell} {dvs l : List Dt} {Q : VK} {a b c e : Expr} {es : List Expr} {pos p : Pos} {ca cb cc ce cs : CE} {x : Str} {i f : Nat}
theorem ownA_cases (ds : List Cell) (i : Nat) : (∃ b o, ownA i ds = .ok () ∧ ds[i]? = some (.own b o)) ∨ ownA i ds = .no := by
  unfold ownA
  split
  · exact .inl ⟨_, _, rfl, ‹_›⟩
  · exact .inr rfl
theorem spCB_of (hl : vs.length = dvs.length) (s : SD X.K L F H σ ds (vs ++ ts) (dvs.map Cell.im ++ tcs)) (q : After X L F σ ts tcs Q (goCallB cf f i dvs ds)) :
    ∃ (p : Addr) (W : WX), σ[i]? = some (some (.ref p)) ∧ Takes X W ∧ spC X.K L (cf f) (.ref p :: vs) H Q (L2.WE W σ) := by
  unfold goCallB at q
  cases ei : ds[i]? with
  | none => rw [ei] at q; exact q.elim
  | some c =>
    rw [ei] at q
    cases c with
    | free => exact q.elim
    | im d => exact q.elim
    | own b o =>
      obtain ⟨S, p, e1, al, bo, im, go⟩ := s.callB hl ei
      have mk : ∀ W : WX, (match cf f (some o) dvs with
        | .no => False
        | .ok rv bo' => ∀ v H', ExB L (hide H [p]) H' → RetAt X.K L S (some p) bo' H H' v rv → Q v H'
        | .er r bo' => ∀ cls d H', ExB L (hide H [p]) H' → BorAt X.K L S H' (some p) bo' → ErIs X.K L (hide H' S) cls d r → L2.WE W σ cls d H') → spC X.K L (cf f) (.ref p :: vs) H Q (L2.WE W σ) :=
        fun W h => ⟨S, some p, vs, some o, dvs, rfl, al, s.ext.tb, bo, im, h⟩
      refine ⟨p, ?_⟩
      have q' : After X L F σ ts tcs Q (match cf f (some o) dvs with
        | .ok rv (some o') => .ok (rv, ds.set i (.own b o'))
        | .er r (some o') => .er r (ds.set i (.own b o'))
        | _ => .no) := q
      cases e : cf f (some o) dvs with
      | no => rw [e] at q'; exact q'.elim
      | ok rv bo' =>
        cases bo' with
        | none => rw [e] at q'; exact q'.elim
        | some o' =>
          rw [e] at q' mk
          refine ⟨_, e1, takes_never X, mk _ fun v H' ex r => ?_⟩
          obtain ⟨g1, g2⟩ := go H' o' ex
          cases rv with
          | val d => exact q' v H' ((g1 r.1).2.2 v d r.2)
          | new o2 =>
            obtain ⟨p', h, rfl, h1, h2, h3, h4⟩ := r
            exact q' _ H' (g2 p' h o2 h1 h2 h3 h4)
          | ali j => exact r.elim
      | er r bo' =>
        cases bo' with
        | none => rw [e] at q'; exact q'.elim
        | some o' =>
          rw [e] at q' mk
          obtain ⟨W, tk, give⟩ := q'
          refine ⟨W, e1, tk, mk W fun cls d H' ex hb hr => ?_⟩
          obtain ⟨g1, g2⟩ := go H' o' ex
          obtain ⟨s1, e2, -⟩ := g1 hb
          exact give cls d H' s1 (hr.ext e2)
/-- f(x, ..), x's own object handed over -/
theorem snd_callB {p2 : Pos} {xf : Str} (C : Ctx X L G cf k) (hf : (G.code f).isSome = true) (hg : Gl X xf) (hm : X.mg xf = some (.ref (L.fa f))) (hdb : (xf == ("__debug__" : Str)) = false) (hv : VrN X x i) (h2 : es.all (fun e => !star1 e) = true)
    (ha : ∀ ds, SndA X L F es ds (evA G cf cs ds)) : SndE X L F (.Call (.Name xf p) (.Name x p2 :: es) [] pos) ds (evE G cf (.callB f i cs) ds) := by
  intro σ H ts tcs Q s q
  obtain ⟨c, hc⟩ := Option.isSome_iff_exists.mp hf
  refine we_call hg hm (C.kp f c hc) hdb rfl h2 ?_
  have q0 : After X L F σ ts tcs Q ((ownA i ds).bind fun _ => (evA G cf cs ds).bind fun x => goCallB cf f i x.1 x.2) := q
  rcases ownA_cases ds i with ⟨b, o, e1, e2⟩ | e1
  · rw [e1] at q0
    obtain ⟨p1, h1, a1, -⟩ := SD.ownS (vs := []) (dvs := []) rfl s e2
    refine wa (pa_cons hv.pe pa_wa rfl) ⟨.ref p1, a1, ha ds σ H ts tcs _ s (AfterA.of q0 id (by first | exact fun _ _ h => h | exact fun _ _ h => Tk.up h) fun l ds1 q1 vs H1 hl s1 => ?_)⟩
    obtain ⟨p', W, a2, tk, sp⟩ := spCB_of hl s1 q1
    obtain rfl : p1 = p' := by
      have := a1.symm.trans a2
      simpa using this
    exact fun pins st us I r => runAtS (E := L2.WE W) (C.fn f c hc) C.g (C.hr.mono (by omega)) I.env0 (C.bd f c hc) (passAt tk σ) I r sp
  · rw [e1] at q0
    exact q0.elim
/-! a fresh object handed over -/
theorem SD.toS {K : PySem.W.Frag} {as : List V} {cas : List Cell} (hl : as.length = cas.length) (s : SD K L F H σ ds (as ++ ts) (cas ++ tcs)) : SD K L F H (ts.map some ++ σ) (tcs ++ ds) as cas := by
  obtain ⟨os, n, hd, sl⟩ := s.sl
  exact ⟨s.ok, hl, s.ext, s.tin, os, n, hd, by rw [assocA, List.append_assoc] at sl; exact sl⟩
theorem SD.ofS {K : PySem.W.Frag} {as : List V} {cas : List Cell} (ht : ts.length = tcs.length) (s : SD K L F H (ts.map some ++ σ) (tcs ++ ds) as cas) : SD K L F H σ ds (as ++ ts) (cas ++ tcs) := by
  obtain ⟨os, n, hd, sl⟩ := s.sl
  exact ⟨s.ok, by rw [List.length_append, List.length_append, s.tl, ht], s.ext, s.tin, os, n, hd, by rw [assocA, List.append_assoc]; exact sl⟩
theorem spCT_of {o : OD} {v : V} (hl : vs.length = dvs.length) (s : SD X.K L F H σ ds (vs ++ v :: ts) (dvs.map Cell.im ++ .own false o :: tcs)) (q : After X L F σ ts tcs Q (goCallT cf f o dvs ds)) :
    ∃ (W : WX), Takes X W ∧ spC X.K L (cf f) (v :: vs) H Q (L2.WE W σ) := by
  have htl : (v :: ts).length = (Cell.own false o :: tcs).length := by
    have := s.tl
    rw [List.length_append, List.length_append, List.length_map, hl] at this
    omega
  have ht0 : ts.length = tcs.length := by simpa using htl
  have s' := SD.toS (by rw [List.length_map]; exact hl) s
  have s2 : SD X.K L F H ((v :: ts).map some ++ σ) ((.own false o :: tcs) ++ ds) (vs ++ []) (dvs.map Cell.im ++ []) := by simpa using s'
  obtain ⟨S, p, e1, al, bo, im, go⟩ := SD.callB (i := 0) (b := false) (o := o) hl s2 rfl
  have hv : v = .ref p := by simpa using e1
  subst hv
  have mk : ∀ W : WX, (match cf f (some o) dvs with
    | .no => False
    | .ok rv bo' => ∀ v H', ExB L (hide H [p]) H' → RetAt X.K L S (some p) bo' H H' v rv → Q v H'
    | .er r bo' => ∀ cls d H', ExB L (hide H [p]) H' → BorAt X.K L S H' (some p) bo' → ErIs X.K L (hide H' S) cls d r → L2.WE W σ cls d H') → spC X.K L (cf f) (.ref p :: vs) H Q (L2.WE W σ) :=
    fun W h => ⟨S, some p, vs, some o, dvs, rfl, al, s.ext.tb, bo, im, h⟩
  unfold goCallT at q
  have q' : After X L F σ ts tcs Q (match cf f (some o) dvs with
    | .ok rv (some _) => .ok (rv, ds)
    | .er r (some _) => .er r ds
    | _ => .no) := q
  have back : ∀ {H' : Hp} {as : List V} {cas : List Cell} {o' : OD}, SD X.K L F H' ((V.ref p :: ts).map some ++ σ) (((.own false o :: tcs) ++ ds).set 0 (.own false o')) as cas → SD X.K L F H' σ ds (as ++ (V.ref p :: ts)) (cas ++ (.own false o' :: tcs)) := fun z =>
    SD.ofS (ts := V.ref p :: ts) (tcs := .own false _ :: tcs) (by simpa using ht0) z
  cases e : cf f (some o) dvs with
  | no => rw [e] at q'; exact q'.elim
  | ok rv bo' =>
    cases bo' with
    | none => rw [e] at q'; exact q'.elim
    | some o' =>
      rw [e] at q' mk
      refine ⟨_, takes_never X, mk _ fun v H' ex r => ?_⟩
      obtain ⟨g1, g2⟩ := go H' o' ex
      cases rv with
      | val d =>
        have z := back ((g1 r.1).2.2 v d r.2)
        exact q' v H' (SD.dropMid (kv := [.ref p]) (kc := [.own false o']) rfl z)
      | new o2 =>
        obtain ⟨p', h, rfl, h1, h2, h3, h4⟩ := r
        have z := back (g2 p' h o2 h1 h2 h3 h4)
        exact q' _ H' (SD.dropMid (kv := [.ref p]) (kc := [.own false o']) rfl z)
      | ali j => exact r.elim
  | er r bo' =>
    cases bo' with
    | none => rw [e] at q'; exact q'.elim
    | some o' =>
      rw [e] at q' mk
      obtain ⟨W, tk, give⟩ := q'
      refine ⟨W, tk, mk W fun cls d H' ex hb hr => ?_⟩
      obtain ⟨g1, g2⟩ := go H' o' ex
      obtain ⟨s1, e2, -⟩ := g1 hb
      have z := back s1
      exact give cls d H' (SD.popN (vs := [.ref p]) (cs := [.own false o']) rfl z) (hr.ext e2)
theorem snd_callT {xf : Str} (C : Ctx X L G cf k) (hf : (G.code f).isSome = true) (hg : Gl X xf) (hm : X.mg xf = some (.ref (L.fa f))) (hdb : (xf == ("__debug__" : Str)) = false) (h1 : star1 e = false) (h2 : es.all (fun e => !star1 e) = true)
    (he : ∀ ds, SndE X L F e ds (evE G cf ce ds)) (ha : ∀ ds, SndA X L F es ds (evA G cf cs ds)) : SndE X L F (.Call (.Name xf p) (e :: es) [] pos) ds (evE G cf (.callT f ce cs) ds) := by
  intro σ H ts tcs Q s q
  obtain ⟨c, hc⟩ := Option.isSome_iff_exists.mp hf
  refine we_call hg hm (C.kp f c hc) hdb h1 h2 ?_
  have q0 : After X L F σ ts tcs Q ((evE G cf ce ds).bind fun y => (asNewO y).bind fun x => (evA G cf cs x.2).bind fun l => goCallT cf f x.1 l.1 l.2) := by
    have q1 : After X L F σ ts tcs Q (((evE G cf ce ds).bind asNewO).bind fun x => (evA G cf cs x.2).bind fun l => goCallT cf f x.1 l.1 l.2) := q
    rw [bind_assoc] at q1
    exact q1
  refine wa (pa_cons pe_we pa_wa (starEach_cons h1)) (he ds σ H ts tcs _ s (After.of q0 id (by first | exact fun _ _ h => h | exact fun _ _ h => Tk.up h) fun rv ds1 q1 v H1 s1 => ?_))
  cases rv with
  | val d => exact q1.elim
  | ali j => exact q1.elim
  | new o =>
    have q2 : After X L F σ ts tcs Q ((evA G cf cs ds1).bind fun l => goCallT cf f o l.1 l.2) := q1
    have s1' : SD X.K L F H1 σ ds1 (v :: ts) (.own false o :: tcs) := s1
    refine ha ds1 σ H1 _ _ _ s1' (AfterA.of q2 id (fun _ _ h => Tk.up h) fun l ds2 q3 vs H2 hl s2 => ?_)
    obtain ⟨W, tk, sp⟩ := spCT_of hl s2 q3
    exact fun pins st us I r => runAtS (E := L2.WE W) (C.fn f c hc) C.g (C.hr.mono (by omega)) I.env0 (C.bd f c hc) (passAt tk σ) I r sp
theorem tt_isn {y : Bool} : tt G (evE G cf (.isn y ca) ds) = (vv G (evE G cf ca ds)).bind fun x => (opt (isnD y x.1) x.2).bind fun r => (pp G r.1 r.2).bind fun z => opt (trD z.1) z.2 := by
  show Res.bind (Res.bind (vv G (evE G cf ca ds)) _) _ = _
  rw [bind_assoc]
theorem isn_tt {y : Bool} {d : Dt} {v : V} {Q : Bool → Hp → Prop} (s : SD X.K L F H σ ds (v :: ts) (.im d :: tcs)) (q : After0 X L F σ ts tcs Q ((opt (isnD y d) ds).bind fun r => (pp G r.1 r.2).bind fun z => opt (trD z.1) z.2)) : Q (if decide (v = .non) then y else !y) H := by
  have im := s.top
  have s0 := s.pop
  cases im with
  | non => exact q _ s0
  | con n => exact q.elim
  | _ => exact q _ s0
theorem snt_isN {j'} {px} (hL : L.fl = G.fl) (ha : ∀ ds, SndE X L F a ds (evE G cf ca ds)) : SndT X L F (.Compare a [.Is] [.Constant .none j' px] pos) ds (tt G (evE G cf (.isn true ca) ds)) := by
  intro σ H ts tcs Q s q
  rw [tt_isn] at q
  refine wt (pt_cmp (pc_isN pe_we)) ((ha ds).v hL s (AfterV.of q id (by first | exact fun _ _ h => h | exact fun _ _ h => Tk.up h) fun d ds1 q v H1 s1 => ⟨_, rfl, ?_⟩))
  have := isn_tt s1 q
  cases h : decide (v = V.non) <;> rw [h] at this <;> exact this
theorem snt_isNN {j'} {px} (hL : L.fl = G.fl) (ha : ∀ ds, SndE X L F a ds (evE G cf ca ds)) : SndT X L F (.Compare a [.IsNot] [.Constant .none j' px] pos) ds (tt G (evE G cf (.isn false ca) ds)) := by
  intro σ H ts tcs Q s q
  rw [tt_isn] at q
  refine wt (pt_cmp (pc_notN pe_we)) ((ha ds).v hL s (AfterV.of q id (by first | exact fun _ _ h => h | exact fun _ _ h => Tk.up h) fun d ds1 q v H1 s1 => ⟨_, rfl, ?_⟩))
  have := isn_tt s1 q
  cases h : decide (v = V.non) <;> rw [h] at this <;> exact this
/-! zip -/
theorem pairs_get {l m : List Dt} {i : Nat} {d : Dt} (h : (pairs l m)[i]? = some d) : ∃ a b, l[i]? = some a ∧ m[i]? = some b ∧ d = .tup [a, b] := by
  unfold pairs at h
  rw [List.getElem?_zipWith] at h
  cases ha : l[i]? with
  | none => rw [ha] at h; simp at h
  | some a =>
    cases hb : m[i]? with
    | none => rw [ha, hb] at h; simp at h
    | some b =>
      rw [ha, hb] at h
      exact ⟨a, b, rfl, rfl, by simpa using h.symm⟩
theorem pairs_len {l m : List Dt} {i : Nat} (h : (pairs l m).length ≤ i) : l.length ≤ i ∨ m.length ≤ i := by
  unfold pairs at h
  rw [List.length_zipWith] at h
  omega
theorem signs_get {x : List Nat} {i : Nat} {d : Dt} (h : (signs x)[i]? = some d) : ∃ c, (mkS x).cps[i]? = some c ∧ d = .str [c] := by
  unfold signs at h
  rw [List.getElem?_map] at h
  cases hc : x[i]? with
  | none => rw [hc] at h; cases h
  | some c =>
    rw [hc] at h
    exact ⟨c, by simpa [mkS] using hc, (Option.some.inj h).symm⟩
theorem asc_of {x : List Nat} (h : ascL x = true) : (mkS x).cps.all (· < 128) = true := by
  have := ascL_mem h
  rw [Array.all_eq_true_iff_forall_mem]
  intro c hc
  exact decide_eq_true (this c (by simpa using hc))
theorem gives_zs {K : PySem.W.Frag} {x y : List Nat} : Gives K L (Zs.Izs (mkS x) (mkS y)) [] [] (pairs (signs x) (signs y)) := by
  intro F as cas ts tcs i σ ds H hl s
  refine ⟨fun hi => ?_, fun d hd => ?_⟩
  · show (mkS x).cps.size ≤ i ∨ (mkS y).cps.size ≤ i
    simpa [signs, mkS] using pairs_len hi
  · obtain ⟨a, b, ha, hb, rfl⟩ := pairs_get hd
    obtain ⟨c, hc, rfl⟩ := signs_get ha
    obtain ⟨c2, hc2, rfl⟩ := signs_get hb
    refine ⟨⟨(Array.getElem?_eq_some_iff.mp hc).1, (Array.getElem?_eq_some_iff.mp hc2).1⟩, fun v H' yy => ?_⟩
    obtain ⟨T, e, e2, rfl, hT, rfl, h1, h2⟩ := yy
    rw [hc] at h1
    rw [hc2] at h2
    cases h1
    cases h2
    exact SD.newIm (vs := []) (dvs := []) rfl s hT fun Hh hh _ => .tup (SqT.of hh) (.cons (.str _) (.cons (.str _) .nil))
/-- zip of two texts -/
theorem sni_zip {elts : List Expr} {kt : Nat} {tp : Pos} (hL : L.fl = G.fl) (hg : Gl X "zip") (hm : ∀ x ∈ bnames, X.mg x = none) (h1 : star1 a = false) (h2 : star1 b = false) (ha : ∀ ds, SndE X L F a ds (evE G cf ca ds)) (hb : ∀ ds, SndE X L F b ds (evE G cf cb ds)) :
    SndI X L F (.Tuple elts kt tp) (.Call (.Name "zip" p) [a, b] [] pos) ds ((vv G (evE G cf (.zip ca cb) ds)).bind asItems) := by
  intro σ H ts tcs R s q
  have q' : AfterI X L F σ ts tcs R ((vv G (evE G cf ca ds)).bind fun x => (vv G (evE G cf cb x.2)).bind fun y => match zipD x.1 y.1 with | some l => .ok (l, y.2) | none => .no) := by
    have e' : (vv G (evE G cf (.zip ca cb) ds)).bind asItems = (vv G (evE G cf ca ds)).bind fun x => (vv G (evE G cf cb x.2)).bind fun y => match zipD x.1 y.1 with | some l => .ok (l, y.2) | none => .no := by
      show Res.bind (Res.bind (Res.bind (vv G (evE G cf ca ds)) _) _) _ = _
      rw [bind_assoc, bind_assoc]
      congr 1
      funext x
      refine (bind_assoc _ _ _).trans ?_
      congr 1
      funext y
      cases zipD x.1 y.1 <;> rfl
    rw [← e']
    exact q
  have hz := hm "zip" (by decide +kernel)
  have hst : starEach [a, b] X.env = (false, eval a X.env) :: starEach [b] X.env := starEach_cons h1
  have hpl : (backTo pos (starEach [b] X.env)).any (·.1) = false := plainS (by simp [h2])
  have hA : PA X [a, b] _ := pa_cons pe_we (pa_cons pe_we pa_nil (starEach_cons h2)) (starEach_cons h1)
  -- which rule: by what the two come to
  cases hv : vv G (evE G cf ca ds) with
  | no => rw [hv] at q'; exact q'.elim
  | er r ds' =>
    rw [hv] at q'
    exact wi (Zs.pi_zs hg hz hA hst hpl) ((ha ds).v hL s (by rw [hv]; exact q'))
  | ok x =>
    obtain ⟨d1, ds1⟩ := x
    rw [hv] at q'
    have q2 : AfterI X L F σ ts tcs R ((vv G (evE G cf cb ds1)).bind fun y => match zipD d1 y.1 with | some l => .ok (l, y.2) | none => .no) := q'
    refine wi (Zs.pi_zs hg hz hA hst hpl) ((ha ds).v hL s ?_)
    rw [hv]
    intro v1 H1 s1
    refine (hb ds1).v hL s1 (AfterV.of q2 id (fun _ _ h => Tk.up h) fun d2 ds2 q3 v2 H2 s2 => ?_)
    have q3 : AfterI X L F σ ts tcs R (match zipD d1 d2 with | some l => .ok (l, ds2) | none => .no) := q3
    cases d1 with
    | str x =>
      cases d2 with
      | str y =>
        cases hasc : ascL x && ascL y with
        | false =>
          have : zipD (.str x) (.str y) = none := by show (if (ascL x && ascL y) = true then _ else none) = _; rw [hasc]; rfl
          rw [this] at q3
          exact q3.elim
        | true =>
          have : zipD (.str x) (.str y) = some (pairs (signs x) (signs y)) := by show (if (ascL x && ascL y) = true then _ else none) = _; rw [hasc]; rfl
          rw [this] at q3
          obtain ⟨a1, a2⟩ := Bool.and_eq_true _ _ |>.mp hasc
          have e1 := im_str s2.pop.top
          have e2 := im_str s2.top
          subst e1
          subst e2
          exact ⟨mkS x, mkS y, rfl, asc_of a1, asc_of a2, q3 _ [] [] H2 rfl s2.pop.pop gives_zs⟩
      | _ => exact q3.elim
    | _ => cases d2 <;> exact q3.elim
end
end Ev
/-! E18: from the program's text to the core: expressions. -/
namespace Ev
open PySem PySem.Spec PyProof.Rows L2 Sg
/-- what a name of the module is -/
inductive GV where
  | fn (f : Nat)
  | fnB (f : Nat)
  /-- a def that calls what it gets -/
  | fnL (f : Nat)
  | cls (c : Nat)
  | exo (n : Nat)
  | exb (n : Nat)
  | exi (n : Nat) (fs : List Nat)
  | dat (d : Dt)
  | other
structure Cn where
  N : List Str
  sc : Scope
  fc : Str → Bool
  cm : Bool
  /-- lambdas may be made -/
  lm : Bool
  gl : Str → GV
  fd : Str → Option Nat
def GlOk (X : Cx) (L : Kl) (G : Gm) (x : Str) : GV → Prop
  | .fn f => X.mg x = some (.ref (L.fa f)) ∧ (G.code f).isSome = true
  | .fnB f => X.mg x = some (.ref (L.fa f)) ∧ (G.code f).isSome = true
  | .fnL f => X.mg x = some (.ref (L.fa f))
  | .cls c => X.mg x = some (.ref (L.ad c))
  | .exo n => KExc X L x n ∧ (∀ d r, G.mkE n [d] = some r → r = ⟨n, none⟩) ∧ G.eini n = none
  | .exb n => X.mg x = none ∧ KExb L x n ∧ (∀ d r, G.mkE n [d] = some r → r = ⟨n, none⟩) ∧ G.eini n = none
  | .exi n fs => X.mg x = some (L.xv n) ∧ KExcI X L G x n ∧ KXf X L n fs
  | .dat d => ∃ v u, X.mg x = some u ∧ RelV v u ∧ ∀ Hh, Im X.K L Hh v d
  | .other => True
structure CxOk (X : Cx) (L : Kl) (G : Gm) (cf : CallF) (k : Nat) (Γ : Cn) : Prop where
  c : Γ.cm = true → Ctx X L G cf k ∧ X.calm = true
  hL : L.fl = G.fl
  nm : L.nm = G.nm
  nd : X.N.Nodup
  N : X.N = Γ.N
  sc : X.env.scope = Γ.sc
  fc : ∀ x, Γ.fc x = true → X.fn x = true
  gl : ∀ x, GlOk X L G x (Γ.gl x)
  fd : ∀ x n, Γ.fd x = some n → G.nm n = x
  lm : Γ.lm = true → Room (k + 4) X.A ∧ TabX X L ∧ ∃ (G1 : Gm) (W : Nat), (∀ cf, G.lamF cf = lamK G1 W cf) ∧ ∀ f c, G1.lcode f = some c → LDef X L G1 cf W f c
/-- what is asked of the own operators -/
def HopOk (L : Kl) (G : Gm) (cf : CallF) (k : Nat) : Prop := ∀ X F, Ctx X L G cf k → OpOk X L F G cf ∧ EqOk X L F G cf
/-! names -/
def isGl (Γ : Cn) (x : Str) : Bool := match Γ.sc.names.lookup x with
  | some .globalImplicit => !(x == ("__debug__" : Str))
  | _ => false
def slot (Γ : Cn) (x : Str) : Option Nat := match Γ.N.findIdx? (· == x) with
  | some i => if Γ.N[i]? = some x then some i else none
  | none => none
def isVis : Option NameKind → Bool
  | some .local => true
  | some .cell => true
  | some .free => true
  | _ => false
def vrN (Γ : Cn) (x : Str) : Option Nat := if isVis (Γ.sc.names.lookup x) && !(x == ("__debug__" : Str)) && !(x == ("__classdict__" : Str)) then slot Γ x else none
def tgN (Γ : Cn) (x : Str) : Option Nat := match Γ.sc.names.lookup x with
  | some .local => slot Γ x
  | some .cell => if Γ.fc x then slot Γ x else none
  | _ => none
section
variable {X : Cx} {L : Kl} {G : Gm} {cf : CallF} {k : Nat} {Γ : Cn} {x : Str} {i : Nat}
theorem CxOk.glb (O : CxOk X L G cf k Γ) (h : isGl Γ x = true) : Gl X x ∧ (x == ("__debug__" : Str)) = false := by
  unfold isGl at h
  split at h
  · rename_i e
    refine ⟨?_, by simpa using h⟩
    show X.env.scope.names.lookup x = _
    rw [O.sc, e]
  · cases h
theorem slot_some (h : slot Γ x = some i) : Γ.N[i]? = some x := by
  unfold slot at h
  split at h
  · split at h
    · rename_i h2
      cases h
      exact h2
    · cases h
  · cases h
theorem CxOk.vr (O : CxOk X L G cf k Γ) (h : vrN Γ x = some i) : VrN X x i := by
  unfold vrN at h
  split at h
  · rename_i hh
    simp only [Bool.and_eq_true, Bool.not_eq_true'] at hh
    obtain ⟨⟨h1, h2⟩, h3⟩ := hh
    refine ⟨by rw [O.N]; exact slot_some h, ?_, h2, h3⟩
    unfold Vis
    rw [O.sc]
    match hk : Γ.sc.names.lookup x, h1 with
    | some .local, _ => exact .inl rfl
    | some .cell, _ => exact .inr (.inl rfl)
    | some .free, _ => exact .inr (.inr rfl)
  · cases h
theorem CxOk.tg (O : CxOk X L G cf k Γ) (h : tgN Γ x = some i) : TgN X x i := by
  unfold tgN at h
  split at h
  · rename_i e
    have e' : X.env.scope.names.lookup x = some .local := by rw [O.sc]; exact e
    exact ⟨by rw [O.N]; exact slot_some h, .inl e', .inr e'⟩
  · rename_i e
    have e' : X.env.scope.names.lookup x = some .cell := by rw [O.sc]; exact e
    split at h
    · rename_i hf
      exact ⟨by rw [O.N]; exact slot_some h, .inr e', .inl (O.fc x hf)⟩
    · cases h
  · cases h
end
/-! the step -/
structure Rc where
  e : Cn → Expr → CE
  t : Cn → Expr → CE
def RcOk (L : Kl) (G : Gm) (cf : CallF) (k : Nat) (R : Rc) : Prop := ∀ X Γ, CxOk X L G cf k Γ → ∀ F e ds, SndE X L F e ds (evE G cf (R.e Γ e) ds) ∧ SndT X L F e ds (tt G (evE G cf (R.t Γ e) ds))
theorem snd_bad {X : Cx} {L : Kl} {F : Fm} {e : Expr} {ds : List Cell} : SndE X L F e ds .no := fun _ _ _ _ _ _ q => q.elim
theorem snt_bad {X : Cx} {L : Kl} {F : Fm} {e : Expr} {ds : List Cell} : SndT X L F e ds .no := fun _ _ _ _ _ _ q => q.elim
theorem sna_bad {X : Cx} {L : Kl} {F : Fm} {e : List Expr} {ds : List Cell} : SndA X L F e ds .no := fun _ _ _ _ _ _ q => q.elim
def cConst : Const → CE
  | .int i => .lit (.int i)
  | .str x => .lit (.str x.cps.toList)
  | .bool b => .lit (.bl b)
  | .none => .lit .non
  | _ => .bad
def cName (Γ : Cn) (x : Str) : CE := match vrN Γ x with
  | some i => .var i
  | none => if isGl Γ x then match Γ.gl x with
    | .dat d => .lit d
    | _ => .bad
    else .bad
def cA (R : Rc) (Γ : Cn) : List Expr → CE
  | [] => .nil
  | e :: es => if star1 e then .bad else .cons (R.e Γ e) (cA R Γ es)
def cBopV (R : Rc) (Γ : Cn) (op : BoolOp) : List Expr → CE
  | [] => .bad
  | [a] => R.e Γ a
  | a :: b :: es => match op with
    | .And => .andV (R.e Γ a) (cBopV R Γ op (b :: es))
    | .Or => .orV (R.e Γ a) (cBopV R Γ op (b :: es))
def cBopT (R : Rc) (Γ : Cn) (op : BoolOp) : List Expr → CE
  | [] => .bad
  | [a] => R.t Γ a
  | a :: b :: es => match op with
    | .And => .and (R.t Γ a) (cBopT R Γ op (b :: es))
    | .Or => .or (R.t Γ a) (cBopT R Γ op (b :: es))
def isDisp : Expr → Bool
  | .List _ _ => true
  | .ListComp _ _ _ _ => true
  | _ => false
def cBin (R : Rc) (Γ : Cn) (a : Expr) (op : Operator) (b : Expr) : CE :=
  if Γ.cm then if isDisp a then match op with
      | .Mult => .rep (R.e Γ a) (R.e Γ b)
      | op => .bin op (R.e Γ a) (R.e Γ b)
    else .bin op (R.e Γ a) (R.e Γ b)
  else .bad
def cUn (R : Rc) (Γ : Cn) (op : UnaryOp) (a : Expr) : CE := match op with
  | .USub => .neg (R.e Γ a)
  | .Not => .notV (R.e Γ a)
  | _ => .bad
def cCmp (R : Rc) (Γ : Cn) (a : Expr) : List CmpOp → List Expr → CE
  | [.Is], [.Constant .none _ _] => .isn true (R.e Γ a)
  | [.IsNot], [.Constant .none _ _] => .isn false (R.e Γ a)
  | [op], [b] => if Γ.cm then if behindInMarks op b then .bad else .cmp op (R.e Γ a) (R.e Γ b) else .bad
  | [op, op2], [b, c] => if Γ.cm then if lastMarks [op, op2] [b, c] then .bad else .cmp2 op op2 (R.e Γ a) (R.e Γ b) (R.e Γ c) else .bad
  | _, _ => .bad
section
variable {X : Cx} {L : Kl} {F : Fm} {G : Gm} {cf : CallF} {k : Nat} {Γ : Cn} {R : Rc} {ds : List Cell} {a b e : Expr} {es : List Expr} {pos p : Pos} {x : Str}
theorem sc_const {c : Const} {j} : SndE X L F (.Constant c j pos) ds (evE G cf (cConst c) ds) := by
  cases c <;> first | exact snd_int | exact snd_str | exact snd_bl | exact snd_non | exact snd_bad
theorem varR_eq {i : Nat} : evE G cf (.var i) ds = varR i ds := rfl
theorem sc_name (O : CxOk X L G cf k Γ) : SndE X L F (.Name x pos) ds (evE G cf (cName Γ x) ds) := by
  unfold cName
  cases h : vrN Γ x with
  | some i =>
    have v := O.vr h
    exact snd_var v.ix v.vis v.nd v.nc
  | none =>
    cases hg : isGl Γ x with
    | false => exact snd_bad
    | true =>
      obtain ⟨g1, g2⟩ := O.glb hg
      have := O.gl x
      simp only [if_true]
      split
      · rename_i d e
        rw [e] at this
        obtain ⟨v, u, h1, h2, h3⟩ := this
        exact snd_glob g1 h1 h2 g2 h3
      · exact snd_bad
theorem sc_args (RO : RcOk L G cf k R) (O : CxOk X L G cf k Γ) : ∀ {es : List Expr} {ds : List Cell}, SndA X L F es ds (evA G cf (cA R Γ es) ds)
  | [], ds => sna_nil
  | e :: es, ds => by
    unfold cA
    cases h : star1 e with
    | true => exact sna_bad
    | false => exact sna_cons O.hL h (fun ds => (RO X Γ O F e ds).1) (fun ds => sc_args RO O)
theorem sc_bopV (RO : RcOk L G cf k R) (O : CxOk X L G cf k Γ) {op : BoolOp} : ∀ {es : List Expr} {ds : List Cell}, SndE X L F (.BoolOp op es pos) ds (evE G cf (cBopV R Γ op es) ds)
  | [], ds => snd_bad
  | [a], ds => snd_one (RO X Γ O F a ds).1
  | a :: b :: es, ds => by
    cases op with
    | And => exact snd_and O.hL (fun ds => (RO X Γ O F a ds).1) (fun ds => sc_bopV RO O)
    | Or => exact snd_or O.hL (fun ds => (RO X Γ O F a ds).1) (fun ds => sc_bopV RO O)
theorem snw_bad : SndW X L F e ds .no := fun _ _ _ _ _ _ q => q.elim
theorem sc_bopT (RO : RcOk L G cf k R) (O : CxOk X L G cf k Γ) {op : BoolOp} : ∀ {es : List Expr} {ds : List Cell}, SndW X L F (.BoolOp op es pos) ds (tt G (evE G cf (cBopT R Γ op es) ds))
  | [], ds => snw_bad
  | [a], ds => by
    cases op with
    | And => exact snw_and1 (fun ds => (RO X Γ O F a ds).2)
    | Or => exact snw_or1 (fun ds => (RO X Γ O F a ds).2)
  | a :: b :: es, ds => by
    cases op with
    | And => exact snw_and (fun ds => (RO X Γ O F a ds).2) (fun ds => sc_bopT RO O)
    | Or => exact snw_or (fun ds => (RO X Γ O F a ds).2) (fun ds => sc_bopT RO O)
theorem sc_bin (hop : HopOk L G cf k) (RO : RcOk L G cf k R) (O : CxOk X L G cf k Γ) {op : Operator} : SndE X L F (.BinOp a op b pos) ds (evE G cf (cBin R Γ a op b) ds) := by
  unfold cBin
  cases h : Γ.cm with
  | false => exact snd_bad
  | true =>
    have bin := snd_bin (op := op) (pos := pos) (ds := ds) O.hL (hop X F (O.c h).1).1 (fun ds => (RO X Γ O F a ds).1) (fun ds => (RO X Γ O F b ds).1)
    simp only [if_true]
    split
    · split
      · exact snd_rep O.hL (fun ds => (RO X Γ O F a ds).1) (fun ds => (RO X Γ O F b ds).1)
      · exact bin
    · exact bin
theorem sc_cmp (hop : HopOk L G cf k) (RO : RcOk L G cf k R) (O : CxOk X L G cf k Γ) {ops : List CmpOp} {bs : List Expr} : SndE X L F (.Compare a ops bs pos) ds (evE G cf (cCmp R Γ a ops bs) ds) ∧ SndT X L F (.Compare a ops bs pos) ds (tt G (evE G cf (cCmp R Γ a ops bs) ds)) := by
  unfold cCmp
  split
  · exact ⟨snd_isN O.hL (fun ds => (RO X Γ O F a ds).1), snt_isN O.hL (fun ds => (RO X Γ O F a ds).1)⟩
  · exact ⟨snd_isNN O.hL (fun ds => (RO X Γ O F a ds).1), snt_isNN O.hL (fun ds => (RO X Γ O F a ds).1)⟩
  · rename_i op b _ _
    cases h : Γ.cm with
    | false => exact ⟨snd_bad, snt_bad⟩
    | true =>
      simp only [if_true]
      have hu : X.A.units + 65 < cLine := by have := (O.c h).1.hr.un; omega
      cases hm : behindInMarks op b with
      | true => exact ⟨snd_bad, snt_bad⟩
      | false => exact ⟨snd_cmp O.hL (hop X F (O.c h).1).2 hu hm (fun ds => (RO X Γ O F a ds).1) (fun ds => (RO X Γ O F b ds).1), snt_cmp O.hL (hop X F (O.c h).1).2 hu hm (fun ds => (RO X Γ O F a ds).1) (fun ds => (RO X Γ O F b ds).1)⟩
  · rename_i op op2 b c
    cases h : Γ.cm with
    | false => exact ⟨snd_bad, snt_bad⟩
    | true =>
      simp only [if_true]
      have hu : X.A.units + 65 < cLine := by have := (O.c h).1.hr.un; omega
      cases hm : lastMarks [op, op2] [b, c] with
      | true => exact ⟨snd_bad, snt_bad⟩
      | false => exact ⟨snd_cmp2 O.hL hu hm (fun ds => (RO X Γ O F a ds).1) (fun ds => (RO X Γ O F b ds).1) (fun ds => (RO X Γ O F c ds).1), snt_cmp2 O.hL hu hm (fun ds => (RO X Γ O F a ds).1) (fun ds => (RO X Γ O F b ds).1) (fun ds => (RO X Γ O F c ds).1)⟩
  · exact ⟨snd_bad, snt_bad⟩
end
end Ev
/-! E19: expressions, the rest. -/
namespace Ev
open PySem PySem.Spec PyProof.Rows L2 Sg
def isNil : CE → Bool
  | .nil => true
  | _ => false
def cO (R : Rc) (Γ : Cn) : Option Expr → CE
  | none => .nil
  | some e => if isNil (R.e Γ e) then .bad else R.e Γ e
def cSub (R : Rc) (Γ : Cn) (a : Expr) : Expr → CE
  | .Slice lo hi none _ => .sl (R.e Γ a) (cO R Γ lo) (cO R Γ hi)
  | b => if notSlice b then .ix (R.e Γ a) (R.e Γ b) else .bad
def blOf (x : Str) : Option Bl := [Bl.abs, .int, .len, .list, .max, .min, .repr, .str, .sum, .tuple, .sorted, .all, .any].find? (fun b => nmB b == x)
def bl2Of (x : Str) : Option Bl2 := [Bl2.max, .min].find? (fun b => nm2 b == x)
def btS : Bt → Str
  | .int => "int" | .bool => "bool" | .str => "str" | .list => "list" | .tuple => "tuple" | .dict => "dict"
def clOf (Γ : Cn) (y : Str) : Option Cl := if isGl Γ y then match Γ.gl y with
    | .cls c => some (.own c)
    | _ => ([Bt.int, .bool, .str, .list, .tuple, .dict].find? (fun b => btS b == y)).map Cl.bt
  else none
def cBl (R : Rc) (Γ : Cn) (x : Str) : List Expr → CE
  | [e] => if star1 e then .bad else match blOf x with
    | some b => .bl b (R.e Γ e)
    | none => .bad
  | [e, e2] => if star1 e then .bad else if x = "isinstance" then match e2 with
      | .Name y _ => match clOf Γ y with
        | some c => .isi (R.e Γ e) c
        | none => .bad
      | _ => .bad
    else if star1 e2 then .bad else match bl2Of x with
      | some b => .bl2 b (R.e Γ e) (R.e Γ e2)
      | none => .bad
  | _ => .bad
def cCallB (R : Rc) (Γ : Cn) (f : Nat) : List Expr → CE
  | .Name y _ :: es => if es.all (fun e => !star1 e) then match vrN Γ y with
      | some i => .callB f i (cA R Γ es)
      | none => .bad
    else .bad
  | e :: es => if star1 e then .bad else if es.all (fun e => !star1 e) then .callT f (R.e Γ e) (cA R Γ es) else .bad
  | _ => .bad
def cCallF (R : Rc) (Γ : Cn) (f : Nat) : List Expr → CE
  | [] => .call f .nil
  | e :: es => if star1 e then .bad else if es.all (fun e => !star1 e) then .call f (cA R Γ (e :: es)) else .bad
def cCallN (R : Rc) (Γ : Cn) (x : Str) (es : List Expr) : CE := if isGl Γ x && Γ.cm then match Γ.gl x with
    | .fn f => cCallF R Γ f es
    | .fnB f => cCallB R Γ f es
    | .fnL f => match es with
      | [.Lambda ⟨[], [], none, [], [], none, []⟩ body scope _] => if Γ.lm && LamX.lamSB Γ.sc scope then .lamc f (R.e { Γ with sc := scope, fc := fun _ => false, cm := true, lm := false } body) else .bad
      | _ => .bad
    | _ => cBl R Γ x es
  else .bad
def cMeth (R : Rc) (Γ : Cn) (o : Expr) (m : Str) (apos cpos : Pos) : List Expr → CE
  | [] => if noSuper o && (apos.endLine == cpos.line) then if m = "upper" then .mth .upper (R.e Γ o) .nil else if m = "lower" then .mth .lower (R.e Γ o) .nil else .bad else .bad
  | [e] => if noSuper o && (apos.endLine == cpos.line) && !star1 e then if m = "join" then .mth .join (R.e Γ o) (.cons (R.e Γ e) .nil) else .bad else .bad
  | _ => .bad
def cCall (R : Rc) (Γ : Cn) (f : Expr) (es : List Expr) (kw : List Keyword) (pos : Pos) : CE := match kw with
  | [] => match f with
    | .Name x _ => cCallN R Γ x es
    | .Attribute o m apos => cMeth R Γ o m apos pos es
    | _ => .bad
  | _ => .bad
/-! what is walked -/
def isTup : Expr → Bool
  | .Tuple _ _ _ => true
  | _ => false
def cI (R : Rc) (Γ : Cn) (tg : Expr) : Expr → CE
  | .Call (.Name x p) [a] [] pos => if x = "range" then if isGl Γ x && Γ.cm && !star1 a then .rng (R.e Γ a) else .bad else R.e Γ (.Call (.Name x p) [a] [] pos)
  | .Call (.Name x p) [a, b] [] pos => if x = "range" then if isGl Γ x && Γ.cm && !star1 a && !star1 b then .rng2 (R.e Γ a) (R.e Γ b) else .bad else if x = "zip" then if isGl Γ x && Γ.cm && !star1 a && !star1 b && isTup tg then .zip (R.e Γ a) (R.e Γ b) else .bad else R.e Γ (.Call (.Name x p) [a, b] [] pos)
  | e => R.e Γ e
/-! targets -/
def tgNs (Γ : Cn) : List Expr → Option (List Nat)
  | [] => some []
  | .Name x _ :: es => match tgN Γ x, tgNs Γ es with
    | some i, some is => some (i :: is)
    | _, _ => none
  | _ => none
def cTg (Γ : Cn) : Expr → Option (List Nat)
  | .Name x _ => (tgN Γ x).map fun i => [i]
  | .Tuple es _ _ => if Γ.cm then match tgNs Γ es with
      | some is => if 2 ≤ is.length then some is else none
      | none => none
    else none
  | _ => none
def tgNames : Expr → List Str
  | .Name x _ => [x]
  | .Tuple es _ _ => es.filterMap fun | .Name x _ => some x | _ => none
  | _ => []
def notSet : Expr → Bool
  | .Set _ _ _ => false
  | _ => true
def blkB (N : List Str) (sc scope : Scope) (own : List (Str × Nat)) : Bool :=
  decide (scope.kind = .function) && scope.names.all (fun y => decide (scope.names.lookup y.1 = some y.2)) && own.all (fun p => decide (N[p.2]? = some p.1)) &&
  scope.names.all (fun y => match y.2 with
    | .free => decide (sc.names.lookup y.1 = some .cell ∨ sc.names.lookup y.1 = some .free)
    | .local => decide (y.1 ∈ own.map (·.1) ∨ y.1 ∉ N)
    | .cell => decide (y.1 ∈ own.map (·.1) ∨ y.1 ∉ N)
    | _ => true)
theorem blkB_ok {N : List Str} {sc scope : Scope} {own : List (Str × Nat)} (h : blkB N sc scope own = true) : BlkOk N sc scope own := by
  unfold blkB at h
  simp only [Bool.and_eq_true, decide_eq_true_eq, List.all_eq_true] at h
  obtain ⟨⟨⟨h1, h2⟩, h3⟩, h4⟩ := h
  refine ⟨h1, h2, h3, fun y hy e => ?_, fun y hy e => ?_⟩
  · have := h4 y hy
    rw [e] at this
    simpa using this
  · have := h4 y hy
    rcases e with e | e <;> rw [e] at this <;> simpa using this
def Cn.blk (Γ : Cn) (scope : Scope) : Cn := { Γ with sc := relS scope Γ.sc, fc := fun x => scope.names.lookup x == some .cell, lm := false }
/-- in a lambda's body -/
def Cn.lamb (Γ : Cn) (scope : Scope) : Cn := { Γ with sc := scope, fc := fun _ => false, cm := true, lm := false }
def cComp (R : Rc) (Γ : Cn) (elt : Expr) (scope : Scope) : List Comprehension → CE
  | [⟨tg, it, ifs, a⟩] => match cTg (Γ.blk scope) tg with
    | some is => if Γ.cm && decide (a = 0) && notSet it && blkB Γ.N Γ.sc scope ((tgNames tg).zip is) && decide (((tgNames tg).zip is).map (·.2) = is) && decide is.Nodup then match ifs with
        | [] => .comp is (cI R Γ tg it) (R.e (Γ.blk scope) elt)
        | [c] => .compI is (cI R Γ tg it) (R.t (Γ.blk scope) c) (R.e (Γ.blk scope) elt)
        | _ => .bad
      else .bad
    | none => .bad
  | [⟨tg, it, ifs, a⟩, ⟨tg2, it2, ifs2, a2⟩] => match cTg (Γ.blk scope) tg, cTg (Γ.blk scope) tg2 with
    | some i1, some i2 => if Γ.cm && decide (a = 0) && decide (a2 = 0) && ifs.isEmpty && ifs2.isEmpty && notSet it && notSet it2 && blkB Γ.N Γ.sc scope ((tgNames tg ++ tgNames tg2).zip (i1 ++ i2)) && decide (((tgNames tg ++ tgNames tg2).zip (i1 ++ i2)).map (·.2) = i1 ++ i2) && decide (i1 ++ i2).Nodup then
        .comp2 i1 i2 (cI R Γ tg it) (cI R (Γ.blk scope) tg2 it2) (R.e (Γ.blk scope) elt)
      else .bad
    | _, _ => .bad
  | _ => .bad
/-- a part of an f-string -/
def cPart (R : Rc) (Γ : Cn) : Expr → CE
  | .FormattedValue e cv none _ => if cv = -1 then .fval false (R.e Γ e) else if cv = 114 then .fval true (R.e Γ e) else .bad
  | .Constant c _ _ => cConst c
  | _ => .bad
def cParts (R : Rc) (Γ : Cn) : List Expr → CE
  | [] => .nil
  | e :: es => .cons (cPart R Γ e) (cParts R Γ es)
def cFstr (R : Rc) (Γ : Cn) : List Expr → CE
  | e :: e2 :: es => .fstr (cParts R Γ (e :: e2 :: es))
  | _ => .bad
def stepE (R : Rc) (Γ : Cn) : Expr → CE
  | .Constant c _ _ => cConst c
  | .Name x _ => cName Γ x
  | .BinOp a op b _ => cBin R Γ a op b
  | .UnaryOp op a _ => cUn R Γ op a
  | .Compare a ops bs _ => cCmp R Γ a ops bs
  | .BoolOp op vs _ => cBopV R Γ op vs
  | .IfExp c a b _ => .ife (R.t Γ c) (R.e Γ a) (R.e Γ b)
  | .List es _ => .lst (cA R Γ es)
  | .Tuple es _ _ => .tup (cA R Γ es)
  | .Call f es kw pos => cCall R Γ f es kw pos
  | .Subscript a b _ => cSub R Γ a b
  | .ListComp elt gs scope _ => cComp R Γ elt scope gs
  | .JoinedStr es _ => cFstr R Γ es
  | _ => .bad
def stepT (R : Rc) (Γ : Cn) : Expr → CE
  | .BoolOp op vs _ => cBopT R Γ op vs
  | .UnaryOp .Not a _ => .not (R.t Γ a)
  | .Compare a ops bs _ => cCmp R Γ a ops bs
  | .IfExp _ _ _ _ => .bad
  | e => stepE R Γ e
def rc : Nat → Rc
  | 0 => ⟨fun _ _ => .bad, fun _ _ => .bad⟩
  | n + 1 => ⟨stepE (rc n), stepT (rc n)⟩
section
variable {X : Cx} {L : Kl} {F : Fm} {G : Gm} {cf : CallF} {k : Nat} {Γ : Cn} {R : Rc} {ds : List Cell} {a b e f elt it tg : Expr} {es : List Expr} {pos p apos : Pos} {x m : Str} {scope : Scope}
theorem Ctx.blk {s : Shared} {H : Hp} {env : Env} {fp : List Addr} (C : Ctx X L G cf k) : Ctx (X.blk s H scope env fp) L G cf k :=
  { hL := C.hL, fn := C.fn, bd := C.bd, kp := C.kp, no := C.no, g := C.g, hr := C.hr, nd := C.nd, bn := C.bn, kty := C.kty, kcl := C.kcl, xm := C.xm, is1 := C.is1 }
theorem GlOk.same {Y : Cx} {v : GV} (hK : Y.K = X.K) (hm : Y.mg = X.mg) (h : GlOk X L G x v) : GlOk Y L G x v := by
  cases v with
  | fn f => exact ⟨by rw [hm]; exact h.1, h.2⟩
  | fnB f => exact ⟨by rw [hm]; exact h.1, h.2⟩
  | fnL f => show Y.mg x = _; rw [hm]; exact h
  | cls c => show Y.mg x = _; rw [hm]; exact h
  | exo n => exact ⟨⟨by rw [hK, hm]; exact h.1.ex⟩, h.2⟩
  | exb n => exact ⟨by rw [hm]; exact h.1, h.2⟩
  | exi n fs => exact ⟨by rw [hm]; exact h.1, ⟨by rw [hK, hm]; exact h.2.1.ex⟩, ⟨by rw [hK]; exact h.2.2.ex⟩⟩
  | dat d => show ∃ v u, Y.mg x = _ ∧ _ ∧ ∀ Hh, Im Y.K L Hh v d; rw [hm, hK]; exact h
  | other => trivial
theorem CxOk.blk {s : Shared} {H : Hp} {C : Addr} {cl : List (Str × Addr)} {fp : List Addr} (O : CxOk X L G cf k Γ) : CxOk (X.blk s H scope (compEnvC scope cl C X.env) fp) L G cf k (Γ.blk scope) where
  c h := ⟨(O.c h).1.blk, (O.c h).2⟩
  hL := O.hL
  nm := O.nm
  nd := O.nd
  N := O.N
  sc := by
    show relabel scope X.env = relS scope Γ.sc
    rw [← O.sc]
    rfl
  fc x h := h
  gl x := GlOk.same (X := X) (v := Γ.gl x) rfl rfl (O.gl x)
  fd := O.fd
  lm h := by cases h
theorem sc_opt (RO : RcOk L G cf k R) (O : CxOk X L G cf k Γ) {o : Option Expr} : SndO X L F o ds (partR (cO R Γ o) (vv G (evE G cf (cO R Γ o) ds)) ds) := by
  cases o with
  | none => exact sno_none
  | some e =>
    cases h : isNil (R.e Γ e) with
    | true =>
      have e1 : cO R Γ (some e) = .bad := by simp only [cO, h, if_true]
      rw [e1]
      exact fun _ _ _ _ _ _ q => q.elim
    | false =>
      have e1 : cO R Γ (some e) = R.e Γ e := by simp only [cO, h, Bool.false_eq_true, if_false]
      rw [e1]
      exact sno_some O.hL (fun z => by rw [z] at h; cases h) (fun ds => (RO X Γ O F e ds).1)
theorem sc_sub (RO : RcOk L G cf k R) (O : CxOk X L G cf k Γ) : SndE X L F (.Subscript a b pos) ds (evE G cf (cSub R Γ a b) ds) := by
  unfold cSub
  split
  · exact snd_sl O.hL (fun ds => (RO X Γ O F a ds).1) (fun ds => sc_opt RO O) (fun ds => sc_opt RO O)
  · cases h : notSlice b with
    | false => exact snd_bad
    | true => exact snd_ix O.hL h (fun ds => (RO X Γ O F a ds).1) (fun ds => (RO X Γ O F b ds).1)
theorem blOf_ok {b : Bl} (h : blOf x = some b) : x = nmB b := by
  have := List.find?_some h
  exact (eq_of_beq this).symm
theorem bl2Of_ok {b : Bl2} (h : bl2Of x = some b) : x = nm2 b := by
  have := List.find?_some h
  exact (eq_of_beq this).symm
theorem btS_boot : ∀ b : Bt, bootBuiltins (btS b) = some (.type (btN b)) ∧ btS b ≠ "__name__" ∧ btS b ∈ bnames := by intro b; cases b <;> decide +kernel
theorem clOf_ok (O : CxOk X L G cf k Γ) (C : Ctx X L G cf k) {c : Cl} (h : clOf Γ x = some c) : ClN X L x c := by
  unfold clOf at h
  cases hg : isGl Γ x with
  | false => rw [hg] at h; cases h
  | true =>
    rw [hg] at h
    obtain ⟨g1, g2⟩ := O.glb hg
    have g := O.gl x
    simp only [if_true] at h
    split at h
    · rename_i c' e
      cases h
      rw [e] at g
      exact ⟨g1, g, g2⟩
    · cases hf : [Bt.int, .bool, .str, .list, .tuple, .dict].find? (fun b => btS b == x) with
      | none => rw [hf] at h; cases h
      | some b =>
        rw [hf] at h
        cases h
        have hx : btS b = x := eq_of_beq (List.find?_some (p := fun b => btS b == x) hf)
        subst hx
        obtain ⟨b1, b2, b3⟩ := btS_boot b
        exact ⟨g1, C.bn _ b3, b1, b2, g2⟩
theorem sc_bl (RO : RcOk L G cf k R) (O : CxOk X L G cf k Γ) (C : Ctx X L G cf k) (hc0 : X.calm = true) (hg : Gl X x) : SndE X L F (.Call (.Name x p) es [] pos) ds (evE G cf (cBl R Γ x es) ds) := by
  unfold cBl
  split
  · rename_i e
    cases h1 : star1 e with
    | true => exact snd_bad
    | false =>
      simp only [Bool.false_eq_true, if_false]
      split
      · rename_i b hb
        obtain rfl := blOf_ok hb
        exact snd_blt hc0 C hg h1 (fun ds => (RO X Γ O F e ds).1)
      · exact snd_bad
  · rename_i e e2
    cases h1 : star1 e with
    | true => exact snd_bad
    | false =>
      simp only [Bool.false_eq_true, if_false]
      split
      · rename_i hx
        subst hx
        split
        · rename_i y p2
          split
          · rename_i c hc
            exact snd_isi C hg (clOf_ok O C hc) h1 (fun ds => (RO X Γ O F e ds).1)
          · exact snd_bad
        · exact snd_bad
      · cases h2 : star1 e2 with
        | true => exact snd_bad
        | false =>
          simp only [Bool.false_eq_true, if_false]
          split
          · rename_i b hb
            obtain rfl := bl2Of_ok hb
            exact snd_bl2 hc0 C hg h1 h2 (fun ds => (RO X Γ O F e ds).1) (fun ds => (RO X Γ O F e2 ds).1)
          · exact snd_bad
  · exact snd_bad
theorem sc_callN (RO : RcOk L G cf k R) (O : CxOk X L G cf k Γ) : SndE X L F (.Call (.Name x p) es [] pos) ds (evE G cf (cCallN R Γ x es) ds) := by
  unfold cCallN
  cases hh : isGl Γ x && Γ.cm with
  | false => exact snd_bad
  | true =>
    obtain ⟨h1, h2⟩ := Bool.and_eq_true _ _ |>.mp hh
    obtain ⟨g1, g2⟩ := O.glb h1
    obtain ⟨C, hc0⟩ := O.c h2
    have g := O.gl x
    simp only [if_true]
    split
    · rename_i f e
      rw [e] at g
      unfold cCallF
      split
      · exact snd_call0 C g.2 g1 g.1 g2
      · rename_i e es
        cases h3 : star1 e with
        | true => exact snd_bad
        | false =>
          simp only [Bool.false_eq_true, if_false]
          split
          · rename_i h4
            exact snd_call C g.2 g1 g.1 g2 h3 h4 (fun ds => sc_args RO O)
          · exact snd_bad
    · rename_i f e
      rw [e] at g
      unfold cCallB
      split
      · split
        · rename_i h4
          split
          · rename_i i hv
            exact snd_callB C g.2 g1 g.1 g2 (O.vr hv) h4 (fun ds => sc_args RO O)
          · exact snd_bad
        · exact snd_bad
      · rename_i e es _
        cases h3 : star1 e with
        | true => exact snd_bad
        | false =>
          simp only [Bool.false_eq_true, if_false]
          split
          · rename_i h4
            exact snd_callT C g.2 g1 g.1 g2 h3 h4 (fun ds => (RO X Γ O F e ds).1) (fun ds => sc_args RO O)
          · exact snd_bad
      · exact snd_bad
    · rename_i f e
      rw [e] at g
      split
      · rename_i body scope lpos
        split
        · rename_i hl
          obtain ⟨l1, l2⟩ := Bool.and_eq_true _ _ |>.mp hl
          obtain ⟨m1, m2, G1, W, m3, m4⟩ := O.lm l1
          have Ls : LamX.LamS X.env.scope scope := by rw [O.sc]; exact LamX.lamS_by l2
          intro σ H ts tcs Q s q
          have q' : After X L F σ ts tcs Q (lamE (lamK G1 W cf f (thk (vv G (evE G cf (R.e { Γ with sc := scope, fc := fun _ => false, cm := true, lm := false } body) (ds.map seen))))) ds) := by
            rw [← m3]
            exact q
          cases hlc : G1.lcode f with
          | none =>
            unfold lamK at q'
            rw [hlc] at q'
            exact q'.elim
          | some c =>
            refine snd_lam (k := k) O.hL C.g m1 m2 hlc (m4 f c hlc) g1 g g2 Ls rfl (fun _ _ _ _ _ => rfl) (fun A outer s1 HZ E f0 c' gY hY F' ds' => ?_) σ H ts tcs Q s q'
            refine (RO _ _ ?_ F' body ds').1
            exact
              { c := fun _ => ⟨{ hL := C.hL, fn := C.fn, bd := C.bd, kp := C.kp, no := C.no, g := gY, hr := hY, nd := C.nd, bn := C.bn, kty := C.kty, kcl := C.kcl, xm := C.xm, is1 := C.is1 }, rfl⟩
                hL := O.hL
                nm := O.nm
                nd := O.nd
                N := O.N
                sc := rfl
                fc := fun x h => by cases h
                gl := fun y => GlOk.same (X := X) (v := Γ.gl y) rfl rfl (O.gl y)
                fd := O.fd
                lm := fun h => by cases h }
        · exact snd_bad
      · exact snd_bad
    · exact sc_bl RO O C hc0 g1
theorem sc_meth (RO : RcOk L G cf k R) (O : CxOk X L G cf k Γ) : SndE X L F (.Call (.Attribute a m apos) es [] pos) ds (evE G cf (cMeth R Γ a m apos pos es) ds) := by
  unfold cMeth
  split
  · cases hh : noSuper a && (apos.endLine == pos.line) with
    | false => exact snd_bad
    | true =>
      obtain ⟨h1, h2⟩ := Bool.and_eq_true _ _ |>.mp hh
      simp only [if_true]
      split
      · rename_i e
        subst e
        exact snd_upper O.hL h1 h2 (fun ds => (RO X Γ O F a ds).1)
      · split
        · rename_i e
          subst e
          exact snd_lower O.hL h1 h2 (fun ds => (RO X Γ O F a ds).1)
        · exact snd_bad
  · rename_i e
    cases hh : noSuper a && (apos.endLine == pos.line) && !star1 e with
    | false => exact snd_bad
    | true =>
      simp only [Bool.and_eq_true, Bool.not_eq_true'] at hh
      obtain ⟨⟨h1, h2⟩, h3⟩ := hh
      simp only [if_true]
      split
      · rename_i e
        subst e
        exact snd_join O.hL h1 h3 h2 (fun ds => (RO X Γ O F a ds).1) (fun ds => (RO X Γ O F e ds).1)
      · exact snd_bad
  · exact snd_bad
theorem sc_call (RO : RcOk L G cf k R) (O : CxOk X L G cf k Γ) {kw : List Keyword} : SndE X L F (.Call f es kw pos) ds (evE G cf (cCall R Γ f es kw pos) ds) := by
  unfold cCall
  split
  · split
    · exact sc_callN RO O
    · exact sc_meth RO O
    · exact snd_bad
  · exact snd_bad
theorem sni_bad : SndI X L F tg e ds .no := fun _ _ _ _ _ _ q => q.elim
theorem sc_iter (RO : RcOk L G cf k R) (O : CxOk X L G cf k Γ) : SndI X L F tg e ds ((vv G (evE G cf (cI R Γ tg e) ds)).bind asItems) := by
  unfold cI
  split
  · rename_i x p a pos
    split
    · rename_i e
      subst e
      cases hh : isGl Γ "range" && Γ.cm && !star1 a with
      | false => exact sni_bad
      | true =>
        simp only [Bool.and_eq_true, Bool.not_eq_true'] at hh
        obtain ⟨⟨h1, h2⟩, h3⟩ := hh
        exact sni_rng O.hL (O.glb h1).1 (O.c h2).1.bn h3 (fun ds => (RO X Γ O F a ds).1)
    · exact sni_val O.hL (fun ds => (RO X Γ O F _ ds).1)
  · rename_i x p a b pos
    split
    · rename_i e
      subst e
      cases hh : isGl Γ "range" && Γ.cm && !star1 a && !star1 b with
      | false => exact sni_bad
      | true =>
        simp only [Bool.and_eq_true, Bool.not_eq_true'] at hh
        obtain ⟨⟨⟨h1, h2⟩, h3⟩, h4⟩ := hh
        exact sni_rng2 O.hL (O.glb h1).1 (O.c h2).1.bn h3 h4 (fun ds => (RO X Γ O F a ds).1) (fun ds => (RO X Γ O F b ds).1)
    · split
      · rename_i e
        subst e
        cases hh : isGl Γ "zip" && Γ.cm && !star1 a && !star1 b && isTup tg with
        | false => exact sni_bad
        | true =>
          simp only [Bool.and_eq_true, Bool.not_eq_true'] at hh
          obtain ⟨⟨⟨⟨h1, h2⟩, h3⟩, h4⟩, h5⟩ := hh
          cases tg <;> first | (exact sni_zip O.hL (O.glb h1).1 (O.c h2).1.bn h3 h4 (fun ds => (RO X Γ O F a ds).1) (fun ds => (RO X Γ O F b ds).1)) | cases h5
      · exact sni_val O.hL (fun ds => (RO X Γ O F _ ds).1)
  · exact sni_val O.hL (fun ds => (RO X Γ O F _ ds).1)
theorem tgNs_ok (O : CxOk X L G cf k Γ) : ∀ {es : List Expr} {is : List Nat}, tgNs Γ es = some is → SndGs X L F es is ∧ (assignEach es X.env).length = is.length ∧ (assignEach es X.env).findIdx? (·.1) = none
  | [], is, h => by
    cases h
    exact ⟨sngs_nil, rfl, rfl⟩
  | e :: es, is, h => by
    unfold tgNs at h
    cases e with
    | Name x p =>
      simp only at h
      split at h
      · rename_i i is' h1 h2
        cases h
        obtain ⟨k1, k2, k3⟩ := tgNs_ok O h2
        have ea : assignEach (Expr.Name x p :: es) X.env = (false, assign (.Name x p) X.env) :: assignEach es X.env := rfl
        refine ⟨sngs_cons O.nd (O.tg h1) k1, by rw [ea]; simp [k2], ?_⟩
        rw [ea, List.findIdx?_cons, k3]
        rfl
      · cases h
    | _ => simp at h
theorem sc_tg (O : CxOk X L G cf k Γ) {is : List Nat} (h : cTg Γ tg = some is) : SndG X L F tg is := by
  unfold cTg at h
  split at h
  · rename_i x p
    cases ht : tgN Γ x with
    | none => rw [ht] at h; cases h
    | some i =>
      rw [ht] at h
      cases h
      exact sng_name O.nd (O.tg ht)
  · split at h
    · rename_i hcm
      split at h
      · rename_i is' h1
        split at h
        · rename_i h2
          cases h
          obtain ⟨k1, k2, k3⟩ := tgNs_ok (F := F) O h1
          exact sng_tup (O.c hcm).2 h2 k1 k2 k3
        · cases h
      · cases h
    · cases h
  · cases h
theorem notSet_ok {env : Env} (h : notSet e = true) : ∀ x, foldedSetIterable e env x = pure x := by
  intro x
  cases e <;> first | rfl | cases h
theorem notSet_ok2 (h : notSet e = true) : ∀ env x, foldedSetIterable e env x = pure x := by
  intro env x
  cases e <;> first | rfl | cases h
theorem comp2_of (RO : RcOk L G cf k R) (O : CxOk X L G cf k Γ) {tg2 it2 : Expr} {i1 i2 : List Nat} (ht : cTg (Γ.blk scope) tg = some i1) (ht2 : cTg (Γ.blk scope) tg2 = some i2) (h6 : notSet it = true) (h7 : notSet it2 = true) (h8 : blkB Γ.N Γ.sc scope ((tgNames tg ++ tgNames tg2).zip (i1 ++ i2)) = true)
    (h9 : ((tgNames tg ++ tgNames tg2).zip (i1 ++ i2)).map (·.2) = i1 ++ i2) (h10 : (i1 ++ i2).Nodup) : Comp2Ok X L F G cf scope ((tgNames tg ++ tgNames tg2).zip (i1 ++ i2)) tg it tg2 it2 i1 i2 (cI R Γ tg it) (cI R (Γ.blk scope) tg2 it2) :=
  ⟨by rw [O.N, O.sc]; exact blkB_ok h8, h9, h10, fun ds => sc_iter RO O, fun s H C cl fp => sc_tg (O.blk) ht, fun s H C cl fp ds => sc_iter RO O.blk, fun s H C cl fp => sc_tg (O.blk) ht2, notSet_ok h6, notSet_ok2 h7⟩
theorem sc_comp (RO : RcOk L G cf k R) (O : CxOk X L G cf k Γ) {gs : List Comprehension} : SndE X L F (.ListComp elt gs scope pos) ds (evE G cf (cComp R Γ elt scope gs) ds) := by
  unfold cComp
  split
  · rename_i tg it ifs a
    split
    · rename_i is ht
      cases hh : Γ.cm && decide (a = 0) && notSet it && blkB Γ.N Γ.sc scope ((tgNames tg).zip is) && decide (((tgNames tg).zip is).map (·.2) = is) && decide is.Nodup with
      | false => exact snd_bad
      | true =>
        simp only [Bool.and_eq_true, decide_eq_true_eq] at hh
        obtain ⟨⟨⟨⟨⟨h1, h2⟩, h3⟩, h4⟩, h5⟩, h6⟩ := hh
        subst h2
        obtain ⟨C, hc0⟩ := O.c h1
        have ok : CompOk X L F G cf scope ((tgNames tg).zip is) tg it is (cI R Γ tg it) :=
          ⟨by rw [O.N, O.sc]; exact blkB_ok h4, h5, h6, fun ds => sc_iter RO O, fun s H C cl fp => sc_tg (O.blk) ht, notSet_ok h3⟩
        simp only [if_true]
        split
        · exact snd_comp hc0 C ok fun s H C cl fp ds => (RO _ _ O.blk F elt ds).1
        · exact snd_compI hc0 C ok (fun s H C cl fp ds => (RO _ _ O.blk F _ ds).2) fun s H C cl fp ds => (RO _ _ O.blk F elt ds).1
        · exact snd_bad
    · exact snd_bad
  · rename_i tg it ifs a tg2 it2 ifs2 a2
    split
    · rename_i i1 i2 ht ht2
      split
      · rename_i hh
        simp only [Bool.and_eq_true, decide_eq_true_eq, List.isEmpty_iff] at hh
        obtain ⟨⟨⟨⟨⟨⟨⟨⟨⟨h1, h2⟩, h3⟩, h4⟩, h5⟩, h6⟩, h7⟩, h8⟩, h9⟩, h10⟩ := hh
        subst h2
        subst h3
        subst h4
        subst h5
        obtain ⟨C, hc0⟩ := O.c h1
        exact snd_comp2 hc0 C (comp2_of RO O ht ht2 h6 h7 h8 h9 h10) fun s H C cl fp ds => (RO _ _ O.blk F elt ds).1
      · exact snd_bad
    · exact snd_bad
  · exact snd_bad
theorem sc_part (RO : RcOk L G cf k R) (O : CxOk X L G cf k Γ) : SndE X L F e ds (evE G cf (cPart R Γ e) ds) := by
  unfold cPart
  split
  · rename_i e' cv p
    split
    · exact snd_fval (by simpa using ‹_›) O.hL (fun ds => (RO X Γ O F e' ds).1)
    · split
      · exact snd_fval (by simpa using ‹_›) O.hL (fun ds => (RO X Γ O F e' ds).1)
      · exact snd_bad
  · exact sc_const
  · exact snd_bad
theorem sc_parts (RO : RcOk L G cf k R) (O : CxOk X L G cf k Γ) : ∀ {es : List Expr}, SndJ X L F G cf es (cParts R Γ es)
  | [] => .nil
  | _ :: _ => .cons (fun ds => sc_part RO O) (sc_parts RO O)
theorem sc_fstr (RO : RcOk L G cf k R) (O : CxOk X L G cf k Γ) : SndE X L F (.JoinedStr es pos) ds (evE G cf (cFstr R Γ es) ds) := by
  unfold cFstr
  split
  · exact snd_fstr O.hL (sc_parts RO O)
  · exact snd_bad
theorem stepE_ok (hop : HopOk L G cf k) (RO : RcOk L G cf k R) (O : CxOk X L G cf k Γ) : SndE X L F e ds (evE G cf (stepE R Γ e) ds) := by
  unfold stepE
  split
  · exact sc_const
  · exact sc_name O
  · exact sc_bin hop RO O
  · rename_i op a p
    unfold cUn
    split
    · exact snd_neg O.hL (fun ds => (RO X Γ O F a ds).1)
    · exact snd_not O.hL (fun ds => (RO X Γ O F a ds).1)
    · exact snd_bad
  · exact (sc_cmp hop RO O).1
  · exact sc_bopV RO O
  · rename_i c a b p
    exact snd_ife (fun ds => (RO X Γ O F c ds).2) (fun ds => (RO X Γ O F a ds).1) (fun ds => (RO X Γ O F b ds).1)
  · exact snd_lst (fun ds => sc_args RO O)
  · exact snd_tup (fun ds => sc_args RO O)
  · exact sc_call RO O
  · exact sc_sub RO O
  · exact sc_comp RO O
  · exact sc_fstr RO O
  · exact snd_bad
theorem stepT_ok (hop : HopOk L G cf k) (RO : RcOk L G cf k R) (O : CxOk X L G cf k Γ) : SndT X L F e ds (tt G (evE G cf (stepT R Γ e) ds)) := by
  unfold stepT
  split
  · exact (sc_bopT RO O).t
  · rename_i a p
    exact snt_not (fun ds => (RO X Γ O F a ds).2)
  · exact (sc_cmp hop RO O).2
  · exact snt_bad
  · rename_i h1 h2 h3 h4
    refine snt_plain O.hL ?_ (fun ds => stepE_ok hop RO O)
    cases e <;> first | rfl | (exfalso; first | exact h1 _ _ _ rfl | exact h3 _ _ _ _ rfl | exact h4 _ _ _ _ rfl) | skip
    rename_i op x p
    cases op <;> first | rfl | (exfalso; exact h2 _ _ rfl)
theorem rc_ok (hop : HopOk L G cf k) : ∀ n, RcOk L G cf k (rc n)
  | 0 => fun X Γ O F e ds => ⟨snd_bad, snt_bad⟩
  | n + 1 => fun X Γ O F e ds => ⟨stepE_ok hop (rc_ok hop n) O, stepT_ok hop (rc_ok hop n) O⟩
end
end Ev
/-! E20: statements of the program's text. -/
namespace Ev
open PySem PySem.Spec PyProof.Rows L2 Sg
theorem dups2 {x y : Str} (h : (y == x) = false) : ([x, y] : List Str).eraseDups.length = 2 := by
  simp [List.eraseDups_cons, h]
theorem dups3 {x y z : Str} (h : (y == x) = false) (h2 : (z == x) = false) (h3 : (z == y) = false) : ([x, y, z] : List Str).eraseDups.length = 3 := by
  simp [List.eraseDups_cons, h, h2, h3]
theorem sw_par2 {x y : Str} {px py pt pt2 : Pos} {a b : Expr} {kt k2 : Nat} {env : Env} (hx : env.kindOf x = some .local) (hy : env.kindOf y = some .local) (hl : (py.line == px.line) = true) (hxy : (y == x) = false) (hb : env.blockKind = .function) (ha : star1 a = false) (hbb : star1 b = false)
    (hc : [a, b].all (constantsAlone 8) = false ∨ [a, b].all (foldedForSure 8) = true) : swappedStores [.Tuple [.Name x px, .Name y py] kt pt] (.Tuple [a, b] k2 pt2) env = pure (if [a, b].all (foldedForSure 8) then none else some [x, y]) := by
  unfold swappedStores
  simp only [pure_bind]
  generalize hn : List.filterMap _ [Expr.Name x px, Expr.Name y py] = names
  have hnm : names = [x, y] := by
    rw [← hn]
    have hl' : py.line = px.line := by simpa using hl
    simp [List.filterMap_cons, hx, hy, hl', Expr.pos]
  rw [hnm, if_neg (by simp [hb]), if_neg (by
    cases a <;> cases b <;> first | (simp [star1] at ha; done) | (simp [star1] at hbb; done) | exact Bool.false_ne_true), if_neg (by rw [dups2 hxy]; exact Bool.false_ne_true)]
  cases h1 : [a, b].all (foldedForSure 8) with
  | true => rfl
  | false =>
    simp only [Bool.false_eq_true, if_false]
    have h2 : [a, b].all (constantsAlone 8) = false := hc.resolve_right (by rw [h1]; exact Bool.false_ne_true)
    rw [h2]
    rfl
theorem sw_par3 {x y z : Str} {px py pz pt pt2 : Pos} {a b c : Expr} {kt k2 : Nat} {env : Env} (hx : env.kindOf x = some .local) (hy : env.kindOf y = some .local) (hz : env.kindOf z = some .local) (hl : (py.line == px.line) = true) (hl2 : (pz.line == px.line) = true) (hxy : (y == x) = false) (hxz : (z == x) = false) (hyz : (z == y) = false) (hb : env.blockKind = .function) (ha : star1 a = false) (hbb : star1 b = false) (hcc : star1 c = false)
    (hc : [a, b, c].all (constantsAlone 8) = false ∨ [a, b, c].all (foldedForSure 8) = true) : swappedStores [.Tuple [.Name x px, .Name y py, .Name z pz] kt pt] (.Tuple [a, b, c] k2 pt2) env = pure (if [a, b, c].all (foldedForSure 8) then none else some [x, y, z]) := by
  unfold swappedStores
  simp only [pure_bind]
  generalize hn : List.filterMap _ [Expr.Name x px, Expr.Name y py, Expr.Name z pz] = names
  have hnm : names = [x, y, z] := by
    rw [← hn]
    have hl' : py.line = px.line := by simpa using hl
    have hl2' : pz.line = px.line := by simpa using hl2
    simp [List.filterMap_cons, hx, hy, hz, hl', hl2', Expr.pos]
  have st : ∀ {f : Expr → Bool}, (∀ e, star1 e = false → f e = false) → ([a, b, c].any f) = false := fun {f} h => by
    rw [List.any_cons, List.any_cons, List.any_cons, List.any_nil, h a ha, h b hbb, h c hcc]
    rfl
  rw [hnm, if_neg (by simp [hb]), if_neg (by
    rw [st (fun e h => by cases e <;> first | rfl | cases h)]
    exact Bool.false_ne_true), if_neg (by rw [dups3 hxy hxz hyz]; exact Bool.false_ne_true)]
  cases h1 : [a, b, c].all (foldedForSure 8) with
  | true => rfl
  | false =>
    simp only [Bool.false_eq_true, if_false]
    have h2 : [a, b, c].all (constantsAlone 8) = false := hc.resolve_right (by rw [h1]; exact Bool.false_ne_true)
    rw [h2]
    rfl
theorem sw_notup {t e : Expr} {env : Env} (h : ∀ ts k p, t ≠ .Tuple ts k p) (h2 : ∀ ts p, t ≠ .List ts p) : swappedStores [t] e env = pure none := by
  cases t <;> first | rfl | exact absurd rfl (h _ _ _) | exact absurd rfl (h2 _ _)
theorem sw_notup2 {ts : List Expr} {kt : Nat} {pt : Pos} {e : Expr} {env : Env} (h : ∀ ts k p, e ≠ .Tuple ts k p) : swappedStores [.Tuple ts kt pt] e env = pure none := by
  cases e <;> first | rfl | exact absurd rfl (h _ _ _)
theorem sw_eq {elt : Expr} {gs : List Comprehension} {scope : Scope} {pos py : Pos} {y : Str} {l : Nat} {env : Env} : swapsWith (.ListComp elt gs scope pos) (some (.Name y py)) l env = pure (env.blockKind == .function && env.kindOf y == some .local && py.line == pos.line && !(scope.names.any fun (n, k) => n == y && (k == .local || k == .cell))) := rfl

theorem then_bind {α : Type} {x : Res α} {f : α → RS} {kk : List Cell → RS} : thenS (x.bind f) kk = x.bind fun a => thenS (f a) kk := bind_assoc _ _ _
structure CxS (X : Cx) (L : Kl) (G : Gm) (cf : CallF) (k : Nat) (Γ : Cn) : Prop where
  o : CxOk X L G cf k Γ
  hp : PassesOwn (model X.prog X.w) X.A X.env X.xe
  st : X.stack = X.env :: X.outer
  fr : X.env.frame = some X.env.locals
def cSet (R : Rc) (Γ : Cn) (i : Nat) (e : Expr) (r : CS) : CS := match e with
  | .ListComp elt gs scope _ => .set i (cComp R Γ elt scope gs) r
  | e => if noComp e then .set i (R.e Γ e) r else .bad
def cTup2 (R : Rc) (Γ : Cn) (x y : Str) (px py : Pos) (a b : Expr) (r : CS) : CS := match tgN Γ x, tgN Γ y with
  | some i, some j => if Γ.cm && decide (Γ.sc.kind = .function) && decide (Γ.sc.names.lookup x = some .local) && decide (Γ.sc.names.lookup y = some .local) && (py.line == px.line) && !(y == x) && !star1 a && !star1 b && (!([a, b].all (constantsAlone 8)) || [a, b].all (foldedForSure 8)) && decide (i ≠ j) then .setT [i, j] (.tup (cA R Γ [a, b])) r else .bad
  | _, _ => .bad
def cTup3 (R : Rc) (Γ : Cn) (x y z : Str) (px py pz : Pos) (a b c : Expr) (r : CS) : CS := match tgN Γ x, tgN Γ y, tgN Γ z with
  | some i, some j, some l => if Γ.cm && decide (Γ.sc.kind = .function) && decide (Γ.sc.names.lookup x = some .local) && decide (Γ.sc.names.lookup y = some .local) && decide (Γ.sc.names.lookup z = some .local) && (py.line == px.line) && (pz.line == px.line) && !(y == x) && !(z == x) && !(z == y) && !star1 a && !star1 b && !star1 c && (!([a, b, c].all (constantsAlone 8)) || [a, b, c].all (foldedForSure 8)) && decide (i ≠ j) && decide (i ≠ l) && decide (j ≠ l) then .setT [i, j, l] (.tup (cA R Γ [a, b, c])) r else .bad
  | _, _, _ => .bad
def cTup (R : Rc) (Γ : Cn) (ts : List Expr) (kt : Nat) (pt : Pos) (e : Expr) (r : CS) : CS := match e with
  | .Tuple vs _ _ => match ts, vs with
    | [.Name x px, .Name y py], [a, b] => cTup2 R Γ x y px py a b r
    | [.Name x px, .Name y py, .Name z pz], [a, b, c] => cTup3 R Γ x y z px py pz a b c r
    | _, _ => .bad
  | e => if noComp e then match cTg Γ (.Tuple ts kt pt) with
      | some is => .setT is (R.e Γ e) r
      | none => .bad
    else .bad
def cAsg (R : Rc) (Γ : Cn) (tg e : Expr) (r : CS) : CS := match tg with
  | .Name x _ => match tgN Γ x with
    | some i => cSet R Γ i e r
    | none => .bad
  | .Tuple ts kt pt => cTup R Γ ts kt pt e r
  | .Subscript (.Name x _) b _ => match vrN Γ x with
    | some i => if noComp e && notSlice b then .setIx i (R.e Γ b) (R.e Γ e) r else .bad
    | none => .bad
  | .Attribute (.Name x _) f _ => match vrN Γ x, Γ.fd f with
    | some i, some n => if Γ.cm && noComp e then .setFld i n (R.e Γ e) r else .bad
    | _, _ => .bad
  | _ => .bad
def cExp (R : Rc) (Γ : Cn) (e : Expr) (r : CS) : CS := match e with
  | .Constant (.str _) _ _ => .pass r
  | .Call (.Attribute (.Name x p1) m apos) [a] [] cpos => if m = "append" then match vrN Γ x with
      | some i => if !star1 a && (apos.endLine == cpos.line) then .app i (R.e Γ a) r else .bad
      | none => .bad
    else if m = "extend" then match a with
      | .Name y _ => match vrN Γ x, vrN Γ y with
        | some i, some j => if apos.endLine == cpos.line then .ext i (.var j) r else .bad
        | _, _ => .bad
      | _ => .bad
    else .expr (R.e Γ (.Call (.Attribute (.Name x p1) m apos) [a] [] cpos)) r
  | e => if noComp e then .expr (R.e Γ e) r else .bad
section
variable {X : Cx} {L : Kl} {F : Fm} {G : Gm} {cf : CallF} {k W : Nat} {Γ : Cn} {R : Rc} {ds : List Cell} {a b e f elt it tg : Expr} {es ts : List Expr} {pos p apos pt : Pos} {x m : Str} {scope : Scope} {r : CS} {rest : List Stmt} {i kt : Nat}
theorem snb_bad {sts : List Stmt} : SndB X L F sts ds .no := fun _ _ _ _ _ _ q => q.elim
theorem sns_set' (hL : L.fl = G.fl) (hN : X.N.Nodup) (h : TgN X x i) (hs : swapsWith e (some (.Name x p)) pos.line X.env = pure false) {ce : CE} (ha : ∀ ds, SndE X L F e ds (evE G cf ce ds)) :
    SndS X L F (.Assign [.Name x p] e pos) ds ((evE G cf ce ds).bind fun r => (stR G.fl i r.1 r.2).bind fun ds' => .ok (.nx, ds')) := by
  intro σ H ts tcs D s q
  exact ws (ps_set hN h.ix h.loc pe_we hs h.fn) (ha ds σ H ts tcs _ s (After.of q id (fun r ds h => TkS.tk h σ) fun rv ds1 q v H1 s1 => st_ok hL s1 q))
theorem sns_setLc {py : Pos} {y : Str} {own : List (Str × Nat)} {is : List Nat} {ci ce : CE} (hc0 : X.calm = true) (C : Ctx X L G cf k) (O : CompOk X L F G cf scope own tg it is ci) (h : TgN X y i) (hyl : X.env.scope.names.lookup y = some .local)
    (hsw : swapsWith (.ListComp elt [⟨tg, it, [], 0⟩] scope p) (some (.Name y py)) pos.line X.env = pure true) (he : AllB X scope fun X' => ∀ ds, SndE X' L F elt ds (evE G cf ce ds)) :
    SndS X L F (.Assign [.Name y py] (.ListComp elt [⟨tg, it, [], 0⟩] scope p) pos) ds ((evE G cf (.comp is ci ce) ds).bind fun r => (stR G.fl i r.1 r.2).bind fun ds' => .ok (.nx, ds')) := by
  intro σ H ts tcs D s q
  refine ws (ps_setLc hc0 C.nd h.ix hyl hsw pi_wi O.ok pg_all (fun _ _ _ _ _ => pts_nil) pe_all O.hs) ?_
  rw [O.ho]
  exact comp_ok C O.ok O.ho O.nd (O.hi ds) O.hg (fun _ _ _ _ _ => pts_nil) (turn_plain C.hL he) O.hs s (After.of q id (fun r ds h => TkS.tk h σ) fun rv ds1 q v H1 s1 => st_ok C.hL s1 q)
theorem sns_setLcI {py : Pos} {y : Str} {own : List (Str × Nat)} {is : List Nat} {ci ce cc : CE} {c : Expr} (hc0 : X.calm = true) (C : Ctx X L G cf k) (O : CompOk X L F G cf scope own tg it is ci) (h : TgN X y i) (hyl : X.env.scope.names.lookup y = some .local)
    (hsw : swapsWith (.ListComp elt [⟨tg, it, [c], 0⟩] scope p) (some (.Name y py)) pos.line X.env = pure true) (hc : AllB X scope fun X' => ∀ ds, SndT X' L F c ds (tt G (evE G cf cc ds))) (he : AllB X scope fun X' => ∀ ds, SndE X' L F elt ds (evE G cf ce ds)) :
    SndS X L F (.Assign [.Name y py] (.ListComp elt [⟨tg, it, [c], 0⟩] scope p) pos) ds ((evE G cf (.compI is ci cc ce) ds).bind fun r => (stR G.fl i r.1 r.2).bind fun ds' => .ok (.nx, ds')) := by
  intro σ H ts tcs D s q
  refine ws (ps_setLc hc0 C.nd h.ix hyl hsw pi_wi O.ok pg_all (fun s H C cl fp => pts_one (pt_all s H C cl fp)) pe_all O.hs) ?_
  rw [O.ho]
  exact comp_ok C O.ok O.ho O.nd (O.hi ds) O.hg (fun s H C cl fp => pts_one (pt_all s H C cl fp)) (turn_if C.hL hc he) O.hs s (After.of q id (fun r ds h => TkS.tk h σ) fun rv ds1 q v H1 s1 => st_ok C.hL s1 q)
theorem sns_setLc2 {py : Pos} {y : Str} {tg2 it2 : Expr} {own : List (Str × Nat)} {i1 i2 : List Nat} {ci c2 ce : CE} (hc0 : X.calm = true) (C : Ctx X L G cf k) (O : Comp2Ok X L F G cf scope own tg it tg2 it2 i1 i2 ci c2) (h : TgN X y i) (hyl : X.env.scope.names.lookup y = some .local)
    (hsw : swapsWith (.ListComp elt [⟨tg, it, [], 0⟩, ⟨tg2, it2, [], 0⟩] scope p) (some (.Name y py)) pos.line X.env = pure true) (he : AllB X scope fun X' => ∀ ds, SndE X' L F elt ds (evE G cf ce ds)) :
    SndS X L F (.Assign [.Name y py] (.ListComp elt [⟨tg, it, [], 0⟩, ⟨tg2, it2, [], 0⟩] scope p) pos) ds ((evE G cf (.comp2 i1 i2 ci c2 ce) ds).bind fun r => (stR G.fl i r.1 r.2).bind fun ds' => .ok (.nx, ds')) := by
  intro σ H ts tcs D s q
  refine ws (ps_setLc2 hc0 C.nd h.ix hyl hsw pi_wi O.ok (vs1 := i2) (fun i hi => by rw [O.ho]; exact List.mem_append_right _ hi) pg_all (fun _ _ _ _ _ => pts_nil) pi_all pg_all (fun _ _ _ _ _ => pts_nil) pe_all O.hs O.hs2) ?_
  rw [O.ho]
  exact comp2_ok C.hL O.ho O.nd (O.hi ds) O.hg O.hi2 O.hg2 he s (After.of q id (fun r ds h => TkS.tk h σ) fun rv ds1 q v H1 s1 => st_ok C.hL s1 q)
theorem ev_set {ce : CE} {r : CS} : evS G cf W (.set i ce r) ds = thenS ((evE G cf ce ds).bind fun r => (stR G.fl i r.1 r.2).bind fun ds' => .ok (.nx, ds')) fun ds => evS G cf W r ds := by
  rw [then_bind]
  show Res.bind _ _ = Res.bind _ _
  congr 1
  funext x
  rw [then_bind]
  rfl
theorem sc_set (RO : RcOk L G cf k R) (O : CxOk X L G cf k Γ) (h : TgN X x i) (hr : ∀ ds, SndB X L F rest ds (evS G cf W r ds)) : SndB X L F (.Assign [.Name x p] e pos :: rest) ds (evS G cf W (cSet R Γ i e r) ds) := by
  unfold cSet
  split
  · rename_i elt gs scope pc
    rw [ev_set]
    refine snb_cons ?_ hr
    have he := fun ds => sc_comp (F := F) (ds := ds) (elt := elt) (scope := scope) (pos := pc) (gs := gs) RO O
    cases hb : (X.env.blockKind == .function && X.env.kindOf x == some .local && p.line == pc.line && !(scope.names.any fun (n, k) => n == x && (k == .local || k == .cell))) with
    | false => exact sns_set' O.hL O.nd h (by rw [sw_eq, hb]) he
    | true =>
      have hsw : ∀ gs, swapsWith (.ListComp elt gs scope pc) (some (.Name x p)) pos.line X.env = pure true := fun gs => by rw [sw_eq, hb]
      have hyl : X.env.scope.names.lookup x = some .local := by
        simp only [Bool.and_eq_true] at hb
        exact eq_of_beq hb.1.1.2
      clear he
      unfold cComp
      split
      · rename_i tg it ifs a
        split
        · rename_i is ht
          cases hh : Γ.cm && decide (a = 0) && notSet it && blkB Γ.N Γ.sc scope ((tgNames tg).zip is) && decide (((tgNames tg).zip is).map (·.2) = is) && decide is.Nodup with
          | false => exact fun _ _ _ _ _ _ q => q.elim
          | true =>
            simp only [Bool.and_eq_true, decide_eq_true_eq] at hh
            obtain ⟨⟨⟨⟨⟨h1, h2⟩, h3⟩, h4⟩, h5⟩, h6⟩ := hh
            subst h2
            obtain ⟨C, hc0⟩ := O.c h1
            have ok : CompOk X L F G cf scope ((tgNames tg).zip is) tg it is (cI R Γ tg it) :=
              ⟨by rw [O.N, O.sc]; exact blkB_ok h4, h5, h6, fun ds => sc_iter RO O, fun s H C cl fp => sc_tg (O.blk) ht, notSet_ok h3⟩
            simp only [if_true]
            split
            · exact sns_setLc hc0 C ok h hyl (hsw _) fun s H C cl fp ds => (RO _ _ O.blk F elt ds).1
            · exact sns_setLcI hc0 C ok h hyl (hsw _) (fun s H C cl fp ds => (RO _ _ O.blk F _ ds).2) fun s H C cl fp ds => (RO _ _ O.blk F elt ds).1
            · exact fun _ _ _ _ _ _ q => q.elim
        · exact fun _ _ _ _ _ _ q => q.elim
      · rename_i tg it ifs a tg2 it2 ifs2 a2
        split
        · rename_i i1 i2 ht ht2
          split
          · rename_i hh
            simp only [Bool.and_eq_true, decide_eq_true_eq, List.isEmpty_iff] at hh
            obtain ⟨⟨⟨⟨⟨⟨⟨⟨⟨h1, h2⟩, h3⟩, h4⟩, h5⟩, h6⟩, h7⟩, h8⟩, h9⟩, h10⟩ := hh
            subst h2
            subst h3
            subst h4
            subst h5
            obtain ⟨C, hc0⟩ := O.c h1
            exact sns_setLc2 hc0 C (comp2_of RO O ht ht2 h6 h7 h8 h9 h10) h hyl (hsw _) fun s H C cl fp ds => (RO _ _ O.blk F elt ds).1
          · exact fun _ _ _ _ _ _ q => q.elim
        · exact fun _ _ _ _ _ _ q => q.elim
      · exact fun _ _ _ _ _ _ q => q.elim
  · split
    · rename_i hn
      rw [ev_set]
      exact snb_cons (sns_set O.hL O.nd h hn (fun ds => (RO X Γ O F e ds).1)) hr
    · exact snb_bad
theorem ev_setT {is : List Nat} {ce : CE} {r : CS} : evS G cf W (.setT is ce r) ds = thenS ((vv G (evE G cf ce ds)).bind fun x => setR x.2 is x.1) fun ds => evS G cf W r ds := by
  rw [then_bind]
  rfl
theorem O_blockKind (O : CxOk X L G cf k Γ) (h : Γ.sc.kind = .function) : X.env.blockKind = .function := by
  unfold Env.blockKind
  rw [O.sc, h]
  rfl
theorem sc_tup2 (RO : RcOk L G cf k R) (O : CxOk X L G cf k Γ) {y : Str} {px py p2 : Pos} {k2 : Nat} (hr : ∀ ds, SndB X L F rest ds (evS G cf W r ds)) : SndB X L F (.Assign [.Tuple [.Name x px, .Name y py] kt pt] (.Tuple [a, b] k2 p2) pos :: rest) ds (evS G cf W (cTup2 R Γ x y px py a b r) ds) := by
  unfold cTup2
  split
  · rename_i i j h1 h2
    split
    · rename_i hh
      simp only [Bool.and_eq_true, decide_eq_true_eq, Bool.not_eq_true', Bool.or_eq_true] at hh
      obtain ⟨⟨⟨⟨⟨⟨⟨⟨⟨c1, c2⟩, c3⟩, c4⟩, c5⟩, c6⟩, c7⟩, c8⟩, c9⟩, c10⟩ := hh
      obtain ⟨C, hc0⟩ := O.c c1
      have e1 : X.env.scope.names.lookup x = some .local := by rw [O.sc]; exact c3
      have e2 : X.env.scope.names.lookup y = some .local := by rw [O.sc]; exact c4
      have hw := sw_par2 (kt := kt) (k2 := k2) (pt := pt) (pt2 := p2) (env := X.env) e1 e2 c5 c6 (O_blockKind O c2) c7 c8 c9
      rw [ev_setT]
      refine snb_cons ?_ hr
      cases hf : [a, b].all (foldedForSure 8) with
      | false =>
        rw [hf] at hw
        exact sns_par hc0 O.nd (O.tg h1).ix (O.tg h2).ix c10 e1 e2 hw (fun ds => sc_args RO O)
      | true =>
        rw [hf] at hw
        have ht : cTg Γ (.Tuple [.Name x px, .Name y py] kt pt) = some [i, j] := by simp [cTg, tgNs, h1, h2, c1]
        exact sns_asg O.hL rfl hw rfl (sc_tg O ht) (fun ds => snd_tup (fun ds => sc_args RO O))
    · exact snb_bad
  · exact snb_bad
theorem sc_tup3 (RO : RcOk L G cf k R) (O : CxOk X L G cf k Γ) {y z : Str} {px py pz p2 : Pos} {k2 : Nat} {c : Expr} (hr : ∀ ds, SndB X L F rest ds (evS G cf W r ds)) : SndB X L F (.Assign [.Tuple [.Name x px, .Name y py, .Name z pz] kt pt] (.Tuple [a, b, c] k2 p2) pos :: rest) ds (evS G cf W (cTup3 R Γ x y z px py pz a b c r) ds) := by
  unfold cTup3
  split
  · rename_i i j l h1 h2 h3
    split
    · rename_i hh
      simp only [Bool.and_eq_true, decide_eq_true_eq, Bool.not_eq_true', Bool.or_eq_true] at hh
      obtain ⟨⟨⟨⟨⟨⟨⟨⟨⟨⟨⟨⟨⟨⟨⟨⟨c1, c2⟩, c3⟩, c4⟩, c5⟩, c6⟩, c7⟩, c8⟩, c9⟩, c10⟩, c11⟩, c12⟩, c13⟩, c14⟩, c15⟩, c16⟩, c17⟩ := hh
      obtain ⟨C, hc0⟩ := O.c c1
      have e1 : X.env.scope.names.lookup x = some .local := by rw [O.sc]; exact c3
      have e2 : X.env.scope.names.lookup y = some .local := by rw [O.sc]; exact c4
      have e3 : X.env.scope.names.lookup z = some .local := by rw [O.sc]; exact c5
      have hw := sw_par3 (kt := kt) (k2 := k2) (pt := pt) (pt2 := p2) (env := X.env) e1 e2 e3 c6 c7 c8 c9 c10 (O_blockKind O c2) c11 c12 c13 c14
      rw [ev_setT]
      refine snb_cons ?_ hr
      cases hf : [a, b, c].all (foldedForSure 8) with
      | false =>
        rw [hf] at hw
        exact sns_par3 hc0 O.nd (O.tg h1).ix (O.tg h2).ix (O.tg h3).ix c15 c16 c17 e1 e2 e3 hw (fun ds => sc_args RO O)
      | true =>
        rw [hf] at hw
        have ht : cTg Γ (.Tuple [.Name x px, .Name y py, .Name z pz] kt pt) = some [i, j, l] := by simp [cTg, tgNs, h1, h2, h3, c1]
        exact sns_asg O.hL rfl hw rfl (sc_tg O ht) (fun ds => snd_tup (fun ds => sc_args RO O))
    · exact snb_bad
  · exact snb_bad
theorem sc_tup (RO : RcOk L G cf k R) (O : CxOk X L G cf k Γ) (hr : ∀ ds, SndB X L F rest ds (evS G cf W r ds)) : SndB X L F (.Assign [.Tuple ts kt pt] e pos :: rest) ds (evS G cf W (cTup R Γ ts kt pt e r) ds) := by
  unfold cTup
  split
  · split
    · exact sc_tup2 RO O hr
    · exact sc_tup3 RO O hr
    · exact snb_bad
  · rename_i hne
    split
    · rename_i hn
      split
      · rename_i is ht
        rw [ev_setT]
        exact snb_cons (sns_asg O.hL hn (sw_notup2 hne) rfl (sc_tg O ht) (fun ds => (RO X Γ O F e ds).1)) hr
      · exact snb_bad
    · exact snb_bad
theorem ev_setIx {ce ck : CE} {r : CS} : evS G cf W (.setIx i ck ce r) ds = thenS ((vv G (evE G cf ce ds)).bind fun x => (ownL i x.2).bind fun _ => ((vv G (evE G cf ck x.2)).bind asInt).bind fun y => (ownL i y.2).bind fun l => ixR i x.1 y.1 l y.2) fun ds => evS G cf W r ds := by
  rw [then_bind]
  show Res.bind _ _ = Res.bind _ _
  congr 1
  funext x
  rw [then_bind]
  congr 1
  funext _
  rw [then_bind]
  congr 1
  funext y
  rw [then_bind]
  congr 1
  funext l
  unfold ixR
  cases ixN l.2.length y.1 <;> rfl
theorem ev_fld {n : Nat} {ce : CE} {r : CS} : evS G cf W (.setFld i n ce r) ds = thenS ((vv G (evE G cf ce ds)).bind fun x => (fldR G i n x.1 x.2).bind fun ds' => .ok (.nx, ds')) fun ds => evS G cf W r ds := by
  rw [then_bind]
  show Res.bind _ _ = Res.bind _ _
  congr 1
  funext x
  rw [then_bind]
  rfl
theorem ev_app {ce : CE} {r : CS} : evS G cf W (.app i ce r) ds = thenS ((ownL i ds).bind fun _ => (vv G (evE G cf ce ds)).bind fun x => (ownL i x.2).bind fun l => if l.2.length < sizeLine then .ok (.nx, x.2.set i (.own l.1 (.lst (l.2 ++ [x.1])))) else .no) fun ds => evS G cf W r ds := by
  rw [then_bind]
  show Res.bind _ _ = Res.bind _ _
  congr 1
  funext _
  rw [then_bind]
  congr 1
  funext x
  rw [then_bind]
  congr 1
  funext l
  by_cases h : l.2.length < sizeLine
  · rw [if_pos h, if_pos h]; rfl
  · rw [if_neg h, if_neg h]; rfl
theorem ev_expr {ce : CE} {r : CS} : evS G cf W (.expr ce r) ds = thenS ((evE G cf ce ds).bind fun r => .ok (.nx, r.2)) fun ds => evS G cf W r ds := by
  rw [then_bind]
  rfl
theorem sc_asg (RO : RcOk L G cf k R) (O : CxOk X L G cf k Γ) (hr : ∀ ds, SndB X L F rest ds (evS G cf W r ds)) : SndB X L F (.Assign [tg] e pos :: rest) ds (evS G cf W (cAsg R Γ tg e r) ds) := by
  unfold cAsg
  split
  · split
    · rename_i i h
      exact sc_set RO O (O.tg h) hr
    · exact snb_bad
  · exact sc_tup RO O hr
  · rename_i x p b tp
    split
    · rename_i i hv
      split
      · rename_i hh
        obtain ⟨h1, h2⟩ := Bool.and_eq_true _ _ |>.mp hh
        rw [ev_setIx]
        exact snb_cons (sns_setIx O.hL (O.vr hv) h1 h2 (fun ds => (RO X Γ O F e ds).1) (fun ds => (RO X Γ O F b ds).1)) hr
      · exact snb_bad
    · exact snb_bad
  · rename_i x p f fp
    split
    · rename_i i n hv hn
      split
      · rename_i hh
        obtain ⟨h1, h2⟩ := Bool.and_eq_true _ _ |>.mp hh
        have := O.fd f n hn
        subst this
        rw [ev_fld]
        exact snb_cons (sns_fld O.hL (O.c h1).1 (O.vr hv) h2 (fun ds => (RO X Γ O F e ds).1)) hr
      · exact snb_bad
    · exact snb_bad
  · exact snb_bad
theorem sc_exp (RO : RcOk L G cf k R) (O : CxOk X L G cf k Γ) (hr : ∀ ds, SndB X L F rest ds (evS G cf W r ds)) : SndB X L F (.Expr e pos :: rest) ds (evS G cf W (cExp R Γ e r) ds) := by
  unfold cExp
  split
  · exact snb_cons (r := .ok (.nx, ds)) sns_doc hr
  · rename_i x p1 m apos a cpos
    split
    · rename_i hm
      subst hm
      split
      · rename_i i hv
        split
        · rename_i hh
          simp only [Bool.and_eq_true, Bool.not_eq_true'] at hh
          rw [ev_app]
          exact snb_cons (sns_app O.hL (O.vr hv) hh.1 hh.2 (fun ds => (RO X Γ O F a ds).1)) hr
        · exact snb_bad
      · exact snb_bad
    · split
      · rename_i hm
        subst hm
        split
        · rename_i y py
          split
          · rename_i i j hv hw
            split
            · rename_i hh
              exact snb_cons (sns_ext (O.vr hv) (O.vr hw) hh) hr
            · exact snb_bad
          · exact snb_bad
        · exact snb_bad
      · rw [ev_expr]
        exact snb_cons (sns_expr rfl (fun ds => (RO X Γ O F _ ds).1)) hr
  · split
    · rename_i hn
      rw [ev_expr]
      exact snb_cons (sns_expr hn (fun ds => (RO X Γ O F e ds).1)) hr
    · exact snb_bad
end
end Ev
/-! E21: blocks of the program's text. -/
namespace Ev
open PySem PySem.Spec PyProof.Rows L2 Sg
abbrev Sc := Cn → List Stmt → CS
def cRaise (R : Rc) (Γ : Cn) (x : Str) (e : Expr) (es : List Expr) : CS := if isGl Γ x && Γ.cm then match Γ.gl x with
    | .exo n => match es with
      | [] => if star1 e then .bad else .raise n (.cons (R.e Γ e) .nil)
      | _ => .bad
    | .exb n => match e, es with
      | .Constant (.str m) _ _, [] => .raise n (.cons (.lit (.str m.cps.toList)) .nil)
      | _, _ => .bad
    | .exi n _ => if !star1 e && es.all (fun e => !star1 e) then .raise n (cA R Γ (e :: es)) else .bad
    | _ => .bad
  else .bad
def excNo (Γ : Cn) (x : Str) : Option Nat := if isGl Γ x then match Γ.gl x with
    | .exo n => some n
    | .exb n => some n
    | .exi n _ => some n
    | _ => none
  else none
def Cn.hot (Γ : Cn) : Cn := { Γ with cm := false, lm := false }
/-- e.f, (e.f, e.g) -/
def cAt1 (Γ : Cn) (nm : Str) : Expr → Option Nat
  | .Attribute (.Name y _) f _ => if y == nm then Γ.fd f else none
  | _ => none
def cAts (Γ : Cn) (nm : Str) : List Expr → Option (List Nat)
  | [] => some []
  | e :: es => match cAt1 Γ nm e, cAts Γ nm es with
    | some f, some fs => some (f :: fs)
    | _, _ => none
def cArg (Γ : Cn) (nm : Str) : Expr → Option (List Nat × Bool)
  | .Tuple es _ _ => match cAts Γ nm es with
    | some fs => if Nat.ble fs.length 8 then some (fs, true) else none
    | none => none
  | e => match cAt1 Γ nm e with
    | some f => some ([f], false)
    | none => none
/-- the class and its attributes, the slot of the name, what is said -/
def cHn (Γ : Cn) (x nm rp : Str) (arg : Expr) : Option (Nat × Nat × List Nat × Bool) :=
  if isGl Γ x && isGl Γ rp && (rp == ("repr" : Str)) then match Γ.gl x, Γ.sc.names.lookup nm, vrN Γ nm, cArg Γ nm arg with
    | .exi n fs, some .local, some i, some (gs, t) => if gs.all fun g => fs.any fun f => Nat.beq f g then some (n, i, gs, t) else none
    | _, _, _, _ => none
  else none
def cH (S : Sc) (Γ : Cn) : List ExceptHandler → Option CS
  | [] => some .nil
  | .ExceptHandler (some (.Name x _)) none (b :: suite) _ :: hds => match excNo Γ x, cH S Γ hds with
    | some n, some c => some (.hd n none (S Γ.hot (b :: suite)) c)
    | _, _ => none
  | .ExceptHandler (some (.Name x _)) (some nm) [.Return (some (.BinOp (.Constant (.str m) _ _) .Add (.Call (.Name rp _) [arg] [] _) _)) _] _ :: hds => match cHn Γ x nm rp arg, cH S Γ hds with
    | some (n, i, fs, t), some c => some (.hdR n i m.cps.toList fs t c)
    | _, _ => none
  | _ => none
def cStmt (R : Rc) (S : Sc) (Γ : Cn) (st : Stmt) (r : CS) : CS := match st with
  | .Pass _ => .pass r
  | .Expr e _ => cExp R Γ e r
  | .Assign [tg] e _ => cAsg R Γ tg e r
  | .Return none _ => .ret (.lit .non)
  | .Return (some e) _ => .ret (R.e Γ e)
  | .If c a b _ => .ifs (R.t Γ c) (S Γ a) (S Γ b) r
  | .For tg it body [] _ => if Γ.cm && notSet it then match cTg Γ tg with
      | some is => .fors is (cI R Γ tg it) (S Γ body) r
      | none => .bad
    else .bad
  | .While c body [] _ => .whil (R.t Γ c) (S Γ body) r
  | .Break _ => .brk
  | .Continue _ => .cont
  | .Raise (some (.Call (.Name x _) (e :: es) [] _)) none _ => cRaise R Γ x e es
  | .Try body (h :: hds) [] [] _ => if Γ.cm then match cH S Γ (h :: hds) with
      | some c => .try (S Γ body) c r
      | none => .bad
    else .bad
  | _ => .bad
def cB (R : Rc) : Nat → Sc
  | 0, _, _ => .bad
  | n + 1, Γ, [] => .nil
  | n + 1, Γ, st :: rest => cStmt R (cB R n) Γ st (cB R n Γ rest)
def ScOk (L : Kl) (G : Gm) (cf : CallF) (k W : Nat) (S : Sc) : Prop := ∀ X Γ, CxS X L G cf k Γ → ∀ F sts ds, SndB X L F sts ds (evS G cf W (S Γ sts) ds)
section
variable {X : Cx} {L : Kl} {F : Fm} {G : Gm} {cf : CallF} {k W : Nat} {Γ : Cn} {R : Rc} {S : Sc} {ds : List Cell} {a b e f elt it tg : Expr} {es ts : List Expr} {pos p apos pt pc : Pos} {x m : Str} {scope : Scope} {r : CS} {rest sts : List Stmt} {i kt : Nat} {st : Stmt}
theorem Ctx.tr {pn : List (Addr × Obj)} {xe : Value → Shared → Prop} (C : Ctx X L G cf k) : Ctx (X.tr pn xe) L G cf k :=
  { hL := C.hL, fn := C.fn, bd := C.bd, kp := C.kp, no := C.no, g := C.g, hr := C.hr, nd := C.nd, bn := C.bn, kty := C.kty, kcl := C.kcl, xm := C.xm, is1 := C.is1 }
theorem CxOk.tr {pn : List (Addr × Obj)} {xe : Value → Shared → Prop} (O : CxOk X L G cf k Γ) : CxOk (X.tr pn xe) L G cf k Γ where
  c h := ⟨(O.c h).1.tr, (O.c h).2⟩
  hL := O.hL
  nm := O.nm
  nd := O.nd
  N := O.N
  sc := O.sc
  fc := O.fc
  gl x := GlOk.same (X := X) (v := Γ.gl x) rfl rfl (O.gl x)
  fd := O.fd
  lm h := let ⟨a, b, G1, W, c, d⟩ := O.lm h; ⟨a, ⟨b.ex⟩, G1, W, c, fun f c hc => ⟨(d f c hc).ex⟩⟩
theorem CxS.tr {pn : List (Addr × Obj)} {xe : Value → Shared → Prop} (O : CxS X L G cf k Γ) (po : PassesOwn (model X.prog X.w) X.A X.env xe) : CxS (X.tr pn xe) L G cf k Γ := ⟨O.o.tr, po, O.st, O.fr⟩
theorem CxS.hot {a : Addr} {pn : List (Addr × Obj)} (O : CxS X L G cf k Γ) : CxS (X.suite a pn) L G cf k Γ.hot where
  o :=
    { c := fun h => by cases h
      hL := O.o.hL
      nm := O.o.nm
      nd := O.o.nd
      N := O.o.N
      sc := O.o.sc
      fc := O.o.fc
      gl := fun x => GlOk.same (X := X) (v := Γ.gl x) rfl rfl (O.o.gl x)
      fd := O.o.fd
      lm := fun h => by cases h }
  hp := PassesOwn.never
  st := O.st
  fr := O.fr
theorem ev_raise {n : Nat} {cs : CE} : evS G cf W (.raise n cs) ds = raiseR G cf n (evA G cf cs ds) := rfl
theorem raise_no {n : Nat} {l : Res (List Dt × List Cell)} : ∀ ds', raiseR G cf n l ≠ (Res.ok (SO.nx, ds') : RS) := by
  intro ds' h
  unfold raiseR at h
  cases l with
  | no => cases h
  | er r ds => cases h
  | ok x =>
    have h' : raiseD G cf n x.1 x.2 = Res.ok (SO.nx, ds') := h
    unfold raiseD at h'
    split at h'
    · cases hm : G.mkE n x.1 with
      | none => rw [hm] at h'; cases h'
      | some r => rw [hm] at h'; cases h'
    · split at h' <;> cases h'
    · split at h'
      · split at h' <;> cases h'
      · cases h'
theorem sc_raise (RO : RcOk L G cf k R) (O : CxOk X L G cf k Γ) : SndB X L F (.Raise (some (.Call (.Name x p) (e :: es) [] pc)) none pos :: rest) ds (evS G cf W (cRaise R Γ x e es) ds) := by
  unfold cRaise
  cases hh : isGl Γ x && Γ.cm with
  | false => exact snb_bad
  | true =>
    obtain ⟨h1, h2⟩ := Bool.and_eq_true _ _ |>.mp hh
    obtain ⟨g1, g2⟩ := O.glb h1
    have g := O.gl x
    simp only [if_true]
    split
    · rename_i n e1
      rw [e1] at g
      split
      · cases h3 : star1 e with
        | true => exact snb_bad
        | false =>
          simp only [Bool.false_eq_true, if_false]
          rw [ev_raise]
          exact snb_end (sns_raise O.hL g.2.2 (O.c h2).2 g.1 g.2.1 g1 g2 h3 (fun ds => (RO X Γ O F e ds).1)) raise_no
      · exact snb_bad
    · rename_i n e1
      rw [e1] at g
      split
      · rw [ev_raise]
        exact snb_end (sns_raiseB g.2.2.2 (O.c h2).2 g.2.1 g.2.2.1 g.1 g1 g2) raise_no
      · exact snb_bad
    · rename_i n fs e1
      rw [e1] at g
      split
      · rename_i h3
        obtain ⟨h4, h5⟩ := Bool.and_eq_true _ _ |>.mp h3
        rw [ev_raise]
        exact snb_end (sns_raiseX (O.c h2).1 O.nm (O.c h2).2 g.2.1 g1 g2 (by simpa using h4) h5 (fun ds => sc_args RO O)) raise_no
      · exact snb_bad
    · exact snb_bad
theorem excNo_ok (O : CxOk X L G cf k Γ) {n : Nat} (h : excNo Γ x = some n) : Names X x (L.xv n) := by
  unfold excNo at h
  cases hg : isGl Γ x with
  | false => rw [hg] at h; cases h
  | true =>
    rw [hg] at h
    obtain ⟨g1, g2⟩ := O.glb hg
    have g := O.gl x
    simp only [if_true] at h
    split at h
    · rename_i n' e
      cases h
      rw [e] at g
      obtain ⟨C, B, newId, initId, bmB, e1, e2, e3, e4, e5, e6, e7⟩ := g.1.ex
      exact ⟨g1, g2, .inl (by rw [e1]; exact e4)⟩
    · rename_i n' e
      cases h
      rw [e] at g
      obtain ⟨T, N, I, e1, e2, e3⟩ := g.2.1.ex
      exact ⟨g1, g2, .inr ⟨g.1, by rw [e1]; exact e3, g.2.1.nn⟩⟩
    · rename_i n' fs e
      cases h
      rw [e] at g
      exact ⟨g1, g2, .inl g.1⟩
    · cases h
theorem cAt1_ok (O : CxOk X L G cf k Γ) {nm : Str} {n : Nat} (h : cAt1 Γ nm e = some n) : ∃ pa pb, e = .Attribute (.Name nm pa) (L.nm n) pb := by
  unfold cAt1 at h
  split at h
  · rename_i y pa f pb
    split at h
    · rename_i hy
      have hy' : y = nm := by simpa using hy
      subst hy'
      exact ⟨pa, pb, by rw [O.nm, O.fd _ _ h]⟩
    · cases h
  · cases h
theorem cAts_ok (O : CxOk X L G cf k Γ) {nm : Str} : ∀ {es : List Expr} {fs : List Nat}, cAts Γ nm es = some fs → Attrs L nm es fs
  | [], fs, h => by
    cases h
    exact .nil
  | e :: es, fs, h => by
    unfold cAts at h
    split at h
    · rename_i f r h1 h2
      cases h
      obtain ⟨pa, pb, rfl⟩ := cAt1_ok O h1
      exact .cons (cAts_ok O h2)
    · cases h
theorem cArg_ok (O : CxOk X L G cf k Γ) {nm : Str} {fs : List Nat} {t : Bool} (h : cArg Γ nm e = some (fs, t)) : ArgR L nm e fs t := by
  unfold cArg at h
  split at h
  · split at h
    · rename_i fs' h1
      split at h
      · rename_i h2
        cases h
        exact .tup (cAts_ok O h1) (Nat.le_of_ble_eq_true h2)
      · cases h
    · cases h
  · split at h
    · rename_i f h1
      cases h
      obtain ⟨pa, pb, rfl⟩ := cAt1_ok O h1
      exact .one (.cons .nil) rfl
    · cases h
theorem sc_h (SO : ScOk L G cf k W S) (O : CxS X L G cf k Γ) (C : Ctx X L G cf k) : ∀ {hds : List ExceptHandler} {c : CS}, cH S Γ hds = some c → SndH X L F hds (fun e ds => evH G cf W e c ds)
  | [], c, h => by
    cases h
    exact snh_nil
  | hd :: hds, c, h => by
    unfold cH at h
    split at h
    · rename_i h0
      cases h0
    · rename_i x np b suite hp hds' h0
      cases h0
      split at h
      · rename_i n c' h1 h2
        cases h
        exact snh_cons C (excNo_ok O.o h1) (fun a pn ds => SO _ _ O.hot F (b :: suite) ds) (sc_h SO O C h2)
      · cases h
    · rename_i x np nm m j1 p1 rp p2 arg p3 p4 p5 p6 hds' h0
      cases h0
      split at h
      · rename_i n i fs t c' h1 h2
        cases h
        unfold cHn at h1
        split at h1
        · rename_i hh
          obtain ⟨h3, h4⟩ := Bool.and_eq_true _ _ |>.mp hh
          obtain ⟨h5, h6⟩ := Bool.and_eq_true _ _ |>.mp h3
          obtain ⟨gx1, gx2⟩ := O.o.glb h5
          obtain ⟨gr1, gr2⟩ := O.o.glb h6
          have hrp : rp = ("repr" : Str) := by simpa using h4
          subst hrp
          have g := O.o.gl x
          split at h1
          · rename_i n' fs' i' gs t' e1 e2 e3 e4
            rw [e1] at g
            split at h1
            · rename_i hall
              cases h1
              obtain ⟨v1, v2, v3, v4⟩ := O.o.vr e3
              obtain ⟨C1, x1, x2, x3⟩ := g.2.2.ex
              have hx : KXf X L n fs := ⟨C1, x1, x2, fun f hf => by
                have := List.all_eq_true.mp hall f hf
                obtain ⟨f', hf', hb⟩ := List.any_eq_true.mp this
                rw [← Nat.eq_of_beq_eq_true hb]
                exact x3 f' hf'⟩
              exact snh_r C ⟨gx1, gx2, .inl g.1⟩ hx gr1 v1 (by show X.env.scope.names.lookup nm = _; rw [O.o.sc]; exact e2) v2 v3 v4 (cArg_ok O.o e4) (sc_h SO O C h2)
            · cases h1
          · cases h1
        · cases h1
      · cases h
    · cases h
theorem sc_stmt (RO : RcOk L G cf k R) (SO : ScOk L G cf k W S) (O : CxS X L G cf k Γ) (hr : ∀ ds, SndB X L F rest ds (evS G cf W r ds)) : SndB X L F (st :: rest) ds (evS G cf W (cStmt R S Γ st r) ds) := by
  unfold cStmt
  split
  · exact snb_cons (r := .ok (.nx, ds)) sns_pass hr
  · exact sc_exp RO O.o hr
  · exact sc_asg RO O.o hr
  · exact snb_end (r := .ok (.rt (.val .non), ds)) sns_retN (fun ds' h => by cases h)
  · rename_i e p
    refine snb_end (r := (evE G cf (R.e Γ e) ds).bind fun r => .ok (.rt r.1, r.2)) (sns_ret (fun ds => (RO X Γ O.o F e ds).1)) (fun ds' h => ?_)
    cases he : evE G cf (R.e Γ e) ds <;> rw [he] at h <;> cases h
  · rename_i c a b p
    have e1 : evS G cf W (.ifs (R.t Γ c) (S Γ a) (S Γ b) r) ds = thenS ((tt G (evE G cf (R.t Γ c) ds)).bind fun x => if x.1 then evS G cf W (S Γ a) x.2 else evS G cf W (S Γ b) x.2) fun ds => evS G cf W r ds := by
      rw [then_bind]
      rfl
    rw [e1]
    exact snb_cons (sns_if (ra := fun ds => evS G cf W (S Γ a) ds) (rb := fun ds => evS G cf W (S Γ b) ds) (fun ds => (RO X Γ O.o F c ds).2) (fun ds => SO X Γ O F a ds) (fun ds => SO X Γ O F b ds)) hr
  · rename_i tg it body p
    split
    · rename_i hh
      obtain ⟨h1, h2⟩ := Bool.and_eq_true _ _ |>.mp hh
      split
      · rename_i is ht
        have e1 : evS G cf W (.fors is (cI R Γ tg it) (S Γ body) r) ds = thenS (((vv G (evE G cf (cI R Γ tg it) ds)).bind asItems).bind fun l => forL is (fun ds => evS G cf W (S Γ body) ds) l.1 l.2) fun ds => evS G cf W r ds := by
          rw [then_bind]
          rfl
        rw [e1]
        exact snb_cons (sns_for (O.o.c h1).2 O.hp (notSet_ok h2) (fun ds => sc_iter RO O.o) (sc_tg O.o ht) (fun ds => SO X Γ O F body ds)) hr
      · exact snb_bad
    · exact snb_bad
  · rename_i c body p
    exact snb_cons (r := whileL (fun ds => tt G (evE G cf (R.t Γ c) ds)) (fun ds => evS G cf W (S Γ body) ds) W ds) (sns_while O.hp (fun ds => (RO X Γ O.o F c ds).2) (fun ds => SO X Γ O F body ds)) hr
  · exact snb_end (r := .ok (.bk, ds)) sns_brk (fun ds' h => by cases h)
  · exact snb_end (r := .ok (.ct, ds)) sns_cont (fun ds' h => by cases h)
  · exact sc_raise RO O.o
  · rename_i body h hds p
    split
    · rename_i h1
      split
      · rename_i c hc
        exact snb_cons (r := catchS (evS G cf W (S Γ body) ds) fun e ds' => evH G cf W e c ds') (sns_try O.st O.fr (fun pn xe po ds => SO _ _ (O.tr po) F body ds) (sc_h SO O (O.o.c h1).1 hc)) hr
      · exact snb_bad
    · exact snb_bad
  · exact snb_bad
theorem cB_ok (RO : RcOk L G cf k R) : ∀ n, ScOk L G cf k W (cB R n)
  | 0 => fun X Γ O F sts ds => snb_bad
  | n + 1 => fun X Γ O F sts ds => by
    cases sts with
    | nil => exact snb_nil
    | cons st rest => exact sc_stmt RO (cB_ok RO n) O (fun ds => cB_ok RO n X Γ O F rest ds)
end
end Ev
/-! E22: every def keeps what its code comes to. -/
namespace Ev
open PySem PySem.Spec PyProof.Rows L2 Sg
/-- the name of the lambdas of a def -/
def lamQ (qual : Str) : Str := (qual ++ ".<locals>.") ++ "<lambda>"
/-- a def's text and its code -/
structure DefOk (K : PySem.W.Frag) (L : Kl) (gl : Str → GV) (fd : Str → Option Nat) (f : Nat) (c : Code) : Prop where
  ex : ∃ (x qual : Str) (st : Stmt) (N : List Str) (n m : Nat) (lm : Bool), Fun K x qual st (L.fa f) (L.fd f) ∧ FnScope N (L.ps f) (defScope st) ∧ c.np = (L.ps f).length ∧ c.ns = N.length ∧
    c.body = cB (rc n) m ⟨N, defScope st, fun _ => true, true, lm, gl, fd⟩ (defBody st) ∧
    (lm = true → ∃ co P : Addr, (co, P) ∈ L.cs ∧ (L.fd f).code = .ref co ∧ (P, lamQ qual) ∈ L.tb ∧ ∀ p ∈ L.tb, p.1 = P → p.2 = lamQ qual)
  bd : Binds K (L.fd f) (L.ps f) []
  kp : PySem.W.keepIn K (.ref (L.fa f)) = true
/-- a def that calls what it gets, and its code -/
structure DefLOk (K : PySem.W.Frag) (L : Kl) (gl : Str → GV) (fd : Str → Option Nat) (f : Nat) (c : LCode) : Prop where
  ex : ∃ (x qual a : Str) (st : Stmt) (Ng : List Str) (act : Stmt) (h₀ : ExceptHandler) (hds : List ExceptHandler) (rest : List Stmt) (pt : Pos) (n m : Nat), Fun K x qual st (L.fa f) (L.fd f) ∧ FnScope Ng [a] (defScope st) ∧ Ng[0]? = some a ∧ Vis (defScope st) a ∧
    (a == ("__debug__" : Str)) = false ∧ (a == ("__classdict__" : Str)) = false ∧ c.ns = Ng.length ∧ defBody st = .Try [act] (h₀ :: hds) [] [] pt :: rest ∧ ActS a c.ret act ∧
    cH (cB (rc n) m) ⟨Ng, defScope st, fun _ => true, true, false, gl, fd⟩ (h₀ :: hds) = some c.hds ∧ c.rest = cB (rc n) m ⟨Ng, defScope st, fun _ => true, true, false, gl, fd⟩ rest ∧ L2.Binds K (L.fd f) [a] []
  kp : PySem.W.keepIn K (.ref (L.fa f)) = true
/-- what the top of the program has made -/
structure Mod (K : PySem.W.Frag) (mg : Str → Option Value) (L : Kl) (G : Gm) (gl : Str → GV) (fd : Str → Option Nat) : Prop where
  hL : L.fl = G.fl
  nm : L.nm = G.nm
  bn : ∀ x ∈ bnames, mg x = none
  kty : ∀ c, c < G.nc → KTy K L c
  kcl : ∀ c, c < G.nc → KCls K L c
  xm : ∀ c n b, G.sub c n = some b → PySem.W.exmOne K (L.xv c) (L.xv n) = some b
  is1 : ∀ d cl b, isD G.nc d cl = some b → PySem.W.kitOne K (tyD L d) (clV L cl) = some b
  df : ∀ f c, G.code f = some c → DefOk K L gl fd f c
  dl : ∀ f c, G.lcode f = some c → DefLOk K L gl fd f c
  glo : ∀ (X : Cx) x, X.K = K → X.mg = mg → GlOk X L G x (gl x)
  fdo : ∀ x n, fd x = some n → G.nm n = x
section
variable {cf : CallF} {k : Nat} {P : Program} {w : World} {K : PySem.W.Frag} {mg : Str → Option Value} {base : Heap} {L : Kl} {G : Gm} {gl : Str → GV} {fd : Str → Option Nat} {W : Nat}
theorem callK_no {k f : Nat} (h : G.code f = none) : ∀ bo dvs, callK G W k f bo dvs = .no := by
  intro bo dvs
  cases k with
  | zero => rfl
  | succ k => show (match G.code f with | some c => runC G (callK G W k) W c bo dvs | none => .no) = _; rw [h]
theorem tabX_of {X : Cx} {qual : Str} {co P0 : Addr} (h0 : X.env.qual = qual ++ ".<locals>.") (h1 : X.env.code = .ref co) (t5 : LamX.TabB X.base X.mg co P0) (t3 : (P0, lamQ qual) ∈ L.tb) (t4 : ∀ p ∈ L.tb, p.1 = P0 → p.2 = lamQ qual) : TabX X L := by
  have e : X.env.qual ++ ("<lambda>" : Str) = lamQ qual := by rw [h0]; rfl
  exact ⟨co, P0, t5, h1, by rw [e]; exact t3, by rw [e]; exact t4⟩
theorem IniOk.lam {C : Addr} {B ini : String} {N ps : List Str} {sc : Scope} {body : List Stmt} {e : EIni} {W1 : Nat} (h : IniOk K mg L G C B ini N ps sc body e) : IniOk K mg L (G.lam W1) C B ini N ps sc body e := by
  cases h with
  | one h1 h2 h3 h4 h5 => exact .one h1 h2 h3 h4 h5
  | two h1 h2 h3 h4 h5 h6 h7 => exact .two h1 h2 h3 h4 h5 h6 h7
  | cop h1 h2 h3 h4 h5 h6 h7 h8 h9 h10 h11 h12 h13 h14 h15 h16 h17 h18 h19 h20 h21 h22 h23 h24 => exact .cop h1 h2 h3 h4 h5 h6 h7 h8 h9 h10 h11 h12 h13 h14 h15 h16 h17 h18 h19 h20 h21 h22 h23 h24
theorem GlOk.lam {X : Cx} {x : Str} {v : GV} {W1 : Nat} (h : GlOk X L G x v) : GlOk X L (G.lam W1) x v := by
  cases v with
  | exi n fs => exact ⟨h.1, ⟨by obtain ⟨C, fI, B, nw, ini, tl, fd, st, N, ps, qual, y, ei, e1, e2, e3, e4, e5, e6, e7, e8, e9, e10, e11⟩ := h.2.1.ex; exact ⟨C, fI, B, nw, ini, tl, fd, st, N, ps, qual, y, ei, e1, e2, e3, e4, e5, e6, e7, e8, e9, e10, e11.lam⟩⟩, h.2.2⟩
  | _ => exact h
/-- the callee's own context, for what is handed to it -/
theorem ldef_ok (M : Mod K mg L G gl fd) (hop : HopOk L G cf k) (fnk : ∀ f c, G.code f = some c → FnG P w K mg base (L2.CX P w) k (L.fa f) (L.fd f) (L.ps f) (spC K L (cf f))) (hno : ∀ f, G.code f = none → ∀ bo dvs, cf f bo dvs = .no)
    {X : Cx} (hP : X.prog = P) (hw : X.w = w) (hK : X.K = K) (hm : X.mg = mg) (hb : X.base = base) (g : NoG X.A) (hr : Room (k + 3) X.A) {f : Nat} {c : LCode} (h : G.lcode f = some c) : LDef X L G cf W f c := by
  subst hP
  subst hw
  subst hK
  subst hm
  subst hb
  obtain ⟨⟨x, qual, a, st, Ng, act, h₀, hds, rest, pt, n, m, d1, d2, d3, d4, d5, d6, d7, d8, d9, d10, d11, d12⟩, hkp⟩ := M.dl f c h
  refine ⟨x, qual, a, st, Ng, act, h₀, hds, rest, pt, d1, d2, d3, d4, d5, d6, d7, d12, hkp, d8, d9, fun cdv s H1 S => ?_⟩
  have C : Ctx (cxOf C8.CX0 X.prog X.w X.K X.mg X.base Ng qual (defScope st) (L.fa f) cdv X.A X.stack s H1 C8.E0) L G cf k :=
    { hL := M.hL, fn := fun f c h => fnk f c h, bd := fun f c h => (M.df f c h).bd, kp := fun f c h => (M.df f c h).kp, no := hno, g := g, hr := hr.deeper _, nd := d2.nd, bn := M.bn, kty := M.kty, kcl := M.kcl, xm := M.xm, is1 := M.is1 }
  have O : CxS (cxOf C8.CX0 X.prog X.w X.K X.mg X.base Ng qual (defScope st) (L.fa f) cdv X.A X.stack s H1 C8.E0) L G cf k ⟨Ng, defScope st, fun _ => true, true, false, gl, fd⟩ :=
    ⟨⟨fun _ => ⟨C, rfl⟩, M.hL, M.nm, d2.nd, rfl, rfl, fun _ _ => rfl, fun x => M.glo _ x rfl rfl, M.fdo, fun h => by cases h⟩, passes_of rfl, rfl, rfl⟩
  have SO := cB_ok (W := W) (rc_ok hop n) m
  refine ⟨sc_h SO O C d10, fun ds => ?_⟩
  rw [d11]
  exact SO _ _ O _ rest ds
theorem callK_ok (M : Mod K mg L G gl fd) (hTB : ∀ p ∈ L.cs, LamX.TabB base mg p.1 p.2) (hop0 : ∀ k, HopOk L G (callK (G.lam W) W k) (8 * k)) (hop : ∀ k, HopOk L (G.lam W) (callK (G.lam W) W k) (8 * k)) : ∀ k f c, G.code f = some c → FnG P w K mg base (L2.CX P w) (8 * k) (L.fa f) (L.fd f) (L.ps f) (spC K L (callK (G.lam W) W k f))
  | 0, f, c, h => by
    refine ⟨fun vs H Q E q => ?_, fun A outer s H args us vs Q E _ _ _ _ _ q => ?_⟩
    · obtain ⟨S, T, ws, bo, dvs, _, _, _, _, _, q⟩ := q
      exact q.elim
    · obtain ⟨S, T, ws, bo, dvs, _, _, _, _, _, q⟩ := q
      exact q.elim
  | k + 1, f, c, h => by
    obtain ⟨⟨x, qual, st, N, n, m, lm, Fu, S, h1, h2, h3, hlm⟩, h4, h5⟩ := M.df f c h
    have ih := callK_ok M hTB hop0 hop k
    have e1 : callK (G.lam W) W (k + 1) f = runC (G.lam W) (callK (G.lam W) W k) W c := by
      funext bo dvs
      show (match G.code f with | some c => runC (G.lam W) (callK (G.lam W) W k) W c bo dvs | none => .no) = _
      rw [h]
    rw [e1]
    refine runC_ok (k := 8 * k + 7) Fu S h1 h2 fun cdv A outer s H E F hcdv hG hr ds => ?_
    rw [h3]
    have C : Ctx (cxOf (L2.CX P w) P w K mg base N qual (defScope st) (L.fa f) cdv A outer s H E) L (G.lam W) (callK (G.lam W) W k) (8 * k) :=
      { hL := M.hL, fn := fun f c h => ih f c h, bd := fun f c h => (M.df f c h).bd, kp := fun f c h => (M.df f c h).kp, no := fun f h => callK_no h, g := hG, hr := hr.mono (by omega), nd := S.nd, bn := M.bn, kty := M.kty, kcl := M.kcl, xm := M.xm, is1 := M.is1 }
    refine cB_ok (rc_ok (hop k) n) m _ _ ⟨⟨fun _ => ⟨C, rfl⟩, M.hL, M.nm, S.nd, rfl, rfl, fun _ _ => rfl, fun x => (M.glo _ x rfl rfl).lam, M.fdo, fun hl => ⟨hr.mono (by omega), ?_, G, W, fun _ => rfl, fun f c hc => ?_⟩⟩, passes_of rfl, rfl, rfl⟩ F (defBody st) ds
    · obtain ⟨co, P0, t1, t2, t3, t4⟩ := hlm hl
      have t5 : LamX.TabB base mg co P0 := hTB (co, P0) t1
      have t6 : cdv = .ref co := hcdv.symm.trans t2
      have h0 : (cxOf (L2.CX P w) P w K mg base N qual (defScope st) (L.fa f) cdv A outer s H E).env.qual = qual ++ ".<locals>." := rfl
      exact tabX_of h0 t6 t5 t3 t4
    · exact ldef_ok (P := P) (w := w) (base := base) M (hop0 k) (fun f c h => ih f c h) (fun f h => callK_no h) rfl rfl rfl rfl rfl hG (hr.mono (by omega)) hc
/-- a program without own operators -/
theorem hop_none {cf : CallF} {k : Nat} (ho : ∀ c op, G.ops c op = none) (he : ∀ c, G.eq c = none) : HopOk L G cf k := by
  intro X F C
  refine ⟨?_, ?_⟩
  · intro σ H ds ts tcs op c l d x y f Q h
    rw [ho] at h
    cases h
  · intro σ H ds ts tcs c l l' x y f Z h
    rw [he] at h
    cases h
end
end Ev
/-! E27: the law's own call where lambdas are made: the tables of code objects. -/
namespace Ev
open PySem PySem.Spec PyProof.Rows L2 Sg
/-- the code objects' tables, empty yet, none of them among what is known -/
structure TabsIn (K : PySem.W.Frag) (h : Heap) (cs : List (Addr × Addr)) : Prop where
  emp : ∀ p ∈ cs, h.get? p.2 = some { cls := .none, data := .fields #[] }
  out : ∀ p ∈ cs, K.lookup p.2 = none
  hd : ∀ p ∈ cs, PySem.W.CodeHd h p.1 p.2
section
variable {P : Program} {w : World} {K : PySem.W.Frag} {mg mb : Str → Option Value} {k : Nat} {fa a : Addr} {cs : List (Addr × Addr)}
  {fd : FuncData} {x : Str} {sp : Sp} {s₁ : Shared} {vs : List Value} {ns : List Int}
theorem law_fromT (KX : K.In s₁.heap) (hns : s₁.heap.Ns mainGlobals mg) (hb : s₁.heap.Ns builtinsNs mb)
    (hbb : ∀ x : Str, x ≠ "__name__" → mb x = bootBuiltins x) (hlim : s₁.heap.NoLimit) (hg : s₁.gens = #[])
    (hbm : ∃ (bm : Addr) (ob : Obj), mg "__builtins__" = some (.ref bm) ∧ bm ≠ builtinsNs ∧ s₁.heap.get? bm = some ob ∧ ob.cls = .type "module" ∧ ob.dict = some builtinsNs ∧ ob.data = .plain)
    (T : TabsIn K s₁.heap cs) (ha : s₁.heap.get? a = some { cls := .type "list", data := .seq vs.toArray }) (hr : Room k callerA)
    (F : ∀ base : Heap, K.In base → base.Ns mainGlobals mg → (∀ p ∈ cs, LamX.TabB base mg p.1 p.2) → FnG P w K mg base CX0 k fa fd [x] sp)
    (hbind : ∀ (s : Shared) (u : Value), BindsTo s fd ⟨[u], []⟩ [(x, u)])
    (H : Hp) (hO : ∀ b o, H b = some o → b ∈ cs.map (·.2) ∨ ∃ ob xs, o = .frz ob (.lst xs)) (hT : ∀ p ∈ cs, H p.2 = some (.tbl #[])) (hok : HOk P w H s₁.heap) (hA : ∀ b, H b ≠ none → b = a ∨ b ∈ cs.map (·.2))
    (hK : H a ≠ none → K.lookup a = none)
    (hsp : sp [.ref a] H (fun v _ => v = .bl true) fun _ _ _ => False) :
    codeAny (model P w) callerA (.call (.ref fa) ⟨[.ref a], []⟩)
      (fun r s' => r = .ok (.ret (.bool true)) ∧ OldK s₁.heap s'.heap ∧ s'.os = s₁.os ∧ AllBare s'.gens) s₁ := by
  -- what is neither a list nor an empty record is not tracked
  have free : ∀ {b : Addr} {o : Obj}, s₁.heap.get? b = some o → (∀ vs n, o.data ≠ .seq vs n) → o.data ≠ .fields #[] → H b = none := by
    intro b o e n1 n2
    cases q : H b with
    | none => rfl
    | some u =>
      rcases hA b (by rw [q]; simp) with z | z
      · rw [z, ha] at e
        cases e
        exact absurd rfl (n1 _ _)
      · obtain ⟨p, hp, rfl⟩ := List.mem_map.mp z
        rw [T.emp p hp] at e
        cases e
        exact absurd rfl n2
  have nsK : ∀ {b : Addr} {m : Str → Option Value}, s₁.heap.Ns b m → (hidT s₁.heap H).Ns b m := by
    rintro b m ⟨o, es, ep, e, d, r⟩
    exact ⟨o, es, ep, hidT_get e (free e (fun _ _ z => by rw [d] at z; cases z) fun z => by rw [d] at z; cases z), d, r⟩
  have hKb : K.In (hidT s₁.heap H) := by
    intro b o e
    refine hidT_get (KX b o e) ?_
    cases q : H b with
    | none => rfl
    | some u =>
      rcases hA b (by rw [q]; simp) with z | z
      · rw [z] at q e
        rw [hK (by rw [q]; simp)] at e
        cases e
      · obtain ⟨p, hp, rfl⟩ := List.mem_map.mp z
        rw [T.out p hp] at e
        cases e
  have nG : ∀ {b : Addr} {o : Obj}, s₁.heap.get? b = some o → (∀ es ep, o.data ≠ .dict es ep) → b ≠ mainGlobals := by
    intro b o e n z
    obtain ⟨o', es, ep, e', d, _⟩ := hns
    rw [z, e'] at e
    cases e
    exact n _ _ d
  have TB : ∀ p ∈ cs, LamX.TabB (hidT s₁.heap H) mg p.1 p.2 := by
    intro p hp
    obtain ⟨o, us, file, tf, flags, tg, inF, text, tt, e1, r1, r2, r3, rest⟩ := T.hd p hp
    obtain ⟨bm, ob, b1, b2, b3, b4, b5, b6⟩ := hbm
    refine ⟨⟨o, us, file, tf, flags, tg, inF, text, tt, hidT_get e1 (free e1 (fun _ _ z => by rw [r2] at z; cases z) fun z => ?_), r1, r2, r3, rest⟩,
      ⟨bm, ob, b1, b2, nG b3 (fun _ _ z => by rw [b6] at z; cases z), fun z => ?_, hidT_get b3 (free b3 (fun _ _ z => by rw [b6] at z; cases z) fun z => by rw [b6] at z; cases z), b4, b5, b6⟩, fun z => ?_⟩
    · rw [r2] at z
      cases z
      simp at r3
    · rw [z, T.emp p hp] at b3
      cases b3
      cases b6
    · exact nG (T.emp p hp) (fun _ _ z => by cases z) z.symm
  obtain ⟨mc, h1, h2⟩ := hlim
  have e0 : Env0 P w K mg (hidT s₁.heap H) callerA [] s₁ H :=
    ⟨rfl, ⟨hKb, nsK hns, ⟨mb, nsK hb, hbb⟩, ⟨mc, nsK h1, h2⟩⟩, fun b o e => of_hidT e,
      Nat.le_of_eq (hidT_size _ _), trivial, (fun b hb => nomatch (show b ∈ ([] : List Addr) from hb)), hok, .of_eq hg⟩
  have run := (F _ hKb (nsK hns) TB).run callerA [] s₁ H ⟨[.ref a], []⟩ [.ref a] [.ref a] _ _ rfl hr e0
    (hbind s₁ (.ref a)) (.cons rfl .nil) hsp
  refine codeAny_mono run fun res s' h => ?_
  match res, h with
  | .ok (.ret u), h =>
    obtain ⟨v, H', os, bare, un, hok', r', rfl⟩ := h
    obtain rfl : u = Value.bool true := r'
    have was : ∀ b o, s₁.heap.get? b = some o → s'.heap.get? b = some o ∨ ∃ p ∈ cs, b = p.2 ∧ ∃ more : Array Value, s'.heap.get? b = some { cls := .none, data := .fields more } := by
      intro b o e
      cases q : H b with
      | none => exact .inl (un.keep b o e q (by rintro z; cases z) (by simp))
      | some u =>
        rcases hO b u q with z | ⟨ob, xs, z⟩
        · obtain ⟨p, hp, rfl⟩ := List.mem_map.mp z
          obtain ⟨more, y⟩ := un.tbls p.2 #[] (hT p hp)
          exact .inr ⟨p, hp, rfl, _, hok' p.2 _ y⟩
        · rw [z] at q
          obtain ⟨e1, _⟩ := hok b _ q
          obtain ⟨e2, _⟩ := hok' b _ (un.frzs b ob _ q)
          rw [e] at e1
          cases e1
          exact .inl e2
    refine ⟨rfl, ⟨fun b o e => ?_, fun b o e => ?_⟩, os, bare⟩
    · rcases was b o e with z | ⟨p, hp, rfl, more, z⟩
      · exact .inl z
      · rw [T.emp p hp] at e
        cases e
        exact .inr (.inl ⟨((T.hd p hp).tab (T.emp p hp)).isCodeTable, rfl, #[], more, rfl, by rw [Array.empty_append]; exact z⟩)
    · rcases was b o e with z | ⟨p, hp, rfl, more, z⟩
      · exact ⟨_, z⟩
      · exact ⟨_, z⟩
theorem law_callT (KX : K.In s₁.heap) (hns : s₁.heap.Ns mainGlobals mg) (hb : s₁.heap.Ns builtinsNs mb)
    (hbb : ∀ x : Str, x ≠ "__name__" → mb x = bootBuiltins x) (hlim : s₁.heap.NoLimit) (hg : s₁.gens = #[])
    (hbm : ∃ (bm : Addr) (ob : Obj), mg "__builtins__" = some (.ref bm) ∧ bm ≠ builtinsNs ∧ s₁.heap.get? bm = some ob ∧ ob.cls = .type "module" ∧ ob.dict = some builtinsNs ∧ ob.data = .plain)
    (T : TabsIn K s₁.heap cs) (ha : s₁.heap.get? a = some { cls := .type "list", data := .seq vs.toArray }) (hi : IntsAre vs ns)
    (hl : ns.length ≤ sizeLine) (hr : Room k callerA)
    (F : ∀ base : Heap, K.In base → base.Ns mainGlobals mg → (∀ p ∈ cs, LamX.TabB base mg p.1 p.2) → FnG P w K mg base CX0 k fa fd [x] sp)
    (hbind : ∀ (s : Shared) (u : Value), BindsTo s fd ⟨[u], []⟩ [(x, u)])
    (hsp : ∀ H : Hp, (∀ p ∈ cs, H p.2 = some (.tbl #[])) → SqL K H a (ns.map V.int) → sp [.ref a] H (fun v _ => v = .bl true) fun _ _ _ => False) :
    codeAny (model P w) callerA (.call (.ref fa) ⟨[.ref a], []⟩)
      (fun r s' => r = .ok (.ret (.bool true)) ∧ OldK s₁.heap s'.heap ∧ s'.os = s₁.os ∧ AllBare s'.gens) s₁ := by
  have rv := vals_ints hi
  have go := fun H hO hT hS hok hA hK => law_fromT KX hns hb hbb hlim hg hbm T ha hr F hbind H hO hT hok hA hK (hsp H hT hS)
  let ob : Obj := { cls := .type "list", data := .seq vs.toArray }
  have aT : ∀ p ∈ cs, p.2 ≠ a := fun p hp z => by
    have e := T.emp p hp
    rw [z, ha] at e
    cases e
  let H0 : Hp := fun b => if b ∈ cs.map (·.2) then some (.tbl #[]) else none
  have t0 : ∀ p ∈ cs, H0 p.2 = some (.tbl #[]) := fun p hp => if_pos (List.mem_map.mpr ⟨p, hp, rfl⟩)
  have n0 : H0 a = none := if_neg fun z => by
    obtain ⟨p, hp, e⟩ := List.mem_map.mp z
    exact aT p hp e
  have i0 : ∀ b o, H0 b = some o → b ∈ cs.map (·.2) ∧ o = .tbl #[] := fun b o e => by
    by_cases hb : b ∈ cs.map (·.2)
    · exact ⟨hb, (Option.some.inj ((if_pos hb).symm.trans e)).symm⟩
    · cases (if_neg hb).symm.trans e
  have ok0 : ∀ (H : Hp) b o, H0 b = some o → ObjOk P w H s₁.heap b o := fun H b o e => by
    obtain ⟨hb, rfl⟩ := i0 b o e
    obtain ⟨p, hp, rfl⟩ := List.mem_map.mp hb
    exact T.emp p hp
  cases hk : K.lookup a with
  | some o =>
    have e := KX a o hk
    rw [ha] at e
    cases e
    exact go H0 (fun b o e => .inl (i0 b o e).1) t0
      (.inr ⟨_, vs.toArray, _, hk, rfl, rfl, rfl, by rw [List.size_toArray, hi.length]; exact hl, by simpa using rv⟩)
      (fun b u z => ok0 _ b u z) (fun b z => .inr (by
        cases e : H0 b with
        | none => exact absurd e z
        | some u => exact (i0 b u e).1)) (fun z => absurd n0 z)
  | none =>
    let H : Hp := upd H0 a (.frz ob (.lst (ns.map V.int)))
    have at_a : H a = some (.frz ob (.lst (ns.map V.int))) := upd_same
    refine go H (fun b o e => ?_) (fun p hp => by rw [show H p.2 = H0 p.2 from upd_ne (aT p hp)]; exact t0 p hp) (.inl (.inr ⟨ob, at_a⟩)) (fun b u z => ?_) (fun b z => ?_) (fun _ => hk)
    · by_cases hb : b = a
      · subst hb
        exact .inr ⟨ob, _, (Option.some.inj (at_a.symm.trans e)).symm⟩
      · exact .inl (i0 b o ((upd_ne hb).symm.trans e)).1
    · by_cases hb : b = a
      · subst hb
        cases at_a.symm.trans z
        exact ⟨ha, by rw [List.length_map]; exact hl, vs, _, rv, ha⟩
      · exact ok0 _ b u ((upd_ne hb).symm.trans z)
    · by_cases hb : b = a
      · exact .inl hb
      · refine .inr ?_
        cases e : H0 b with
        | none => exact absurd ((upd_ne hb).trans e) z
        | some u => exact (i0 b u e).1
end
end Ev
/-! E23: a law's end. -/
namespace Ev
open PySem PySem.Spec PyProof.Rows L2 Sg
theorem fn_cx0 {P : Program} {w : World} {K : PySem.W.Frag} {mg : Str → Option Value} {base : Heap} {k : Nat} {f : Addr} {fd : FuncData} {ps : List Str} {sp : Sp} (F : FnG P w K mg base (L2.CX P w) k f fd ps sp) :
    FnG P w K mg base CX0 k f fd ps (fun vs H Q _ => sp vs H Q fun _ _ _ => False) where
  len := fun vs H Q E h => F.len vs H Q _ h
  run := fun A outer s H args us vs Q E g hr e hb hv hs => by
    refine codeAny_mono (F.run A outer s H args us vs Q _ g hr e hb hv hs) fun res s' hq => ?_
    match res, hq with
    | .ok (.ret u), hq => exact hq
    | .error e, hq =>
      obtain ⟨a, B, H', cls, d, _, _, _, _, _, _, _, z⟩ := hq
      exact z.elim
def Dt.ints (ns : List Int) : Dt := .lst (ns.map Dt.int)
/-- the law answers True at the script -/
theorem sp_law {K : PySem.W.Frag} {L : Kl} {out : Option OD → List Dt → CRes} {H : Hp} {a : Addr} {ns : List Int} {Q : VK} (ht : Tbs L.tb H) (hS : SqL K H a (ns.map V.int)) (h : out none [Dt.ints ns] = .ok (.val (.bl true)) none) (hq : ∀ H', Q (.bl true) H') :
    spC K L out [.ref a] H Q fun _ _ _ => False := by
  refine ⟨[], none, [.ref a], none, [Dt.ints ns], rfl, (fun p hp => nomatch hp), ht, trivial, ?_, ?_⟩
  · rw [show hide H [] = H from hide_nil]
    exact .cons (.lst hS (Ims.ofInts ns)) .nil
  · rw [h]
    intro v H' _ r
    obtain ⟨-, im⟩ := r
    cases im with
    | bl b => exact hq H'
/-- what a law's own row says of the tables of the program's defs -/
def OwnTabs (q : Program) (K : PySem.W.Frag) (mg : Str → Option Value) (h : Heap) : Prop := ∀ nm : Str, ((recsOf q).any fun e => e.name == nm) = true → ∀ a : Addr, mg nm = some (.ref a) → LamX.OwnTab K a h
theorem walkGT {l : PySem.W.OpenLaw} {n k : Nat} {q : Program} {loose : List Str} {XP : (Str → Option Value) → Heap → Prop}
    {YP : World → Heap → Prop} {d : DefRec} {K : Params → PySem.W.Frag} {x : Str}
    (hn : l.most = some n) (hn2 : n ≤ sizeLine) (hdf : d.params.defaults = []) (hr : Room k callerA)
    (hY : ∀ (w : World) (h : Heap), YP w h → (K w.params).In h)
    (F : ∀ (w : World) (mg : Str → Option Value) (fa : Addr) (h : Heap), (K w.params).In h → h.Ns mainGlobals mg → mg d.name = some (.ref fa) → OwnTabs q (K w.params) mg h →
      ∃ (cs : List (Addr × Addr)) (fd : FuncData) (sp : Sp), TabsIn (K w.params) h cs ∧ (∀ (s : Shared) (u : Value), BindsTo s fd ⟨[u], []⟩ [(x, u)]) ∧
        (∀ (H : Hp) (a : Addr) (ns : List Int), ns.length ≤ n → (∀ p ∈ cs, H p.2 = some (.tbl #[])) → SqL (K w.params) H a (ns.map V.int) → sp [.ref a] H (fun v _ => v = .bl true) fun _ _ _ => False) ∧
        ∀ base : Heap, (K w.params).In base → base.Ns mainGlobals mg → (∀ p ∈ cs, LamX.TabB base mg p.1 p.2) → FnG l.prog w (K w.params) mg base CX0 k fa fd [x] sp) :
    PySem.W.WalkO q loose XP YP l.row.toRowW d [] (fun f vs => PySem.call f vs) := by
  refine Att.attach_call hn hdf ?_
  intro w s₀ s₁ mg mb fa o pm cd doc a vs ns G Y ho hd hcd hmg hobj hints hlen hg
  have KX := hY w _ Y
  have own : OwnTabs q (K w.params) mg s₁.heap := fun nm hrec fa' hmg' c P o1 fd1 e dd vs1 sl k1 k2 k3 k4 k5 => by
    obtain ⟨dL, hm, hn1⟩ := List.any_eq_true.mp hrec
    have hn2 : dL.name = nm := beq_iff_eq.mp hn1
    obtain ⟨a', o', fd', c', P', h1, h2, h3, h4, h5, h6⟩ := G.T.tab dL hm
    rw [hn2, hmg'] at h1
    cases h1
    have g1 := KX _ _ k1
    rw [g1] at h2
    cases h2
    rw [k2] at h3
    cases h3
    rw [k3] at h4
    cases h4
    obtain ⟨⟨oc, vc, e1, _, e3, e4⟩, hP⟩ := h6
    have g2 := KX _ _ k4
    rw [g2] at e1
    cases e1
    cases e3
    rw [k5] at e4
    cases e4
    exact hP
  obtain ⟨cs, fd, sp, hT, hb, hsp, hF⟩ := F w mg fa _ KX G.T.g hmg own
  exact law_callT KX G.T.g G.T.b G.T.builtins G.T.nolimit hg G.T.bmain hT hobj hints (Nat.le_trans hlen hn2) hr hF hb fun H hH hS => hsp H a ns hlen hH hS
theorem law_end {l : PySem.W.OpenLaw} {n k W : Nat} {q : Program} {loose : List Str} {XP : (Str → Option Value) → Heap → Prop} {YP : World → Heap → Prop} {d : DefRec} {K : Params → PySem.W.Frag} {G : Gm} {gl : Str → GV} {fdn : Str → Option Nat} {f : Nat}
    (hn : l.most = some n) (hn2 : n ≤ sizeLine) (hdf : d.params.defaults = []) (hr : Room (8 * k) callerA)
    (hY : ∀ (w : World) (h : Heap), YP w h → (K w.params).In h) (hop0 : ∀ L k, L.fl = G.fl → HopOk L G (callK (G.lam W) W k) (8 * k)) (hop : ∀ L k, L.fl = G.fl → HopOk L (G.lam W) (callK (G.lam W) W k) (8 * k)) (hf : (G.code f).isSome = true)
    (M : ∀ (w : World) (mg : Str → Option Value) (fa : Addr) (h : Heap), (K w.params).In h → h.Ns mainGlobals mg → mg d.name = some (.ref fa) → OwnTabs q (K w.params) mg h →
      ∃ L : Kl, Mod (K w.params) mg L G gl fdn ∧ TabsIn (K w.params) h L.cs ∧ (∀ p ∈ L.tb, ∃ r ∈ L.cs, r.2 = p.1) ∧ L.fa f = fa ∧ L.ps f = [("script" : Str)] ∧ ∀ (s : Shared) (u : Value), BindsTo s (L.fd f) ⟨[u], []⟩ [("script", u)])
    (law : ∀ ns : List Int, ns.length ≤ n → callK (G.lam W) W k f none [Dt.ints ns] = .ok (.val (.bl true)) none) :
    PySem.W.WalkO q loose XP YP l.row.toRowW d [] (fun f vs => PySem.call f vs) := by
  obtain ⟨c, hc⟩ := Option.isSome_iff_exists.mp hf
  refine walkGT (n := n) (k := 8 * k) (x := "script") hn hn2 hdf hr hY fun w mg fa h hK hN hm own => ?_
  obtain ⟨L, m, e0, e4, e1, e2, e3⟩ := M w mg fa h hK hN hm own
  subst e1
  refine ⟨L.cs, L.fd f, fun vs H Q _ => ∃ (ns : List Int) (a : Addr), vs = [.ref a] ∧ Tbs L.tb H ∧ SqL (K w.params) H a (ns.map V.int) ∧ ns.length ≤ n ∧ ∀ H', Q (.bl true) H', e0, e3, ?_, fun base h1 h2 hTB => ?_⟩
  · intro H a ns hl hT hS
    refine ⟨ns, a, rfl, fun p hp => ?_, hS, hl, fun _ => rfl⟩
    obtain ⟨r, hr, er⟩ := e4 p hp
    exact LamX.TabS.nil (by rw [← er]; exact hT r hr)
  · have F := fn_cx0 (callK_ok (P := l.prog) (w := w) (base := base) (W := W) m hTB (fun k => hop0 L k m.hL) (fun k => hop L k m.hL) k f c hc)
    rw [e2] at F
    refine F.imp fun vs H Q E h => ?_
    obtain ⟨ns, a, rfl, h0, h1, h2, h3⟩ := h
    exact sp_law h0 h1 (law ns h2) h3
/-- isinstance of built-in types -/
theorem is1_bt {K : PySem.W.Frag} {L : Kl} : ∀ d cl b, isD 0 d cl = some b → PySem.W.kitOne K (tyD L d) (clV L cl) = some b := by
  intro d cl b h
  cases cl with
  | own c =>
    cases d <;> first | (simp [isD] at h; done) | cases h
  | bt t =>
    cases d with
    | con n => cases h
    | obj c l => simp [isD] at h
    | _ => cases t <;> (cases h; rfl)
end Ev
/-! E24: lists of facts, one by one. -/
namespace Ev
open PySem PySem.Spec PyProof.Rows L2 Sg
theorem mem_nil {α : Type} {P : α → Prop} : ∀ x ∈ ([] : List α), P x := fun _ h => nomatch h
theorem mem_cons {α : Type} {P : α → Prop} {a : α} {l : List α} (h : P a) (r : ∀ x ∈ l, P x) : ∀ x ∈ a :: l, P x := fun x hx => by
  rcases List.mem_cons.mp hx with rfl | hx
  · exact h
  · exact r x hx
section
variable {X : Cx} {L : Kl} {G : Gm} {tbl : List (Str × GV)}
theorem glo_nil : ∀ p ∈ ([] : List (Str × GV)), GlOk X L G p.1 p.2 := fun _ h => nomatch h
theorem glo_cons {x : Str} {v : GV} (h : GlOk X L G x v) (r : ∀ p ∈ tbl, GlOk X L G p.1 p.2) : ∀ p ∈ (x, v) :: tbl, GlOk X L G p.1 p.2 := mem_cons h r
theorem glo_of (r : ∀ p ∈ tbl, GlOk X L G p.1 p.2) {x : Str} : GlOk X L G x ((tbl.lookup x).getD .other) := by
  cases h : tbl.lookup x with
  | none => trivial
  | some v =>
    have : (x, v) ∈ tbl := by
      clear r
      induction tbl with
      | nil => simp at h
      | cons p t ih =>
        obtain ⟨y, u⟩ := p
        rw [List.lookup_cons] at h
        cases e : x == y with
        | true =>
          rw [e] at h
          have hx : x = y := eq_of_beq e
          have hu : u = v := by simpa using h
          rw [hx, hu]
          exact List.mem_cons_self
        | false =>
          rw [e] at h
          exact List.mem_cons_of_mem _ (ih h)
    exact r _ this
end
end Ev
/-! E26: reckoning with the evaluator. -/
namespace Ev
open PySem
section
variable {G : Gm} {W k : Nat} {cf : CallF}
/-- what a def's end makes of its body -/
def finC (c : Code) : RS → CRes
  | .ok (.nx, ds) => match backO c ds with
    | some o => .ok (.val .non) o
    | none => .no
  | .ok (.rt rv, ds) => match retR rv ds, backO c ds with
    | some r, some o => .ok r o
    | _, _ => .no
  | .er r ds => match backO c ds with
    | some o => .er r o
    | none => .no
  | _ => .no
theorem callK_eq {f : Nat} {c : Code} {b : CS} {bo : Option OD} {dvs : List Dt} (hc : G.code f = some c) (hb : c.body = b) (h : bo.isSome = c.bor ∧ bo.toList.length + dvs.length = c.np ∧ c.np ≤ c.ns) :
    callK G W (k + 1) f bo dvs = finC c (evS G (callK G W k) W b (cells0 c bo dvs)) := by
  show (match G.code f with | some c => runC G (callK G W k) W c bo dvs | none => .no) = _
  rw [hc]
  show runC G (callK G W k) W c bo dvs = _
  unfold runC
  rw [if_pos h, hb]
  cases evS G (callK G W k) W b (cells0 c bo dvs) with
  | no => rfl
  | er r ds => rfl
  | ok x =>
    obtain ⟨so, ds⟩ := x
    cases so <;> rfl
theorem finC_bor {c c2 : Code} (h : c.bor = c2.bor) : finC c = finC c2 := by
  funext r
  have hb : backO c = backO c2 := by
    funext ds
    unfold backO
    rw [h]
  unfold finC
  rw [hb]
def fin (b : Bool) : RS → CRes := finC ⟨0, 0, b, .nil⟩
/-- a call of a def that is handed nothing to change -/
theorem call0 {f : Nat} {c : Code} {b : CS} {dvs : List Dt} {m : Nat} (hc : G.code f = some c) (hb : c.body = b) (h1 : c.bor = false) (h2 : c.np = dvs.length) (h3 : c.ns = dvs.length + m) :
    callK G W (k + 1) f none dvs = fin false (evS G (callK G W k) W b (dvs.map Cell.im ++ List.replicate m Cell.free)) := by
  rw [callK_eq hc hb ⟨by rw [h1]; rfl, by rw [h2]; simp, by omega⟩, finC_bor (c2 := ⟨0, 0, false, .nil⟩) h1]
  unfold fin cells0
  rw [h2, h3, Nat.add_sub_cancel_left]
  rfl
theorem call1 {f : Nat} {c : Code} {b : CS} {o : OD} {dvs : List Dt} {m : Nat} (hc : G.code f = some c) (hb : c.body = b) (h1 : c.bor = true) (h2 : c.np = dvs.length + 1) (h3 : c.ns = dvs.length + 1 + m) :
    callK G W (k + 1) f (some o) dvs = fin true (evS G (callK G W k) W b (.own true o :: (dvs.map Cell.im ++ List.replicate m Cell.free))) := by
  rw [callK_eq hc hb ⟨by rw [h1]; rfl, by rw [h2]; simp; omega, by omega⟩, finC_bor (c2 := ⟨0, 0, true, .nil⟩) h1]
  unfold fin cells0
  rw [h2, h3, Nat.add_sub_cancel_left]
  rfl
theorem fin_nx {ds : List Cell} : fin false (.ok (.nx, ds)) = .ok (.val .non) none := rfl
theorem fin_val {d : Dt} {ds : List Cell} : fin false (.ok (.rt (.val d), ds)) = .ok (.val d) none := rfl
theorem fin_new {o : OD} {ds : List Cell} : fin false (.ok (.rt (.new o), ds)) = .ok (.new o) none := rfl
/-- a for whose turns do one step each -/
theorem forL_fold {S : Type} {tg : List Nat} {f : List Cell → RS} (enc : S → List Cell) (step : S → Dt → S) : ∀ {l : List Dt} {s : S}, (∀ s d, d ∈ l → ∃ ds1, setTgB (enc s) tg d = some ds1 ∧ f ds1 = .ok (.nx, enc (step s d))) →
    forL tg f l (enc s) = .ok (.nx, enc (l.foldl step s))
  | [], s, _ => rfl
  | d :: l, s, h => by
    obtain ⟨ds1, h1, h2⟩ := h s d List.mem_cons_self
    show (match setTgB (enc s) tg d with
      | none => Res.no
      | some ds1 => (f ds1).bind fun x => match x.1 with
        | .nx => forL tg f l x.2
        | .ct => forL tg f l x.2
        | .bk => .ok (.nx, x.2)
        | .rt r => .ok (.rt r, x.2)) = _
    rw [h1]
    simp only [h2]
    exact forL_fold enc step fun s d hd => h s d (List.mem_cons_of_mem _ hd)
theorem whileL_go {c : List Cell → Res (Bool × List Cell)} {f : List Cell → RS} {n : Nat} {ds ds1 ds2 : List Cell} (h1 : c ds = .ok (true, ds1)) (h2 : f ds1 = .ok (.nx, ds2)) : whileL c f (n + 1) ds = whileL c f n ds2 := by
  show (c ds).bind _ = _
  rw [h1]
  show Res.bind (f ds1) _ = _
  rw [h2]
  rfl
theorem whileL_end {c : List Cell → Res (Bool × List Cell)} {f : List Cell → RS} {n : Nat} {ds ds1 : List Cell} (h1 : c ds = .ok (false, ds1)) : whileL c f (n + 1) ds = .ok (.nx, ds1) := by
  show (c ds).bind _ = _
  rw [h1]
  rfl
/-- a comprehension whose turns leave the cells -/
theorem compL_map {tg : List Nat} {f : List Cell → Res (Option Dt × List Cell)} (g : Dt → Option Dt) {ds : List Cell} : ∀ {l acc : List Dt}, (∀ d ∈ l, ∃ ds1, setTg ds tg d = some ds1 ∧ parked ds1 tg = ds ∧ f ds1 = .ok (g d, ds1)) →
    compL tg f l acc ds = .ok (acc ++ l.filterMap g, ds)
  | [], acc, _ => by simp [compL]
  | d :: l, acc, h => by
    obtain ⟨ds1, h1, h2, h3⟩ := h d List.mem_cons_self
    have ih := fun acc => compL_map g (f := f) (l := l) (acc := acc) fun d hd => h d (List.mem_cons_of_mem _ hd)
    show (match setTg ds tg d with
      | none => Res.no
      | some ds1 => match f ds1 with
        | .ok (some y, ds2) => compL tg f l (acc ++ [y]) (parked ds2 tg)
        | .ok (none, ds2) => compL tg f l acc (parked ds2 tg)
        | _ => .no) = _
    rw [h1]
    simp only [h3]
    cases hg : g d with
    | none =>
      simp only [h2]
      rw [ih, List.filterMap_cons, hg]
    | some y =>
      simp only [h2]
      rw [ih, List.filterMap_cons, hg, List.append_assoc]
      rfl
theorem unparked_self {ds : List Cell} : ∀ {is : List Nat}, unparked ds ds is = ds
  | [] => rfl
  | i :: is => by
    unfold unparked
    rw [unparked_self]
    cases h : ds[i]? with
    | none => rfl
    | some c =>
      show ds.set i c = ds
      apply List.ext_getElem?
      intro j
      by_cases hj : i = j
      · subst hj
        rw [List.getElem?_set_self (List.getElem?_eq_some_iff.mp h).1, h]
      · rw [List.getElem?_set_ne hj]
/-- a for whose cells are known by the turn -/
theorem forL_idx {tg : List Nat} {f : List Cell → RS} (enc : Nat → List Cell) : ∀ {l : List Dt} {j : Nat}, (∀ i d, l[i]? = some d → ∃ ds1, setTgB (enc (j + i)) tg d = some ds1 ∧ f ds1 = .ok (.nx, enc (j + i + 1))) →
    forL tg f l (enc j) = .ok (.nx, enc (j + l.length))
  | [], j, _ => rfl
  | d :: l, j, h => by
    obtain ⟨ds1, h1, h2⟩ := h 0 d rfl
    have h1 : setTgB (enc j) tg d = some ds1 := h1
    have h2 : f ds1 = .ok (.nx, enc (j + 1)) := h2
    show (match setTgB (enc j) tg d with
      | none => Res.no
      | some ds1 => (f ds1).bind fun x => match x.1 with
        | .nx => forL tg f l x.2
        | .ct => forL tg f l x.2
        | .bk => .ok (.nx, x.2)
        | .rt r => .ok (.rt r, x.2)) = _
    rw [h1]
    simp only [h2]
    have ih := forL_idx (f := f) (tg := tg) enc (l := l) (j := j + 1) fun i d hi => by
      have := h (i + 1) d hi
      rw [show j + 1 + i = j + (i + 1) by omega]
      exact this
    rw [show j + (d :: l).length = j + 1 + l.length by simp; omega]
    exact ih
theorem compR_map {tg : List Nat} {f : List Cell → Res (Option Dt × List Cell)} (g : Dt → Option Dt) {ds : List Cell} {l : List Dt} (hl : l.length ≤ sizeLine) (hi : tg.all (fun i => decide (i < ds.length)) = true) (hn : tg.Nodup)
    (h : ∀ d ∈ l, ∃ ds1, setTg (parked ds tg) tg d = some ds1 ∧ parked ds1 tg = parked ds tg ∧ f ds1 = .ok (g d, ds1)) : compR tg l f ds = .ok (.new (.lst (l.filterMap g)), ds) := by
  unfold compR
  rw [if_pos ⟨hl, hi⟩, compL_map g h]
  show Res.ok (_, unparked ds (parked ds tg) tg) = _
  rw [unparked_parked hn fun i hi' => by simpa using List.all_eq_true.mp hi i hi', unparked_self]
  rfl
end
end Ev
/-! X11: the tables of code objects, as tests. -/
namespace Ev
open PySem PySem.Spec PyProof.Rows L2 Sg
theorem tab_of {K : PySem.W.Frag} {h : Heap} {f co P : Addr} {oc : Value} {od dd : Option Addr} {fd : FuncData} {sl sl' : Array (Option Value)} {vs : Array Value} {file : Str} {tf tg tt : Tok} {fl tx : Int} {inF : Bool} (X : K.In h) (lk : K.lookup f = some ⟨oc, od, .func fd, sl⟩) (hc : fd.code = .ref co)
    (lc : K.lookup co = some ⟨.type "code", dd, .fields vs, sl'⟩) (h11 : vs[11]? = some (.ref P)) (h18 : vs.getD 18 .none = .str file tf) (h7 : vs.getD 7 .none = .int fl tg) (h9 : vs.getD 9 .none = .bool inF) (h10 : vs.getD 10 .none = .int tx tt) (hn : Nat.beq co P = false) (hP : K.lookup P = none) (ow : LamX.OwnTab K f h) :
    h.get? P = some { cls := .none, data := .fields #[] } ∧ K.lookup P = none ∧ PySem.W.CodeHd h co P := by
  refine ⟨ow co P _ fd _ dd vs sl' lk rfl hc lc h11, hP, ⟨_, vs, file, tf, fl, tg, inF, tx, tt, X _ _ lc, rfl, rfl, h11, ?_, h18, h7, h9, h10, fun z => ?_⟩⟩
  · simp [Array.getD_eq_getD_getElem?, h11]
  · rw [z] at hn
    simp at hn
theorem exm_of {K : PySem.W.Frag} {C S : Addr} {b : Bool} (h0 : PySem.W.subIn K (.ref C) (.type "BaseException") = some true) (h1 : PySem.W.subIn K (.ref S) (.type "BaseException") = some true) (h2 : PySem.W.isClsIn K S = true) (h3 : PySem.W.typeIn K (.ref S) = some (.type "type")) (h4 : PySem.W.subIn K (.ref C) (.ref S) = some b) :
    PySem.W.exmOne K (.ref C) (.ref S) = some b := by
  have h2' : (PySem.W.clsIn K S).isSome = true := h2
  unfold PySem.W.exmOne PySem.W.kitCls
  simp [h0, h1, h2', h3, h4]
theorem tabsIn_nil {K : PySem.W.Frag} {h : Heap} : TabsIn K h [] := ⟨fun p hp => (nomatch hp), fun p hp => (nomatch hp), fun p hp => (nomatch hp)⟩
theorem tabsIn_cons {K : PySem.W.Frag} {h : Heap} {c P : Addr} {cs : List (Addr × Addr)} (a : h.get? P = some { cls := .none, data := .fields #[] } ∧ K.lookup P = none ∧ PySem.W.CodeHd h c P) (T : TabsIn K h cs) : TabsIn K h ((c, P) :: cs) :=
  ⟨mem_cons a.1 T.emp, mem_cons a.2.1 T.out, mem_cons a.2.2 T.hd⟩
end Ev
/-! Tr: the draws of a law: tray, bit, pick, for any program that has them. -/
namespace Ev
open PySem PySem.Spec L2 Sg
def trayC : Code := ⟨2, 5, false, (.set 2 (.ife (.cmp .Lt (.var 1) (.bl .len (.var 0))) (.ix (.var 0) (.var 1)) (.bin .Add (.bin .Mult (.lit (.int 67)) (.var 1)) (.lit (.int 29)))) (.set 3 (.bin .Mod (.bl .int (.bl .abs (.var 2))) (.bin .Pow (.bin .Pow (.lit (.int 10)) (.lit (.int 61))) (.lit (.int 11)))) (.set 4 (.bin .Add (.bin .Add (.bin .Add (.bin .Mult (.bin .Mod (.bl .int (.var 3)) (.lit (.int 2147483249))) (.lit (.int 98347))) (.bin .Mult (.lit (.int 9421)) (.var 1))) (.bin .Mult (.lit (.int 47)) (.bl .int (.cmp .Lt (.var 2) (.lit (.int 0)))))) (.lit (.int 61))) (.ret (.lst (.cons (.bl2 .max (.lit (.int 0)) (.bin .Sub (.var 3) (.bin .Pow (.lit (.int 10)) (.lit (.int 18))))) (.cons (.bin .Mod (.bl .int (.var 4)) (.lit (.int 2305843009213693907))) (.cons (.lit (.int 0)) .nil))))))))⟩
def bitC : Code := ⟨2, 5, true, (.ifs (.cmp .Gt (.ix (.var 0) (.lit (.int 0))) (.lit (.int 0))) (.set 4 (.bin .Mod (.bl .int (.ix (.var 0) (.lit (.int 0)))) (.var 1)) (.setIx 0 (.lit (.int 0)) (.bin .FloorDiv (.ix (.var 0) (.lit (.int 0))) (.var 1)) (.ret (.var 4)))) .nil (.setIx 0 (.lit (.int 2)) (.bin .Add (.ix (.var 0) (.lit (.int 2))) (.lit (.int 1))) (.set 2 (.bin .Mod (.bl .int (.bin .Add (.ix (.var 0) (.lit (.int 1))) (.bin .Mult (.lit (.int 1000423)) (.ix (.var 0) (.lit (.int 2)))))) (.lit (.int 2305843009213693951))) (.set 3 (.bin .Add (.bin .Mult (.bin .Mod (.bl .int (.bin .Mult (.var 2) (.var 2))) (.lit (.int 2305843009213693921))) (.var 2)) (.bin .Mult (.lit (.int 9127)) (.ix (.var 0) (.lit (.int 2))))) (.ret (.bin .Mod (.bl .int (.bin .FloorDiv (.bin .Mod (.bl .int (.var 3)) (.lit (.int 2305843009213693907))) (.lit (.int 16384)))) (.var 1)))))))⟩
def pickC (fb : Nat) : Code := ⟨2, 2, true, (.ret (.ix (.var 1) (.callB fb 0 (.cons (.bl .len (.var 1)) .nil))))⟩
theorem atI0 {a b c : Dt} : L2.atI [a, b, c] 0 = some a := rfl
theorem atI1 {a b c : Dt} : L2.atI [a, b, c] 1 = some b := rfl
theorem atI2 {a b c : Dt} : L2.atI [a, b, c] 2 = some c := rfl
theorem ixN0 : ixN 3 0 = some 0 := rfl
theorem ixN2 : ixN 3 2 = some 2 := rfl
theorem inR_nat {n : Nat} (h : n ≤ 100000) : Ev.inR (n : Int) = true := Nat.ble_eq_true_of_le (Nat.le_trans h (by decide))
theorem szB_of {n : Nat} (h : n ≤ 100000) : szB n = true := Nat.ble_eq_true_of_le (Nat.le_trans h (by decide))
theorem mulX {x y : Int} {m n : Nat} (hx : Builtin.Int.intBits x ≤ m) (hy : Builtin.Int.intBits y ≤ n) (h : m + n ≤ 134217728) : CMulX x y := by
  show (Builtin.Int.intBits x : Int) + (Builtin.Int.intBits y : Int) ≤ 134217728
  omega
theorem mod_bits {a m : Int} {k : Nat} (h0 : 0 < m) (h : m ≤ 2 ^ k) : Builtin.Int.intBits (a % m) ≤ k := by
  refine PySem.intBits_le_iff.mpr ?_
  have h1 := Int.emod_nonneg a (by omega : m ≠ 0)
  have h2 := Int.emod_lt_of_pos a h0
  have h3 : ((a % m).natAbs : Int) < ((2 ^ k : Nat) : Int) := by
    rw [Int.natAbs_of_nonneg h1]
    push_cast
    omega
  exact_mod_cast h3
section
variable {G : Gm} {W k fb ft fp : Nat}
theorem bit_a (hb : G.code fb = some bitC) {t0 t1 t2 n : Int} (h0 : 0 < t0) (hn : 0 < n) (hw : CDivW t0 n) : callK G W (k + 1) fb (some (.lst [.int t0, .int t1, .int t2])) [.int n] = .ok (.val (.int (t0 % n))) (some (.lst [.int (t0 / n), .int t1, .int t2])) := by
  rw [call1 (m := 3) hb rfl rfl rfl rfl]
  simp [evS, evE, vv, tt, pp, pkR, frzR, Res.bind, okR, binR, binD, okV, opt, stR, ixD, atI0, cmpR, cmpD, h0, trD, blD, hn, hw, thenS, ownL, asInt, ixN0, OD.frz, fin, finC, backO, retR, bitC]
def bitF (t1 t2 : Int) : Int := (t1 + 1000423 * (t2 + 1)) % 2305843009213693951
def bitL (t1 t2 : Int) : Int := bitF t1 t2 * bitF t1 t2 % 2305843009213693921 * bitF t1 t2 + 9127 * (t2 + 1)
def bitR (t1 t2 n : Int) : Int := bitL t1 t2 % 2305843009213693907 / 16384 % n
theorem bit_b (hb : G.code fb = some bitC) {t0 t1 t2 n : Int} (h0 : ¬ 0 < t0) (hn : 0 < n) (hbt : Builtin.Int.intBits (t2 + 1) ≤ 1000000) : callK G W (k + 1) fb (some (.lst [.int t0, .int t1, .int t2])) [.int n] = .ok (.val (.int (bitR t1 t2 n))) (some (.lst [.int t0, .int t1, .int (t2 + 1)])) := by
  rw [call1 (m := 3) hb rfl rfl rfl rfl]
  have c1 : CMulX 1000423 (t2 + 1) := mulX (m := 20) (by decide +kernel) hbt (by decide)
  have c2 : CMulX 9127 (t2 + 1) := mulX (m := 20) (by decide +kernel) hbt (by decide)
  have bF : Builtin.Int.intBits ((t1 + 1000423 * (t2 + 1)) % 2305843009213693951) ≤ 61 := mod_bits (by decide) (by decide)
  have c3 := mulX bF bF (by decide)
  have c4 := mulX (mod_bits (a := (t1 + 1000423 * (t2 + 1)) % 2305843009213693951 * ((t1 + 1000423 * (t2 + 1)) % 2305843009213693951)) (m := 2305843009213693921) (k := 61) (by decide) (by decide)) bF (by decide)
  have c5 : ∀ i : Int, CDivW i 16384 := fun i => ⟨by decide, by decide +kernel⟩
  simp [evS, evE, vv, tt, pp, pkR, frzR, Res.bind, okR, binR, binD, okV, opt, stR, ixD, atI0, atI1, atI2, cmpR, cmpD, h0, trD, blD, hn, thenS, ownL, asInt, ixN2, OD.frz, fin, finC, backO, retR, c1, c2, c3, c4, c5, bitR, bitL, bitF, bitC]
/-- a tray after at most c counts -/
def Tray (c : Nat) (o : OD) : Prop := ∃ t0 t1 t2 : Int, o = .lst [.int t0, .int t1, .int t2] ∧ 0 ≤ t2 ∧ t2 ≤ c
theorem Tray.mono {c d : Nat} {o : OD} (h : Tray c o) (hd : c ≤ d) : Tray d o := let ⟨a, b, e, x, y, z⟩ := h; ⟨a, b, e, x, y, by omega⟩
theorem bit_ok (hb : G.code fb = some bitC) {c : Nat} {o : OD} {n : Int} (ht : Tray c o) (hc : c ≤ 1000000) (hn : 0 < n) (hw : n.natAbs.log2 < 9000) : ∃ (i : Int) (o' : OD), callK G W (k + 1) fb (some o) [.int n] = .ok (.val (.int i)) (some o') ∧ Tray (c + 1) o' ∧ 0 ≤ i ∧ i < n := by
  obtain ⟨t0, t1, t2, rfl, h1, h2⟩ := ht
  by_cases h0 : 0 < t0
  · exact ⟨_, _, bit_a hb h0 hn ⟨hn, hw⟩, ⟨_, _, _, rfl, h1, by omega⟩, Int.emod_nonneg _ (by omega), Int.emod_lt_of_pos _ hn⟩
  · refine ⟨_, _, bit_b hb h0 hn (PySem.intBits_le_iff.mpr ?_), ⟨_, _, _, rfl, by omega, by omega⟩, Int.emod_nonneg _ (by omega), Int.emod_lt_of_pos _ hn⟩
    calc (t2 + 1).natAbs < 2 ^ 21 := by
          have : (2 : Nat) ^ 21 = 2097152 := by decide
          omega
      _ ≤ 2 ^ 1000000 := Nat.pow_le_pow_right (by decide) (by decide)
/-- small numbers of draws -/
theorem bit_n (hb : G.code fb = some bitC) {c n : Nat} {o : OD} (ht : Tray c o) (hc : c ≤ 1000000) (hn : 0 < n) (hw : n ≤ 100000) : ∃ (i : Nat) (o' : OD), callK G W (k + 1) fb (some o) [.int n] = .ok (.val (.int i)) (some o') ∧ Tray (c + 1) o' ∧ i < n := by
  obtain ⟨i, o', e, t', i0, i1⟩ := bit_ok hb (W := W) (k := k) (n := (n : Int)) ht hc (by omega) (by
    rw [Int.natAbs_natCast]
    exact (Nat.log2_lt (by omega)).mpr (Nat.lt_of_le_of_lt hw (by decide +kernel)))
  obtain ⟨j, rfl⟩ := Int.eq_ofNat_of_zero_le i0
  exact ⟨j, o', e, t', by omega⟩
theorem pick_ok (hb : G.code fb = some bitC) (hp : G.code fp = some (pickC fb)) {c : Nat} {o : OD} {l : List Dt} (ht : Tray c o) (hc : c ≤ 1000000) (h0 : 0 < l.length) (h1 : l.length ≤ 100000) : ∃ (d : Dt) (o' : OD), callK G W (k + 2) fp (some o) [.lst l] = .ok (.val d) (some o') ∧ Tray (c + 1) o' ∧ d ∈ l := by
  obtain ⟨i, o', e, t', i1⟩ := bit_n hb (W := W) (k := k) (n := l.length) ht hc h0 h1
  have hd : L2.atI l (i : Int) = some l[i] := L2.atI_nat (List.getElem?_eq_getElem i1)
  refine ⟨l[i], o', ?_, t', List.getElem_mem i1⟩
  rw [call1 (m := 0) hp rfl rfl rfl rfl]
  simp [evS, evE, evA, vv, pp, pkR, frzR, Res.bind, okR, opt, blD, ownA, goCallB, e, ixD, hd, fin, finC, backO, retR, pickC]
/-- one sign of a text -/
theorem pick_str (hb : G.code fb = some bitC) (hp : G.code fp = some (pickC fb)) {c : Nat} {o : OD} {l : List Nat} (ht : Tray c o) (hc : c ≤ 1000000) (h0 : 0 < l.length) (h1 : l.length ≤ 100000) : ∃ (d : Nat) (o' : OD), callK G W (k + 2) fp (some o) [.str l] = .ok (.val (.str [d])) (some o') ∧ Tray (c + 1) o' ∧ d ∈ l := by
  obtain ⟨i, o', e, t', i1⟩ := bit_n hb (W := W) (k := k) (n := l.length) ht hc h0 h1
  have hd : L2.atI l (i : Int) = some l[i] := L2.atI_nat (List.getElem?_eq_getElem i1)
  have hz := szB_of h1
  refine ⟨l[i], o', ?_, t', List.getElem_mem i1⟩
  rw [call1 (m := 0) hp rfl rfl rfl rfl]
  simp [evS, evE, evA, vv, pp, pkR, frzR, Res.bind, okR, opt, okV, blD, ownA, goCallB, e, ixD, hd, hz, fin, finC, backO, retR, pickC]
/-! the tray -/
def great : Int := (10 ^ 61) ^ 11
theorem great_pos : 0 < great := by decide +kernel
theorem tray_pow {cf : CallF} {ds : List Cell} : evE G cf (.bin .Pow (.bin .Pow (.lit (.int 10)) (.lit (.int 61))) (.lit (.int 11))) ds = okR (.int great) ds := by
  have p1 : CPowX 10 61 := ⟨by decide, by decide +kernel⟩
  have p2 : CPowX (10 ^ 61) 11 := ⟨by decide, by decide +kernel⟩
  have e1 : evE G cf (.bin .Pow (.lit (.int 10)) (.lit (.int 61))) ds = okR (.int (10 ^ 61)) ds := by
    show opt (okV (decide (CPowX 10 61)) (.int (10 ^ (61 : Int).toNat))) ds = _
    rw [decide_eq_true p1]
    rfl
  show (vv G (evE G cf (.bin .Pow (.lit (.int 10)) (.lit (.int 61))) ds)).bind _ = _
  rw [e1]
  show opt (okV (decide (CPowX (10 ^ 61) 11)) (.int ((10 ^ 61) ^ (11 : Int).toNat))) ds = _
  rw [decide_eq_true p2]
  rfl
theorem tray_c {cf : CallF} {ns : List Int} {at_ : Nat} (ha : at_ ≤ 1000) : ∃ c : Int, evE G cf (.ife (.cmp .Lt (.var 1) (.bl .len (.var 0))) (.ix (.var 0) (.var 1)) (.bin .Add (.bin .Mult (.lit (.int 67)) (.var 1)) (.lit (.int 29)))) [.im (Dt.ints ns), .im (.int at_), .free, .free, .free] = okR (.int c) [.im (Dt.ints ns), .im (.int at_), .free, .free, .free] := by
  by_cases h : (at_ : Int) < ns.length
  · have hl : at_ < ns.length := by omega
    have hg : L2.atI (ns.map Dt.int) (at_ : Int) = some (.int ns[at_]) := L2.atI_nat (by rw [List.getElem?_map, List.getElem?_eq_getElem hl]; rfl)
    exact ⟨ns[at_], by simp [evE, vv, tt, pp, pkR, frzR, Res.bind, okR, opt, blD, cmpR, cmpD, trD, ixD, Dt.ints, h, hg]⟩
  · have m1 : CMulX 67 (at_ : Int) := mulX (m := 10) (n := 20) (by decide +kernel) (PySem.intBits_le_iff.mpr (by rw [Int.natAbs_natCast]; exact Nat.lt_of_le_of_lt ha (by decide))) (by decide)
    exact ⟨67 * at_ + 29, by simp [evE, vv, tt, pp, pkR, frzR, Res.bind, okR, opt, blD, cmpR, cmpD, trD, ixD, Dt.ints, h, binR, binD, okV, m1]⟩
section
variable {cf : CallF} {x y : Dt} {rest : CS}
theorem tray_2 {c : Int} : evS G cf W (.set 3 (.bin .Mod (.bl .int (.bl .abs (.var 2))) (.bin .Pow (.bin .Pow (.lit (.int 10)) (.lit (.int 61))) (.lit (.int 11)))) rest) [.im x, .im y, .im (.int c), .free, .free] = evS G cf W rest [.im x, .im y, .im (.int c), .im (.int ((if c < 0 then -c else c) % great)), .free] := by
  have e1 : evE G cf (.bl .int (.bl .abs (.var 2))) [.im x, .im y, .im (.int c), .free, .free] = okR (.int (if c < 0 then -c else c)) [.im x, .im y, .im (.int c), .free, .free] := by
    simp [evE, pp, pkR, Res.bind, okR, opt, blD]
  have e2 : evE G cf (.bin .Mod (.bl .int (.bl .abs (.var 2))) (.bin .Pow (.bin .Pow (.lit (.int 10)) (.lit (.int 61))) (.lit (.int 11)))) [.im x, .im y, .im (.int c), .free, .free] = okR (.int ((if c < 0 then -c else c) % great)) [.im x, .im y, .im (.int c), .free, .free] := by
    have e3 : ∀ (a b : CE) (ds : List Cell) (i : Int), evE G cf a ds = okR (.int i) ds → evE G cf b ds = okR (.int great) ds → evE G cf (.bin .Mod a b) ds = okR (.int (i % great)) ds := by
      intro a b ds i ha hb
      have h0 : evE G cf (.bin .Mod a b) ds = (vv G (evE G cf a ds)).bind fun x => (vv G (evE G cf b x.2)).bind fun y => binR G cf .Mod x.1 y.1 y.2 := rfl
      rw [h0, ha]
      show (vv G (evE G cf b ds)).bind (fun y => binR G cf .Mod (.int i) y.1 y.2) = _
      rw [hb]
      show opt (okV (decide (0 < great)) (.int (i % great))) ds = _
      rw [decide_eq_true great_pos]
      rfl
    exact e3 _ _ _ _ e1 tray_pow
  show (evE G cf (.bin .Mod _ _) _).bind _ = _
  rw [e2]
  rfl
theorem ev_bin {op : Operator} {a b : CE} {ds : List Cell} {d1 d2 d : Dt} (ha : evE G cf a ds = okR d1 ds) (hb : evE G cf b ds = okR d2 ds) (h : binR G cf op d1 d2 ds = okR d ds) : evE G cf (.bin op a b) ds = okR d ds := by
  have h0 : evE G cf (.bin op a b) ds = (vv G (evE G cf a ds)).bind fun x => (vv G (evE G cf b x.2)).bind fun y => binR G cf op x.1 y.1 y.2 := rfl
  rw [h0, ha]
  show (vv G (evE G cf b ds)).bind (fun y => binR G cf op d1 y.1 y.2) = _
  rw [hb]
  exact h
theorem bin_okV {op : Operator} {d1 d2 d : Dt} {ds : List Cell} {p : Bool} (h1 : binR G cf op d1 d2 ds = opt (okV p d) ds) (hp : p = true) : binR G cf op d1 d2 ds = okR d ds := by rw [h1, hp]; rfl
theorem ev_mul {a b : CE} {ds : List Cell} {i j : Int} (ha : evE G cf a ds = okR (.int i) ds) (hb : evE G cf b ds = okR (.int j) ds) (h : CMulX i j) : evE G cf (.bin .Mult a b) ds = okR (.int (i * j)) ds :=
  ev_bin ha hb (bin_okV (p := decide (CMulX i j)) rfl (decide_eq_true h))
theorem ev_add {a b : CE} {ds : List Cell} {i j : Int} (ha : evE G cf a ds = okR (.int i) ds) (hb : evE G cf b ds = okR (.int j) ds) : evE G cf (.bin .Add a b) ds = okR (.int (i + j)) ds := ev_bin ha hb rfl
theorem ev_mod {a b : CE} {ds : List Cell} {i j : Int} (ha : evE G cf a ds = okR (.int i) ds) (hb : evE G cf b ds = okR (.int j) ds) (h : 0 < j) : evE G cf (.bin .Mod a b) ds = okR (.int (i % j)) ds :=
  ev_bin ha hb (bin_okV (p := decide (0 < j)) rfl (decide_eq_true h))
theorem ev_blv {b : Bl} {a : CE} {ds : List Cell} {d r : Dt} (ha : evE G cf a ds = okR d ds) (h : blD b d = some (.val r)) : evE G cf (.bl b a) ds = okR r ds := by
  have h0 : evE G cf (.bl b a) ds = (evE G cf a ds).bind fun r => (pp G r.1 r.2).bind fun x => opt (blD b x.1) x.2 := rfl
  rw [h0, ha]
  show opt (blD b d) ds = _
  rw [h]
  rfl
theorem ev_cmpI {op : CmpOp} {a b : CE} {ds : List Cell} {i j : Int} {r : Bool} (ha : evE G cf a ds = okR (.int i) ds) (hb : evE G cf b ds = okR (.int j) ds) (h : cmpR G cf op (.int i) (.int j) ds = .ok (r, ds)) : evE G cf (.cmp op a b) ds = okR (.bl r) ds := by
  have h0 : evE G cf (.cmp op a b) ds = (vv G (evE G cf a ds)).bind fun x => (vv G (evE G cf b x.2)).bind fun y => (cmpR G cf op x.1 y.1 y.2).bind fun r => okR (.bl r.1) r.2 := rfl
  rw [h0, ha]
  show (vv G (evE G cf b ds)).bind (fun y => (cmpR G cf op (.int i) y.1 y.2).bind fun r => okR (.bl r.1) r.2) = _
  rw [hb]
  show (cmpR G cf op (.int i) (.int j) ds).bind _ = _
  rw [h]
  rfl
theorem es_set {i : Nat} {e : CE} {rest : CS} {ds : List Cell} {d : Dt} (h : evE G cf e ds = okR d ds) (hi : i < ds.length) : evS G cf W (.set i e rest) ds = evS G cf W rest (ds.set i (.im d)) := by
  have h0 : evS G cf W (.set i e rest) ds = (evE G cf e ds).bind fun r => (stR G.fl i r.1 r.2).bind fun ds' => evS G cf W rest ds' := rfl
  rw [h0, h]
  show (stR G.fl i (.val d) ds).bind _ = _
  unfold stR
  rw [if_pos hi]
  rfl
theorem tray_3g {c g i1 i2 i3 i4 i5 v : Int} (h0 : 0 < i1) (m2 : CMulX (g % i1) i2) (m3 : CMulX i3 v) (m0 : CMulX i4 0) (m1 : CMulX i4 1) : ∃ b : Int, ∀ rest, evS G cf W (.set 4 (.bin .Add (.bin .Add (.bin .Add (.bin .Mult (.bin .Mod (.bl .int (.var 3)) (.lit (.int i1))) (.lit (.int i2))) (.bin .Mult (.lit (.int i3)) (.var 1))) (.bin .Mult (.lit (.int i4)) (.bl .int (.cmp .Lt (.var 2) (.lit (.int 0)))))) (.lit (.int i5))) rest) [.im x, .im (.int v), .im (.int c), .im (.int g), .free] = evS G cf W rest [.im x, .im (.int v), .im (.int c), .im (.int g), .im (.int b)] := by
  refine ⟨_, fun rest => es_set (ev_add (ev_add (ev_add (ev_mul (ev_mod (ev_blv (d := .int g) rfl rfl) rfl h0) rfl m2) (ev_mul rfl (j := v) rfl m3)) (ev_mul rfl (ev_blv (ev_cmpI (r := decide (c < 0)) (i := c) (j := 0) rfl rfl rfl) (r := .int (if decide (c < 0) = true then 1 else 0)) rfl) ?_)) rfl) (by simp)⟩
  by_cases h : c < 0
  · rw [decide_eq_true h]; exact m1
  · rw [decide_eq_false h]; exact m0
theorem tray_3 {c g : Int} {n : Nat} (ha : n ≤ 1000) : ∃ b : Int, ∀ rest, evS G cf W (.set 4 (.bin .Add (.bin .Add (.bin .Add (.bin .Mult (.bin .Mod (.bl .int (.var 3)) (.lit (.int 2147483249))) (.lit (.int 98347))) (.bin .Mult (.lit (.int 9421)) (.var 1))) (.bin .Mult (.lit (.int 47)) (.bl .int (.cmp .Lt (.var 2) (.lit (.int 0)))))) (.lit (.int 61))) rest) [.im x, .im (.int n), .im (.int c), .im (.int g), .free] = evS G cf W rest [.im x, .im (.int n), .im (.int c), .im (.int g), .im (.int b)] :=
  tray_3g (by decide) (mulX (mod_bits (k := 31) (by decide) (by decide)) (n := 17) (by decide +kernel) (by decide)) (mulX (m := 20) (n := 20) (by decide +kernel) (PySem.intBits_le_iff.mpr (by rw [Int.natAbs_natCast]; exact Nat.lt_of_le_of_lt ha (by decide))) (by decide))
    (mulX (m := 10) (n := 10) (by decide +kernel) (by decide +kernel) (by decide)) (mulX (m := 10) (n := 10) (by decide +kernel) (by decide +kernel) (by decide))
theorem tray_4 {c g b : Int} : ∃ t0 t1 : Int, fin false (evS G cf W (.ret (.lst (.cons (.bl2 .max (.lit (.int 0)) (.bin .Sub (.var 3) (.bin .Pow (.lit (.int 10)) (.lit (.int 18))))) (.cons (.bin .Mod (.bl .int (.var 4)) (.lit (.int 2305843009213693907))) (.cons (.lit (.int 0)) .nil))))) [.im x, .im y, .im (.int c), .im (.int g), .im (.int b)]) = .ok (.new (.lst [.int t0, .int t1, .int 0])) none := by
  have l3 : (3 : Nat) ≤ sizeLine := by decide
  have p3' : CPowX 10 18 := ⟨by decide, by decide +kernel⟩
  exact ⟨_, _, by simp [evS, evE, evA, vv, pp, pkR, frzR, Res.bind, okR, opt, blD, bl2D, binR, binD, okV, okN, l3, p3', fin, finC, backO, retR]; exact ⟨rfl, rfl⟩⟩
end
theorem tray_ok (hb : G.code ft = some trayC) {ns : List Int} {at_ : Nat} (ha : at_ ≤ 1000) : ∃ o, callK G W (k + 1) ft none [Dt.ints ns, .int at_] = .ok (.new o) none ∧ Tray 0 o := by
  obtain ⟨c, hc⟩ := tray_c (G := G) (cf := callK G W k) (ns := ns) ha
  obtain ⟨b, hb2⟩ := tray_3 (G := G) (W := W) (cf := callK G W k) (x := Dt.ints ns) (c := c) (g := (if c < 0 then -c else c) % great) ha
  obtain ⟨t0, t1, ht⟩ := tray_4 (G := G) (W := W) (cf := callK G W k) (x := Dt.ints ns) (y := .int at_) (c := c) (g := (if c < 0 then -c else c) % great) (b := b)
  refine ⟨_, ?_, t0, t1, 0, rfl, by omega, by omega⟩
  rw [call0 (m := 3) hb rfl rfl rfl rfl]
  have e1 : ∀ (rest : CS), evS G (callK G W k) W (.set 2 (.ife (.cmp .Lt (.var 1) (.bl .len (.var 0))) (.ix (.var 0) (.var 1)) (.bin .Add (.bin .Mult (.lit (.int 67)) (.var 1)) (.lit (.int 29)))) rest) [.im (Dt.ints ns), .im (.int at_), .free, .free, .free] = evS G (callK G W k) W rest [.im (Dt.ints ns), .im (.int at_), .im (.int c), .free, .free] := by
    intro rest
    show (evE G (callK G W k) (.ife _ _ _) _).bind _ = _
    rw [hc]
    rfl
  show fin false (evS G (callK G W k) W trayC.body [.im (Dt.ints ns), .im (.int at_), .free, .free, .free]) = _
  unfold trayC
  rw [e1, tray_2, hb2, ht]
end
end Ev
/-! Ru: rules of reckoning, for any program. -/
namespace Ev
open PySem PySem.Spec L2 Sg
section
variable {G : Gm} {W : Nat} {cf : CallF} {ds ds1 ds2 ds3 : List Cell} {a b c e e2 it : CE} {es : CE} {body rest : CS} {tg : List Nat} {f i : Nat}
theorem ev_var {d : Dt} (h : ds[i]? = some (.im d)) : evE G cf (.var i) ds = okR d ds := by
  show (match ds[i]? with | some (.im d) => okR d ds | some (.own _ _) => .ok (.ali i, ds) | _ => .no) = _
  rw [h]
theorem ev_varO {b : Bool} {o : OD} (h : ds[i]? = some (.own b o)) : evE G cf (.var i) ds = .ok (.ali i, ds) := by
  show (match ds[i]? with | some (.im d) => okR d ds | some (.own _ _) => .ok (.ali i, ds) | _ => .no) = _
  rw [h]
theorem ev_len {s : List Nat} (h : ds[i]? = some (.im (.str s))) (hz : s.length ≤ 100000) : evE G cf (.bl .len (.var i)) ds = okR (.int (s.length : Int)) ds :=
  ev_blv (d := .str s) (ev_var h) (by show okV (szB s.length) _ = _; rw [szB_of hz]; rfl)
theorem ev_bl2 {b : Bl2} {i j : Int} {r : Dt} (h1 : evE G cf e ds = okR (.int i) ds) (h2 : evE G cf e2 ds = okR (.int j) ds) (h3 : bl2D b (.int i) (.int j) = some (.val r)) : evE G cf (.bl2 b e e2) ds = okR r ds := by
  have h0 : evE G cf (.bl2 b e e2) ds = (vv G (evE G cf e ds)).bind fun x => (vv G (evE G cf e2 x.2)).bind fun y => opt (bl2D b x.1 y.1) y.2 := rfl
  rw [h0, h1]
  show (vv G (evE G cf e2 ds)).bind (fun y => opt (bl2D b (.int i) y.1) y.2) = _
  rw [h2]
  show opt (bl2D b (.int i) (.int j)) _ = _
  rw [h3]
  rfl
theorem es_ifs {a b rest : CS} {v : Bool} (h : evE G cf c ds = .ok (.val (.bl v), ds1)) : evS G cf W (.ifs c a b rest) ds = thenS (if v then evS G cf W a ds1 else evS G cf W b ds1) fun ds' => evS G cf W rest ds' := by
  have h0 : evS G cf W (.ifs c a b rest) ds = (tt G (evE G cf c ds)).bind fun x => thenS (if x.1 then evS G cf W a x.2 else evS G cf W b x.2) fun ds' => evS G cf W rest ds' := rfl
  rw [h0, h]
  rfl
theorem es_ifF {a rest : CS} (h : evE G cf c ds = .ok (.val (.bl false), ds1)) : evS G cf W (.ifs c a .nil rest) ds = evS G cf W rest ds1 := by
  rw [es_ifs h]
  rfl
theorem es_fors {l : List Dt} (h : (vv G (evE G cf it ds)).bind asItems = .ok (l, ds1)) (hl : forL tg (fun ds => evS G cf W body ds) l ds1 = .ok (.nx, ds2)) : evS G cf W (.fors tg it body rest) ds = evS G cf W rest ds2 := by
  have h0 : evS G cf W (.fors tg it body rest) ds = ((vv G (evE G cf it ds)).bind asItems).bind fun l => thenS (forL tg (fun ds => evS G cf W body ds) l.1 l.2) fun ds' => evS G cf W rest ds' := rfl
  rw [h0, h]
  show thenS (forL tg (fun ds => evS G cf W body ds) l ds1) _ = _
  rw [hl]
  rfl
theorem ev_rngI {n : Nat} (h : evE G cf e ds = okR (.int (n : Int)) ds) (hn : n ≤ 100000) : (vv G (evE G cf (.rng e) ds)).bind asItems = .ok (rngs 0 n, ds) := by
  have h0 : evE G cf (.rng e) ds = ((vv G (evE G cf e ds)).bind asInt).bind fun x => if inR x.1 then okR (.lst (rngs 0 x.1.toNat)) x.2 else .no := rfl
  rw [h0, h]
  show (vv G (if inR (n : Int) = true then okR (.lst (rngs 0 (n : Int).toNat)) ds else .no)).bind asItems = _
  rw [inR_nat hn]
  rfl
/-- range(max(1, min(m, len(script)))) -/
theorem law_rng {ns : List Int} {m : Nat} {M : Int} (hM : M = (m : Int)) (hm : m ≤ 1000) (h : ds[0]? = some (.im (Dt.ints ns))) : (vv G (evE G cf (.rng (.bl2 .max (.lit (.int 1)) (.bl2 .min (.lit (.int M)) (.bl .len (.var 0))))) ds)).bind asItems = .ok (rngs 0 (max 1 (min m ns.length)), ds) := by
  subst hM
  have x0 : evE G cf (.bl .len (.var 0)) ds = okR (.int (ns.length : Int)) ds := by
    refine ev_blv (d := Dt.ints ns) (ev_var h) ?_
    show some (RV.val (.int (((ns.map Dt.int).length : Nat) : Int))) = _
    rw [List.length_map]
  refine ev_rngI (ev_bl2 (i := 1) (j := ((min m ns.length : Nat) : Int)) rfl (ev_bl2 (i := (m : Int)) (j := (ns.length : Int)) rfl x0 ?_) ?_) (by omega)
  · show some (RV.val (.int (if (ns.length : Int) < (m : Int) then (ns.length : Int) else (m : Int)))) = _
    congr 3
    split <;> omega
  · show some (RV.val (.int (if ((min m ns.length : Nat) : Int) > 1 then ((min m ns.length : Nat) : Int) else 1))) = _
    congr 3
    split <;> omega
end
end Ev
/-! the head of k09, made by gen2.py -/
namespace Hk09
open PySem PySem.Spec PyProof.Rows L2 Sg Ev
def topS (i : Nat) : Stmt := PySem.Challenge.pw_signedcounts_k09_errors_of_leading_patte.main.body.getD i (.Pass ⟨0, 0, 0, 0⟩)
def inC (st : Stmt) (j : Nat) : Stmt := match st with | .ClassDef _ _ _ body _ _ _ _ _ _ _ => body.getD j (.Pass ⟨0, 0, 0, 0⟩) | _ => .Pass ⟨0, 0, 0, 0⟩
def tryH (st : Stmt) : List ExceptHandler := match defBody st with | .Try _ h _ _ _ :: _ => h | _ => []
def tryR (st : Stmt) : List Stmt := (defBody st).tail
abbrev s0 : Stmt := topS 6
def N0 : List Str := ["value", "part", "key"]
abbrev s1 : Stmt := topS 13
def N1 : List Str := ["value"]
abbrev s2 : Stmt := topS 14
def N2 : List Str := ["value", "one", "other"]
abbrev s3 : Stmt := topS 15
def N3 : List Str := ["letters", "value"]
abbrev s4 : Stmt := topS 16
def N4 : List Str := ["value"]
abbrev s5 : Stmt := topS 17
def N5 : List Str := ["letters", "value"]
abbrev s6 : Stmt := topS 18
def N6 : List Str := ["value", "least", "most"]
abbrev s7 : Stmt := topS 19
def N7 : List Str := ["value"]
abbrev s8 : Stmt := topS 20
def N8 : List Str := ["value", "least", "most"]
abbrev s9 : Stmt := topS 21
def N9 : List Str := ["text", "signs", "sign"]
abbrev s10 : Stmt := topS 23
def N10 : List Str := ["letters", "value"]
abbrev s11 : Stmt := topS 24
def N11 : List Str := ["letters", "pattern"]
abbrev s12 : Stmt := topS 25
def N12 : List Str := ["letters", "pattern"]
abbrev s13 : Stmt := topS 26
def N13 : List Str := ["letters", "depth", "found", "longest", "_", "pattern", "letter"]
abbrev s14 : Stmt := topS 27
def N14 : List Str := ["letters", "depth", "pattern"]
abbrev s15 : Stmt := topS 28
def N15 : List Str := ["letters", "size", "divisors", "number"]
abbrev s16 : Stmt := topS 29
def N16 : List Str := ["pattern", "end"]
abbrev s17 : Stmt := topS 30
def N17 : List Str := ["pattern", "start"]
abbrev s18 : Stmt := topS 31
def N18 : List Str := ["pattern", "found", "start", "kept", "ahead", "size"]
abbrev s19 : Stmt := topS 32
def N19 : List Str := ["number", "left", "mark", "prime"]
abbrev s20 : Stmt := topS 33
def N20 : List Str := ["number", "size", "power", "_"]
abbrev s21 : Stmt := topS 35
def N21 : List Str := ["script", "at", "cell", "great", "blend"]
abbrev s22 : Stmt := topS 36
def N22 : List Str := ["tray", "much", "first", "later", "found"]
abbrev s23 : Stmt := topS 37
def N23 : List Str := ["tray", "items"]
abbrev s24 : Stmt := topS 38
def N24 : List Str := ["call", "e"]
abbrev s25 : Stmt := topS 39
def N25 : List Str := ["tray", "signs", "line", "deep", "much", "lone", "told", "due"]
abbrev s26 : Stmt := topS 40
def N26 : List Str := ["script", "at", "told", "tray", "turn"]
abbrev xs4 : Stmt := inC (topS 5) 0
def xN4 : List Str := ["self", "value", "kept"]
def tbl : List (Str × GV) := [(("_copied" : Str), GV.fn 0), (("is_integer" : Str), GV.fn 1), (("is_letters" : Str), GV.fn 2), (("is_pattern" : Str), GV.fn 3), (("check_letters" : Str), GV.fn 4), (("check_pattern" : Str), GV.fn 5), (("check_number" : Str), GV.fn 6), (("check_depth" : Str), GV.fn 7), (("_is_string" : Str), GV.fn 8), (("_has_only" : Str), GV.fn 9), (("is_leading" : Str), GV.fn 10), (("factors" : Str), GV.fn 11), (("halves" : Str), GV.fn 12), (("patterns_of" : Str), GV.fn 13), (("leading_of" : Str), GV.fn 14), (("how_many" : Str), GV.fn 15), (("halves_of" : Str), GV.fn 16), (("_leads" : Str), GV.fn 17), (("_factors" : Str), GV.fn 18), (("_mark" : Str), GV.fn 19), (("_power" : Str), GV.fn 20), (("_law_tray" : Str), GV.fn 21), (("_law_bit" : Str), GV.fnB 22), (("_law_pick" : Str), GV.fnB 23), (("_law_met" : Str), GV.fnL 24), (("_law_right" : Str), GV.fnB 25), (("law" : Str), GV.fn 26), (("CountError" : Str), GV.exo 0), (("InvalidLetters" : Str), GV.exo 1), (("InvalidPattern" : Str), GV.exo 2), (("InvalidOperation" : Str), GV.exo 3), (("InvalidNumber" : Str), GV.exi 4 [0]), (("MAX_PATTERN" : Str), GV.dat (Dt.int (400))), (("MAX_DEPTH" : Str), GV.dat (Dt.int (5))), (("MAX_INTEGER" : Str), GV.dat (Dt.int (99999999999999999999999999999999999999999999999999999999999999999999999999999999999999999999999999999999999999999999999999999999999999999999999999999999999999999999999999999999999999999999999999999999))), (("_MAX_LETTERS" : Str), GV.dat (Dt.int (3))), (("_ALPHABET" : Str), GV.dat (Dt.str [97, 98, 99, 100, 101, 102, 103, 104, 105, 106, 107, 108, 109, 110, 111, 112, 113, 114, 115, 116, 117, 118, 119, 120, 121, 122]))]
def gl (x : Str) : GV := (tbl.lookup x).getD .other
def nms : List Str := ["value"]
def nmO (n : Nat) : Str := nms.getD n ""
def fdn (x : Str) : Option Nat := match nms.findIdx? (· == x) with | some i => if nmO i = x then some i else none | none => none
def cd (np : Nat) (N : List Str) (bor lm : Bool) (st : Stmt) : Ev.Code := ⟨np, N.length, bor, cB (rc 60) 60 ⟨N, defScope st, fun _ => true, true, lm, gl, fdn⟩ (defBody st)⟩
def lcd (N : List Str) (ret : Bool) (st : Stmt) : LCode := ⟨N.length, ret, (cH (cB (rc 60) 60) ⟨N, defScope st, fun _ => true, true, false, gl, fdn⟩ (tryH st)).getD .bad, cB (rc 60) 60 ⟨N, defScope st, fun _ => true, true, false, gl, fdn⟩ (tryR st)⟩
def codes : List (Option Ev.Code) := [some (cd 1 N0 false false s0), some (cd 1 N1 false false s1), some (cd 1 N2 false false s2), some (cd 2 N3 false false s3), some (cd 1 N4 false false s4), some (cd 2 N5 false false s5), some (cd 3 N6 false false s6), some (cd 1 N7 false false s7), some (cd 3 N8 false false s8), some (cd 2 N9 false false s9), some (cd 2 N10 false false s10), some (cd 2 N11 false false s11), some (cd 2 N12 false false s12), some (cd 2 N13 false false s13), some (cd 2 N14 false false s14), some (cd 2 N15 false false s15), some (cd 1 N16 false false s16), some (cd 1 N17 false false s17), some (cd 1 N18 false false s18), some (cd 1 N19 false false s19), some (cd 2 N20 false false s20), some (cd 2 N21 false false s21), some (cd 2 N22 true false s22), some (cd 2 N23 true false s23), none, some (cd 1 N25 true true s25), some (cd 1 N26 false true s26)]
def lcodes : List (Option LCode) := [none, none, none, none, none, none, none, none, none, none, none, none, none, none, none, none, none, none, none, none, none, none, none, none, some (lcd N24 false s24), none, none]
def subT : List (List Bool) := [[true, false, false, false, false], [true, true, false, false, false], [true, false, true, false, false], [true, false, false, true, false], [false, false, false, false, true]]
def einis : List (Option EIni) := [none, none, none, none, some (.cop 0 0)]
def mkO (n : Nat) (l : List Dt) : Option Er := match l with | [_] => some ⟨n, none⟩ | _ => none
def G : Gm := { code := fun f => (codes[f]?).join, nm := nmO, fl := fun _ => [], at_ := fun _ _ => none, init := fun _ => none, ops := fun _ _ => none, inv := fun _ => none, len := fun _ => none, getitem := fun _ => none, eq := fun _ => none, mkE := mkO, sub := fun c n => (subT[c]?).bind fun r => r[n]?, eini := fun n => (einis[n]?).join, lcode := fun f => (lcodes[f]?).join, lamF := fun _ _ _ => .no, nc := 0 }
theorem sc0 : FnScope N0 ["value"] (defScope s0) := ⟨rfl, rfl, rfl, by decide +kernel, rfl, by decide +kernel, by decide +kernel⟩
theorem sc1 : FnScope N1 ["value"] (defScope s1) := ⟨rfl, rfl, rfl, by decide +kernel, rfl, by decide +kernel, by decide +kernel⟩
theorem sc2 : FnScope N2 ["value"] (defScope s2) := ⟨rfl, rfl, rfl, by decide +kernel, rfl, by decide +kernel, by decide +kernel⟩
theorem sc3 : FnScope N3 ["letters", "value"] (defScope s3) := ⟨rfl, rfl, rfl, by decide +kernel, rfl, by decide +kernel, by decide +kernel⟩
theorem sc4 : FnScope N4 ["value"] (defScope s4) := ⟨rfl, rfl, rfl, by decide +kernel, rfl, by decide +kernel, by decide +kernel⟩
theorem sc5 : FnScope N5 ["letters", "value"] (defScope s5) := ⟨rfl, rfl, rfl, by decide +kernel, rfl, by decide +kernel, by decide +kernel⟩
theorem sc6 : FnScope N6 ["value", "least", "most"] (defScope s6) := ⟨rfl, rfl, rfl, by decide +kernel, rfl, by decide +kernel, by decide +kernel⟩
theorem sc7 : FnScope N7 ["value"] (defScope s7) := ⟨rfl, rfl, rfl, by decide +kernel, rfl, by decide +kernel, by decide +kernel⟩
theorem sc8 : FnScope N8 ["value", "least", "most"] (defScope s8) := ⟨rfl, rfl, rfl, by decide +kernel, rfl, by decide +kernel, by decide +kernel⟩
theorem sc9 : FnScope N9 ["text", "signs"] (defScope s9) := ⟨rfl, rfl, rfl, by decide +kernel, rfl, by decide +kernel, by decide +kernel⟩
theorem sc10 : FnScope N10 ["letters", "value"] (defScope s10) := ⟨rfl, rfl, rfl, by decide +kernel, rfl, by decide +kernel, by decide +kernel⟩
theorem sc11 : FnScope N11 ["letters", "pattern"] (defScope s11) := ⟨rfl, rfl, rfl, by decide +kernel, rfl, by decide +kernel, by decide +kernel⟩
theorem sc12 : FnScope N12 ["letters", "pattern"] (defScope s12) := ⟨rfl, rfl, rfl, by decide +kernel, rfl, by decide +kernel, by decide +kernel⟩
theorem sc13 : FnScope N13 ["letters", "depth"] (defScope s13) := ⟨rfl, rfl, rfl, by decide +kernel, rfl, by decide +kernel, by decide +kernel⟩
theorem sc14 : FnScope N14 ["letters", "depth"] (defScope s14) := ⟨rfl, rfl, rfl, by decide +kernel, rfl, by decide +kernel, by decide +kernel⟩
theorem sc15 : FnScope N15 ["letters", "size"] (defScope s15) := ⟨rfl, rfl, rfl, by decide +kernel, rfl, by decide +kernel, by decide +kernel⟩
theorem sc16 : FnScope N16 ["pattern"] (defScope s16) := ⟨rfl, rfl, rfl, by decide +kernel, rfl, by decide +kernel, by decide +kernel⟩
theorem sc17 : FnScope N17 ["pattern"] (defScope s17) := ⟨rfl, rfl, rfl, by decide +kernel, rfl, by decide +kernel, by decide +kernel⟩
theorem sc18 : FnScope N18 ["pattern"] (defScope s18) := ⟨rfl, rfl, rfl, by decide +kernel, rfl, by decide +kernel, by decide +kernel⟩
theorem sc19 : FnScope N19 ["number"] (defScope s19) := ⟨rfl, rfl, rfl, by decide +kernel, rfl, by decide +kernel, by decide +kernel⟩
theorem sc20 : FnScope N20 ["number", "size"] (defScope s20) := ⟨rfl, rfl, rfl, by decide +kernel, rfl, by decide +kernel, by decide +kernel⟩
theorem sc21 : FnScope N21 ["script", "at"] (defScope s21) := ⟨rfl, rfl, rfl, by decide +kernel, rfl, by decide +kernel, by decide +kernel⟩
theorem sc22 : FnScope N22 ["tray", "much"] (defScope s22) := ⟨rfl, rfl, rfl, by decide +kernel, rfl, by decide +kernel, by decide +kernel⟩
theorem sc23 : FnScope N23 ["tray", "items"] (defScope s23) := ⟨rfl, rfl, rfl, by decide +kernel, rfl, by decide +kernel, by decide +kernel⟩
theorem sc24 : FnScope N24 ["call"] (defScope s24) := ⟨rfl, rfl, rfl, by decide +kernel, rfl, by decide +kernel, by decide +kernel⟩
theorem sc25 : FnScope N25 ["tray"] (defScope s25) := ⟨rfl, rfl, rfl, by decide +kernel, rfl, by decide +kernel, by decide +kernel⟩
theorem sc26 : FnScope N26 ["script"] (defScope s26) := ⟨rfl, rfl, rfl, by decide +kernel, rfl, by decide +kernel, by decide +kernel⟩
theorem nm_inj0 : ∀ m, nmO 0 = nmO m → 0 = m := by
  intro m h
  by_cases hm : m < 1
  · have : ∀ j < 1, nmO 0 = nmO j → 0 = j := by decide +kernel
    exact this m hm h
  · have e : nmO m = "" := by unfold nmO; rw [List.getD_eq_getElem?_getD, List.getElem?_eq_none (by show 1 ≤ m; omega)]; rfl
    rw [e] at h
    exact absurd h (by decide +kernel)
theorem all_mk {K : PySem.W.Frag} {h : Heap} {mg : Str → Option Value} {fa f0 f1 f2 f3 f4 f5 f6 f7 f8 f9 f10 f11 f12 f13 f14 f15 f16 f17 f18 f19 f20 f21 f22 f23 f24 f25 f26 x0 x1 x2 x3 x4 xf4 co25 P25 co26 P26 : Addr} {qd25 qd26 xdd4 : Option Addr} {qv25 qv26 : Array Value} {qs25 qs26 : Array (Option Value)} {qf25 qf26 xnm4 xqn4 : Str} {qt25 qu25 qw25 qt26 qu26 qw26 : Tok} {qi25 qj25 qi26 qj26 : Int} {qb25 qb26 xab4 : Bool} {xN_4 : Addr} {xbs4 xsub4 : List Value} {xsn4 : List Str} {xcol4 : Option Bool} {xm04 xm14 xm24 xm34 xm54 : Option Value} (X : K.In h) (GN : h.Ns mainGlobals mg) (hfa : mg "law" = some (.ref fa))
    (own : (∀ a : Addr, mg "_law_right" = some (.ref a) → LamX.OwnTab K a h) ∧ (∀ a : Addr, mg "law" = some (.ref a) → LamX.OwnTab K a h) ∧ True)
    {od0 an0 od1 an1 od2 an2 od3 an3 od4 an4 od5 an5 od6 an6 od7 an7 od8 an8 od9 an9 od10 an10 od11 an11 od12 an12 od13 an13 od14 an14 od15 an15 od16 an16 od17 an17 od18 an18 od19 an19 od20 an20 od21 an21 od22 an22 od23 an23 od24 an24 od25 an25 od26 an26 xod4 xan4 : Option Addr} {sl0 sl1 sl2 sl3 sl4 sl5 sl6 sl7 sl8 sl9 sl10 sl11 sl12 sl13 sl14 sl15 sl16 sl17 sl18 sl19 sl20 sl21 sl22 sl23 sl24 sl25 sl26 xsl4 : Array (Option Value)} {oc0 kV0 dc0 pm0 cd0 ct0 oc1 kV1 dc1 pm1 cd1 ct1 oc2 kV2 dc2 pm2 cd2 ct2 oc3 kV3 dc3 pm3 cd3 ct3 oc4 kV4 dc4 pm4 cd4 ct4 oc5 kV5 dc5 pm5 cd5 ct5 oc6 kV6 dc6 pm6 cd6 ct6 oc7 kV7 dc7 pm7 cd7 ct7 oc8 kV8 dc8 pm8 cd8 ct8 oc9 kV9 dc9 pm9 cd9 ct9 oc10 kV10 dc10 pm10 cd10 ct10 oc11 kV11 dc11 pm11 cd11 ct11 oc12 kV12 dc12 pm12 cd12 ct12 oc13 kV13 dc13 pm13 cd13 ct13 oc14 kV14 dc14 pm14 cd14 ct14 oc15 kV15 dc15 pm15 cd15 ct15 oc16 kV16 dc16 pm16 cd16 ct16 oc17 kV17 dc17 pm17 cd17 ct17 oc18 kV18 dc18 pm18 cd18 ct18 oc19 kV19 dc19 pm19 cd19 ct19 oc20 kV20 dc20 pm20 cd20 ct20 oc21 kV21 dc21 pm21 cd21 ct21 oc22 kV22 dc22 pm22 cd22 ct22 oc23 kV23 dc23 pm23 cd23 ct23 oc24 kV24 dc24 pm24 cd24 ct24 oc25 kV25 dc25 pm25 ct25 oc26 kV26 dc26 pm26 ct26 xoc4 xkV4 xdc4 xpm4 xcd4 xct4 : Value}
    (a0 : PySem.W.nsIn K mainGlobals "_copied" = some (some (.ref f0)))
    (l0 : K.lookup f0 = some ⟨oc0, od0, .func (PySem.W.fnOf "_copied" "_copied" (defArgs s0) (defBody s0) (defScope s0) .none kV0 dc0 pm0 an0 cd0 ct0), sl0⟩)
    (c0 : PySem.W.codeIn K cd0 "_copied" = true)
    (k0 : PySem.W.keepIn K (.ref f0) = true)
    (a1 : PySem.W.nsIn K mainGlobals "is_integer" = some (some (.ref f1)))
    (l1 : K.lookup f1 = some ⟨oc1, od1, .func (PySem.W.fnOf "is_integer" "is_integer" (defArgs s1) (defBody s1) (defScope s1) .none kV1 dc1 pm1 an1 cd1 ct1), sl1⟩)
    (c1 : PySem.W.codeIn K cd1 "is_integer" = true)
    (k1 : PySem.W.keepIn K (.ref f1) = true)
    (a2 : PySem.W.nsIn K mainGlobals "is_letters" = some (some (.ref f2)))
    (l2 : K.lookup f2 = some ⟨oc2, od2, .func (PySem.W.fnOf "is_letters" "is_letters" (defArgs s2) (defBody s2) (defScope s2) .none kV2 dc2 pm2 an2 cd2 ct2), sl2⟩)
    (c2 : PySem.W.codeIn K cd2 "is_letters" = true)
    (k2 : PySem.W.keepIn K (.ref f2) = true)
    (a3 : PySem.W.nsIn K mainGlobals "is_pattern" = some (some (.ref f3)))
    (l3 : K.lookup f3 = some ⟨oc3, od3, .func (PySem.W.fnOf "is_pattern" "is_pattern" (defArgs s3) (defBody s3) (defScope s3) .none kV3 dc3 pm3 an3 cd3 ct3), sl3⟩)
    (c3 : PySem.W.codeIn K cd3 "is_pattern" = true)
    (k3 : PySem.W.keepIn K (.ref f3) = true)
    (a4 : PySem.W.nsIn K mainGlobals "check_letters" = some (some (.ref f4)))
    (l4 : K.lookup f4 = some ⟨oc4, od4, .func (PySem.W.fnOf "check_letters" "check_letters" (defArgs s4) (defBody s4) (defScope s4) .none kV4 dc4 pm4 an4 cd4 ct4), sl4⟩)
    (c4 : PySem.W.codeIn K cd4 "check_letters" = true)
    (k4 : PySem.W.keepIn K (.ref f4) = true)
    (a5 : PySem.W.nsIn K mainGlobals "check_pattern" = some (some (.ref f5)))
    (l5 : K.lookup f5 = some ⟨oc5, od5, .func (PySem.W.fnOf "check_pattern" "check_pattern" (defArgs s5) (defBody s5) (defScope s5) .none kV5 dc5 pm5 an5 cd5 ct5), sl5⟩)
    (c5 : PySem.W.codeIn K cd5 "check_pattern" = true)
    (k5 : PySem.W.keepIn K (.ref f5) = true)
    (a6 : PySem.W.nsIn K mainGlobals "check_number" = some (some (.ref f6)))
    (l6 : K.lookup f6 = some ⟨oc6, od6, .func (PySem.W.fnOf "check_number" "check_number" (defArgs s6) (defBody s6) (defScope s6) .none kV6 dc6 pm6 an6 cd6 ct6), sl6⟩)
    (c6 : PySem.W.codeIn K cd6 "check_number" = true)
    (k6 : PySem.W.keepIn K (.ref f6) = true)
    (a7 : PySem.W.nsIn K mainGlobals "check_depth" = some (some (.ref f7)))
    (l7 : K.lookup f7 = some ⟨oc7, od7, .func (PySem.W.fnOf "check_depth" "check_depth" (defArgs s7) (defBody s7) (defScope s7) .none kV7 dc7 pm7 an7 cd7 ct7), sl7⟩)
    (c7 : PySem.W.codeIn K cd7 "check_depth" = true)
    (k7 : PySem.W.keepIn K (.ref f7) = true)
    (a8 : PySem.W.nsIn K mainGlobals "_is_string" = some (some (.ref f8)))
    (l8 : K.lookup f8 = some ⟨oc8, od8, .func (PySem.W.fnOf "_is_string" "_is_string" (defArgs s8) (defBody s8) (defScope s8) .none kV8 dc8 pm8 an8 cd8 ct8), sl8⟩)
    (c8 : PySem.W.codeIn K cd8 "_is_string" = true)
    (k8 : PySem.W.keepIn K (.ref f8) = true)
    (a9 : PySem.W.nsIn K mainGlobals "_has_only" = some (some (.ref f9)))
    (l9 : K.lookup f9 = some ⟨oc9, od9, .func (PySem.W.fnOf "_has_only" "_has_only" (defArgs s9) (defBody s9) (defScope s9) .none kV9 dc9 pm9 an9 cd9 ct9), sl9⟩)
    (c9 : PySem.W.codeIn K cd9 "_has_only" = true)
    (k9 : PySem.W.keepIn K (.ref f9) = true)
    (a10 : PySem.W.nsIn K mainGlobals "is_leading" = some (some (.ref f10)))
    (l10 : K.lookup f10 = some ⟨oc10, od10, .func (PySem.W.fnOf "is_leading" "is_leading" (defArgs s10) (defBody s10) (defScope s10) .none kV10 dc10 pm10 an10 cd10 ct10), sl10⟩)
    (c10 : PySem.W.codeIn K cd10 "is_leading" = true)
    (k10 : PySem.W.keepIn K (.ref f10) = true)
    (a11 : PySem.W.nsIn K mainGlobals "factors" = some (some (.ref f11)))
    (l11 : K.lookup f11 = some ⟨oc11, od11, .func (PySem.W.fnOf "factors" "factors" (defArgs s11) (defBody s11) (defScope s11) .none kV11 dc11 pm11 an11 cd11 ct11), sl11⟩)
    (c11 : PySem.W.codeIn K cd11 "factors" = true)
    (k11 : PySem.W.keepIn K (.ref f11) = true)
    (a12 : PySem.W.nsIn K mainGlobals "halves" = some (some (.ref f12)))
    (l12 : K.lookup f12 = some ⟨oc12, od12, .func (PySem.W.fnOf "halves" "halves" (defArgs s12) (defBody s12) (defScope s12) .none kV12 dc12 pm12 an12 cd12 ct12), sl12⟩)
    (c12 : PySem.W.codeIn K cd12 "halves" = true)
    (k12 : PySem.W.keepIn K (.ref f12) = true)
    (a13 : PySem.W.nsIn K mainGlobals "patterns_of" = some (some (.ref f13)))
    (l13 : K.lookup f13 = some ⟨oc13, od13, .func (PySem.W.fnOf "patterns_of" "patterns_of" (defArgs s13) (defBody s13) (defScope s13) .none kV13 dc13 pm13 an13 cd13 ct13), sl13⟩)
    (c13 : PySem.W.codeIn K cd13 "patterns_of" = true)
    (k13 : PySem.W.keepIn K (.ref f13) = true)
    (a14 : PySem.W.nsIn K mainGlobals "leading_of" = some (some (.ref f14)))
    (l14 : K.lookup f14 = some ⟨oc14, od14, .func (PySem.W.fnOf "leading_of" "leading_of" (defArgs s14) (defBody s14) (defScope s14) .none kV14 dc14 pm14 an14 cd14 ct14), sl14⟩)
    (c14 : PySem.W.codeIn K cd14 "leading_of" = true)
    (k14 : PySem.W.keepIn K (.ref f14) = true)
    (a15 : PySem.W.nsIn K mainGlobals "how_many" = some (some (.ref f15)))
    (l15 : K.lookup f15 = some ⟨oc15, od15, .func (PySem.W.fnOf "how_many" "how_many" (defArgs s15) (defBody s15) (defScope s15) .none kV15 dc15 pm15 an15 cd15 ct15), sl15⟩)
    (c15 : PySem.W.codeIn K cd15 "how_many" = true)
    (k15 : PySem.W.keepIn K (.ref f15) = true)
    (a16 : PySem.W.nsIn K mainGlobals "halves_of" = some (some (.ref f16)))
    (l16 : K.lookup f16 = some ⟨oc16, od16, .func (PySem.W.fnOf "halves_of" "halves_of" (defArgs s16) (defBody s16) (defScope s16) .none kV16 dc16 pm16 an16 cd16 ct16), sl16⟩)
    (c16 : PySem.W.codeIn K cd16 "halves_of" = true)
    (k16 : PySem.W.keepIn K (.ref f16) = true)
    (a17 : PySem.W.nsIn K mainGlobals "_leads" = some (some (.ref f17)))
    (l17 : K.lookup f17 = some ⟨oc17, od17, .func (PySem.W.fnOf "_leads" "_leads" (defArgs s17) (defBody s17) (defScope s17) .none kV17 dc17 pm17 an17 cd17 ct17), sl17⟩)
    (c17 : PySem.W.codeIn K cd17 "_leads" = true)
    (k17 : PySem.W.keepIn K (.ref f17) = true)
    (a18 : PySem.W.nsIn K mainGlobals "_factors" = some (some (.ref f18)))
    (l18 : K.lookup f18 = some ⟨oc18, od18, .func (PySem.W.fnOf "_factors" "_factors" (defArgs s18) (defBody s18) (defScope s18) .none kV18 dc18 pm18 an18 cd18 ct18), sl18⟩)
    (c18 : PySem.W.codeIn K cd18 "_factors" = true)
    (k18 : PySem.W.keepIn K (.ref f18) = true)
    (a19 : PySem.W.nsIn K mainGlobals "_mark" = some (some (.ref f19)))
    (l19 : K.lookup f19 = some ⟨oc19, od19, .func (PySem.W.fnOf "_mark" "_mark" (defArgs s19) (defBody s19) (defScope s19) .none kV19 dc19 pm19 an19 cd19 ct19), sl19⟩)
    (c19 : PySem.W.codeIn K cd19 "_mark" = true)
    (k19 : PySem.W.keepIn K (.ref f19) = true)
    (a20 : PySem.W.nsIn K mainGlobals "_power" = some (some (.ref f20)))
    (l20 : K.lookup f20 = some ⟨oc20, od20, .func (PySem.W.fnOf "_power" "_power" (defArgs s20) (defBody s20) (defScope s20) .none kV20 dc20 pm20 an20 cd20 ct20), sl20⟩)
    (c20 : PySem.W.codeIn K cd20 "_power" = true)
    (k20 : PySem.W.keepIn K (.ref f20) = true)
    (a21 : PySem.W.nsIn K mainGlobals "_law_tray" = some (some (.ref f21)))
    (l21 : K.lookup f21 = some ⟨oc21, od21, .func (PySem.W.fnOf "_law_tray" "_law_tray" (defArgs s21) (defBody s21) (defScope s21) .none kV21 dc21 pm21 an21 cd21 ct21), sl21⟩)
    (c21 : PySem.W.codeIn K cd21 "_law_tray" = true)
    (k21 : PySem.W.keepIn K (.ref f21) = true)
    (a22 : PySem.W.nsIn K mainGlobals "_law_bit" = some (some (.ref f22)))
    (l22 : K.lookup f22 = some ⟨oc22, od22, .func (PySem.W.fnOf "_law_bit" "_law_bit" (defArgs s22) (defBody s22) (defScope s22) .none kV22 dc22 pm22 an22 cd22 ct22), sl22⟩)
    (c22 : PySem.W.codeIn K cd22 "_law_bit" = true)
    (k22 : PySem.W.keepIn K (.ref f22) = true)
    (a23 : PySem.W.nsIn K mainGlobals "_law_pick" = some (some (.ref f23)))
    (l23 : K.lookup f23 = some ⟨oc23, od23, .func (PySem.W.fnOf "_law_pick" "_law_pick" (defArgs s23) (defBody s23) (defScope s23) .none kV23 dc23 pm23 an23 cd23 ct23), sl23⟩)
    (c23 : PySem.W.codeIn K cd23 "_law_pick" = true)
    (k23 : PySem.W.keepIn K (.ref f23) = true)
    (a24 : PySem.W.nsIn K mainGlobals "_law_met" = some (some (.ref f24)))
    (l24 : K.lookup f24 = some ⟨oc24, od24, .func (PySem.W.fnOf "_law_met" "_law_met" (defArgs s24) (defBody s24) (defScope s24) .none kV24 dc24 pm24 an24 cd24 ct24), sl24⟩)
    (c24 : PySem.W.codeIn K cd24 "_law_met" = true)
    (k24 : PySem.W.keepIn K (.ref f24) = true)
    (a25 : PySem.W.nsIn K mainGlobals "_law_right" = some (some (.ref f25)))
    (l25 : K.lookup f25 = some ⟨oc25, od25, .func (PySem.W.fnOf "_law_right" "_law_right" (defArgs s25) (defBody s25) (defScope s25) .none kV25 dc25 pm25 an25 (.ref co25) ct25), sl25⟩)
    (c25 : PySem.W.codeIn K (.ref co25) "_law_right" = true)
    (k25 : PySem.W.keepIn K (.ref f25) = true)
    (a26 : PySem.W.nsIn K mainGlobals "law" = some (some (.ref f26)))
    (l26 : K.lookup f26 = some ⟨oc26, od26, .func (PySem.W.fnOf "law" "law" (defArgs s26) (defBody s26) (defScope s26) .none kV26 dc26 pm26 an26 (.ref co26) ct26), sl26⟩)
    (c26 : PySem.W.codeIn K (.ref co26) "law" = true)
    (k26 : PySem.W.keepIn K (.ref f26) = true)
    (q25 : K.lookup co25 = some ⟨.type "code", qd25, .fields qv25, qs25⟩)
    (q11_25 : qv25[11]? = some (.ref P25))
    (q18_25 : qv25.getD 18 .none = .str qf25 qt25)
    (q7_25 : qv25.getD 7 .none = .int qi25 qu25)
    (q9_25 : qv25.getD 9 .none = .bool qb25)
    (q10_25 : qv25.getD 10 .none = .int qj25 qw25)
    (qn_25 : Nat.beq co25 P25 = false)
    (qp_25 : K.lookup P25 = none)
    (q26 : K.lookup co26 = some ⟨.type "code", qd26, .fields qv26, qs26⟩)
    (q11_26 : qv26[11]? = some (.ref P26))
    (q18_26 : qv26.getD 18 .none = .str qf26 qt26)
    (q7_26 : qv26.getD 7 .none = .int qi26 qu26)
    (q9_26 : qv26.getD 9 .none = .bool qb26)
    (q10_26 : qv26.getD 10 .none = .int qj26 qw26)
    (qn_26 : Nat.beq co26 P26 = false)
    (qp_26 : K.lookup P26 = none)
    (qq25_26 : Nat.beq P25 P26 = false)
    (xa0 : PySem.W.nsIn K mainGlobals "CountError" = some (some (.ref x0)))
    (xs0_ : PySem.W.subIn K (.ref x0) (.type "BaseException") = some true)
    (xt0 : PySem.W.typeIn K (.ref x0) = some (.type "type"))
    (xk0 : PySem.W.keepIn K (.ref x0) = true)
    (xic0 : PySem.W.isClsIn K x0 = true)
    (xe0 : PySem.W.excIn K x0 [.type "ValueError", .type "Exception", .type "BaseException", .type "object"] "ValueError.__new__" = true)
    (xa1 : PySem.W.nsIn K mainGlobals "InvalidLetters" = some (some (.ref x1)))
    (xs1_ : PySem.W.subIn K (.ref x1) (.type "BaseException") = some true)
    (xt1 : PySem.W.typeIn K (.ref x1) = some (.type "type"))
    (xk1 : PySem.W.keepIn K (.ref x1) = true)
    (xic1 : PySem.W.isClsIn K x1 = true)
    (xe1 : PySem.W.excIn K x1 [.type "ValueError", .type "Exception", .type "BaseException", .type "object"] "ValueError.__new__" = true)
    (xa2 : PySem.W.nsIn K mainGlobals "InvalidPattern" = some (some (.ref x2)))
    (xs2_ : PySem.W.subIn K (.ref x2) (.type "BaseException") = some true)
    (xt2 : PySem.W.typeIn K (.ref x2) = some (.type "type"))
    (xk2 : PySem.W.keepIn K (.ref x2) = true)
    (xic2 : PySem.W.isClsIn K x2 = true)
    (xe2 : PySem.W.excIn K x2 [.type "ValueError", .type "Exception", .type "BaseException", .type "object"] "ValueError.__new__" = true)
    (xa3 : PySem.W.nsIn K mainGlobals "InvalidOperation" = some (some (.ref x3)))
    (xs3_ : PySem.W.subIn K (.ref x3) (.type "BaseException") = some true)
    (xt3 : PySem.W.typeIn K (.ref x3) = some (.type "type"))
    (xk3 : PySem.W.keepIn K (.ref x3) = true)
    (xic3 : PySem.W.isClsIn K x3 = true)
    (xe3 : PySem.W.excIn K x3 [.type "ValueError", .type "Exception", .type "BaseException", .type "object"] "ValueError.__new__" = true)
    (xa4 : PySem.W.nsIn K mainGlobals "InvalidNumber" = some (some (.ref x4)))
    (xs4_ : PySem.W.subIn K (.ref x4) (.type "BaseException") = some true)
    (xt4 : PySem.W.typeIn K (.ref x4) = some (.type "type"))
    (xk4 : PySem.W.keepIn K (.ref x4) = true)
    (xic4 : PySem.W.isClsIn K x4 = true)
    (xq4 : K.lookup x4 = some (excClassObj xnm4 xqn4 x4 xN_4 xbs4 ([.type "IndexError", .type "LookupError", .type "Exception", .type "BaseException", .type "object"]) true xsn4 xsub4 xab4 xcol4 xdd4 xm04 xm14 xm24 xm34 xm54 "IndexError.__new__"))
    (xsa4 : PySem.W.findIn K (.ref x4) "__setattr__" = some (some (.builtin "object.__setattr__")))
    (xga4 : PySem.W.findIn K (.ref x4) "__getattribute__" = some (some (.builtin "BaseException.__getattribute__")))
    (xgg4 : PySem.W.findIn K (.ref x4) "__getattr__" = some none)
    (xhd4 : PySem.W.hasDictIn K x4 = true)
    (xi4 : PySem.W.findIn K (.ref x4) "__init__" = some (some (.ref xf4)))
    (xti4 : PySem.W.typeIn K (.ref xf4) = some (.type "function"))
    (xl4 : K.lookup xf4 = some ⟨xoc4, xod4, .func (PySem.W.fnOf "__init__" "InvalidNumber.__init__" (defArgs xs4) (defBody xs4) (defScope xs4) .none xkV4 xdc4 xpm4 xan4 xcd4 xct4), xsl4⟩)
    (xc4 : PySem.W.codeIn K xcd4 "InvalidNumber.__init__" = true)
    (xkp4 : PySem.W.keepIn K (.ref xf4) = true)
    (xn4_0 : PySem.W.findIn K (.ref x4) "value" = some none)
    (xg4 : PySem.W.nsIn K mainGlobals "IndexError" = some none)
    (xv4 : PySem.W.findCls K (.type "IndexError") (.type "type") "__init__" = some (.val (.builtin "IndexError.__init__")))
    (m0_0 : PySem.W.subIn K (.ref x0) (.ref x0) = some true)
    (m0_1 : PySem.W.subIn K (.ref x0) (.ref x1) = some false)
    (m0_2 : PySem.W.subIn K (.ref x0) (.ref x2) = some false)
    (m0_3 : PySem.W.subIn K (.ref x0) (.ref x3) = some false)
    (m0_4 : PySem.W.subIn K (.ref x0) (.ref x4) = some false)
    (m1_0 : PySem.W.subIn K (.ref x1) (.ref x0) = some true)
    (m1_1 : PySem.W.subIn K (.ref x1) (.ref x1) = some true)
    (m1_2 : PySem.W.subIn K (.ref x1) (.ref x2) = some false)
    (m1_3 : PySem.W.subIn K (.ref x1) (.ref x3) = some false)
    (m1_4 : PySem.W.subIn K (.ref x1) (.ref x4) = some false)
    (m2_0 : PySem.W.subIn K (.ref x2) (.ref x0) = some true)
    (m2_1 : PySem.W.subIn K (.ref x2) (.ref x1) = some false)
    (m2_2 : PySem.W.subIn K (.ref x2) (.ref x2) = some true)
    (m2_3 : PySem.W.subIn K (.ref x2) (.ref x3) = some false)
    (m2_4 : PySem.W.subIn K (.ref x2) (.ref x4) = some false)
    (m3_0 : PySem.W.subIn K (.ref x3) (.ref x0) = some true)
    (m3_1 : PySem.W.subIn K (.ref x3) (.ref x1) = some false)
    (m3_2 : PySem.W.subIn K (.ref x3) (.ref x2) = some false)
    (m3_3 : PySem.W.subIn K (.ref x3) (.ref x3) = some true)
    (m3_4 : PySem.W.subIn K (.ref x3) (.ref x4) = some false)
    (m4_0 : PySem.W.subIn K (.ref x4) (.ref x0) = some false)
    (m4_1 : PySem.W.subIn K (.ref x4) (.ref x1) = some false)
    (m4_2 : PySem.W.subIn K (.ref x4) (.ref x2) = some false)
    (m4_3 : PySem.W.subIn K (.ref x4) (.ref x3) = some false)
    (m4_4 : PySem.W.subIn K (.ref x4) (.ref x4) = some true)
    (z0 : PySem.W.nsIn K mainGlobals "abs" = some none)
    (z1 : PySem.W.nsIn K mainGlobals "int" = some none)
    (z2 : PySem.W.nsIn K mainGlobals "len" = some none)
    (z3 : PySem.W.nsIn K mainGlobals "list" = some none)
    (z4 : PySem.W.nsIn K mainGlobals "max" = some none)
    (z5 : PySem.W.nsIn K mainGlobals "min" = some none)
    (z6 : PySem.W.nsIn K mainGlobals "repr" = some none)
    (z7 : PySem.W.nsIn K mainGlobals "str" = some none)
    (z8 : PySem.W.nsIn K mainGlobals "sum" = some none)
    (z9 : PySem.W.nsIn K mainGlobals "tuple" = some none)
    (z10 : PySem.W.nsIn K mainGlobals "sorted" = some none)
    (z11 : PySem.W.nsIn K mainGlobals "all" = some none)
    (z12 : PySem.W.nsIn K mainGlobals "any" = some none)
    (z13 : PySem.W.nsIn K mainGlobals "set" = some none)
    (z14 : PySem.W.nsIn K mainGlobals "isinstance" = some none)
    (z15 : PySem.W.nsIn K mainGlobals "range" = some none)
    (z16 : PySem.W.nsIn K mainGlobals "zip" = some none)
    (z17 : PySem.W.nsIn K mainGlobals "enumerate" = some none)
    (z18 : PySem.W.nsIn K mainGlobals "bool" = some none)
    (z19 : PySem.W.nsIn K mainGlobals "dict" = some none)
    (z20 : PySem.W.nsIn K mainGlobals "iter" = some none)
    (d0 : ∃ t, PySem.W.nsIn K mainGlobals "MAX_PATTERN" = some (some (.int (400) t)))
    (d1 : ∃ t, PySem.W.nsIn K mainGlobals "MAX_DEPTH" = some (some (.int (5) t)))
    (d2 : ∃ t, PySem.W.nsIn K mainGlobals "MAX_INTEGER" = some (some (.int (99999999999999999999999999999999999999999999999999999999999999999999999999999999999999999999999999999999999999999999999999999999999999999999999999999999999999999999999999999999999999999999999999999999) t)))
    (d3 : ∃ t, PySem.W.nsIn K mainGlobals "_MAX_LETTERS" = some (some (.int (3) t)))
    (d4 : ∃ t, PySem.W.nsIn K mainGlobals "_ALPHABET" = some (some (.str "abcdefghijklmnopqrstuvwxyz" t)))
    : ∃ L : Kl, Mod K mg L G gl fdn ∧ TabsIn K h L.cs ∧ (∀ p ∈ L.tb, ∃ r ∈ L.cs, r.2 = p.1) ∧ L.fa 26 = fa ∧ L.ps 26 = [("script" : Str)] ∧ ∀ (s : Shared) (u : Value), BindsTo s (L.fd 26) ⟨[u], []⟩ [("script", u)] := by
  have e : f26 = fa := by simpa using (PySem.W.mg_of X GN a26).symm.trans hfa
  subst e
  have F0 := fun_mk (st := s0) l0 c0 k0
  have b0 := F0.binds (ps := ["value"]) fun _ _ _ _ _ _ us hl => match us, hl with | [_], _ => rfl
  have F1 := fun_mk (st := s1) l1 c1 k1
  have b1 := F1.binds (ps := ["value"]) fun _ _ _ _ _ _ us hl => match us, hl with | [_], _ => rfl
  have F2 := fun_mk (st := s2) l2 c2 k2
  have b2 := F2.binds (ps := ["value"]) fun _ _ _ _ _ _ us hl => match us, hl with | [_], _ => rfl
  have F3 := fun_mk (st := s3) l3 c3 k3
  have b3 := F3.binds (ps := ["letters", "value"]) fun _ _ _ _ _ _ us hl => match us, hl with | [_, _], _ => rfl
  have F4 := fun_mk (st := s4) l4 c4 k4
  have b4 := F4.binds (ps := ["value"]) fun _ _ _ _ _ _ us hl => match us, hl with | [_], _ => rfl
  have F5 := fun_mk (st := s5) l5 c5 k5
  have b5 := F5.binds (ps := ["letters", "value"]) fun _ _ _ _ _ _ us hl => match us, hl with | [_, _], _ => rfl
  have F6 := fun_mk (st := s6) l6 c6 k6
  have b6 := F6.binds (ps := ["value", "least", "most"]) fun _ _ _ _ _ _ us hl => match us, hl with | [_, _, _], _ => rfl
  have F7 := fun_mk (st := s7) l7 c7 k7
  have b7 := F7.binds (ps := ["value"]) fun _ _ _ _ _ _ us hl => match us, hl with | [_], _ => rfl
  have F8 := fun_mk (st := s8) l8 c8 k8
  have b8 := F8.binds (ps := ["value", "least", "most"]) fun _ _ _ _ _ _ us hl => match us, hl with | [_, _, _], _ => rfl
  have F9 := fun_mk (st := s9) l9 c9 k9
  have b9 := F9.binds (ps := ["text", "signs"]) fun _ _ _ _ _ _ us hl => match us, hl with | [_, _], _ => rfl
  have F10 := fun_mk (st := s10) l10 c10 k10
  have b10 := F10.binds (ps := ["letters", "value"]) fun _ _ _ _ _ _ us hl => match us, hl with | [_, _], _ => rfl
  have F11 := fun_mk (st := s11) l11 c11 k11
  have b11 := F11.binds (ps := ["letters", "pattern"]) fun _ _ _ _ _ _ us hl => match us, hl with | [_, _], _ => rfl
  have F12 := fun_mk (st := s12) l12 c12 k12
  have b12 := F12.binds (ps := ["letters", "pattern"]) fun _ _ _ _ _ _ us hl => match us, hl with | [_, _], _ => rfl
  have F13 := fun_mk (st := s13) l13 c13 k13
  have b13 := F13.binds (ps := ["letters", "depth"]) fun _ _ _ _ _ _ us hl => match us, hl with | [_, _], _ => rfl
  have F14 := fun_mk (st := s14) l14 c14 k14
  have b14 := F14.binds (ps := ["letters", "depth"]) fun _ _ _ _ _ _ us hl => match us, hl with | [_, _], _ => rfl
  have F15 := fun_mk (st := s15) l15 c15 k15
  have b15 := F15.binds (ps := ["letters", "size"]) fun _ _ _ _ _ _ us hl => match us, hl with | [_, _], _ => rfl
  have F16 := fun_mk (st := s16) l16 c16 k16
  have b16 := F16.binds (ps := ["pattern"]) fun _ _ _ _ _ _ us hl => match us, hl with | [_], _ => rfl
  have F17 := fun_mk (st := s17) l17 c17 k17
  have b17 := F17.binds (ps := ["pattern"]) fun _ _ _ _ _ _ us hl => match us, hl with | [_], _ => rfl
  have F18 := fun_mk (st := s18) l18 c18 k18
  have b18 := F18.binds (ps := ["pattern"]) fun _ _ _ _ _ _ us hl => match us, hl with | [_], _ => rfl
  have F19 := fun_mk (st := s19) l19 c19 k19
  have b19 := F19.binds (ps := ["number"]) fun _ _ _ _ _ _ us hl => match us, hl with | [_], _ => rfl
  have F20 := fun_mk (st := s20) l20 c20 k20
  have b20 := F20.binds (ps := ["number", "size"]) fun _ _ _ _ _ _ us hl => match us, hl with | [_, _], _ => rfl
  have F21 := fun_mk (st := s21) l21 c21 k21
  have b21 := F21.binds (ps := ["script", "at"]) fun _ _ _ _ _ _ us hl => match us, hl with | [_, _], _ => rfl
  have F22 := fun_mk (st := s22) l22 c22 k22
  have b22 := F22.binds (ps := ["tray", "much"]) fun _ _ _ _ _ _ us hl => match us, hl with | [_, _], _ => rfl
  have F23 := fun_mk (st := s23) l23 c23 k23
  have b23 := F23.binds (ps := ["tray", "items"]) fun _ _ _ _ _ _ us hl => match us, hl with | [_, _], _ => rfl
  have F24 := fun_mk (st := s24) l24 c24 k24
  have b24 := F24.binds (ps := ["call"]) fun _ _ _ _ _ _ us hl => match us, hl with | [_], _ => rfl
  have F25 := fun_mk (st := s25) l25 c25 k25
  have b25 := F25.binds (ps := ["tray"]) fun _ _ _ _ _ _ us hl => match us, hl with | [_], _ => rfl
  have F26 := fun_mk (st := s26) l26 c26 k26
  have b26 := F26.binds (ps := ["script"]) fun _ _ _ _ _ _ us hl => match us, hl with | [_], _ => rfl
  have xF4 := fun_mk (st := xs4) xl4 xc4 xkp4
  have xB4 := xF4.binds (ps := ["self", "value"]) fun _ _ _ _ _ _ us hl => match us, hl with | [_, _], _ => rfl
  have T25 := tab_of X l25 rfl q25 q11_25 q18_25 q7_25 q9_25 q10_25 qn_25 qp_25 (own.1 _ (PySem.W.mg_of X GN a25))
  have T26 := tab_of X l26 rfl q26 q11_26 q18_26 q7_26 q9_26 q10_26 qn_26 qp_26 (own.2.1 _ (PySem.W.mg_of X GN a26))
  obtain ⟨t0, d0⟩ := d0
  obtain ⟨t1, d1⟩ := d1
  obtain ⟨t2, d2⟩ := d2
  obtain ⟨t3, d3⟩ := d3
  obtain ⟨t4, d4⟩ := d4
  let L : Kl := { ad := fun _ => 0, fl := fun _ => [], cv := fun _ => .non, fa := fun i => match i with | 0 => f0 | 1 => f1 | 2 => f2 | 3 => f3 | 4 => f4 | 5 => f5 | 6 => f6 | 7 => f7 | 8 => f8 | 9 => f9 | 10 => f10 | 11 => f11 | 12 => f12 | 13 => f13 | 14 => f14 | 15 => f15 | 16 => f16 | 17 => f17 | 18 => f18 | 19 => f19 | 20 => f20 | 21 => f21 | 22 => f22 | 23 => f23 | 24 => f24 | 25 => f25 | 26 => f26 | _ => f0, fd := fun i => match i with | 0 => (PySem.W.fnOf "_copied" "_copied" (defArgs s0) (defBody s0) (defScope s0) .none kV0 dc0 pm0 an0 cd0 ct0) | 1 => (PySem.W.fnOf "is_integer" "is_integer" (defArgs s1) (defBody s1) (defScope s1) .none kV1 dc1 pm1 an1 cd1 ct1) | 2 => (PySem.W.fnOf "is_letters" "is_letters" (defArgs s2) (defBody s2) (defScope s2) .none kV2 dc2 pm2 an2 cd2 ct2) | 3 => (PySem.W.fnOf "is_pattern" "is_pattern" (defArgs s3) (defBody s3) (defScope s3) .none kV3 dc3 pm3 an3 cd3 ct3) | 4 => (PySem.W.fnOf "check_letters" "check_letters" (defArgs s4) (defBody s4) (defScope s4) .none kV4 dc4 pm4 an4 cd4 ct4) | 5 => (PySem.W.fnOf "check_pattern" "check_pattern" (defArgs s5) (defBody s5) (defScope s5) .none kV5 dc5 pm5 an5 cd5 ct5) | 6 => (PySem.W.fnOf "check_number" "check_number" (defArgs s6) (defBody s6) (defScope s6) .none kV6 dc6 pm6 an6 cd6 ct6) | 7 => (PySem.W.fnOf "check_depth" "check_depth" (defArgs s7) (defBody s7) (defScope s7) .none kV7 dc7 pm7 an7 cd7 ct7) | 8 => (PySem.W.fnOf "_is_string" "_is_string" (defArgs s8) (defBody s8) (defScope s8) .none kV8 dc8 pm8 an8 cd8 ct8) | 9 => (PySem.W.fnOf "_has_only" "_has_only" (defArgs s9) (defBody s9) (defScope s9) .none kV9 dc9 pm9 an9 cd9 ct9) | 10 => (PySem.W.fnOf "is_leading" "is_leading" (defArgs s10) (defBody s10) (defScope s10) .none kV10 dc10 pm10 an10 cd10 ct10) | 11 => (PySem.W.fnOf "factors" "factors" (defArgs s11) (defBody s11) (defScope s11) .none kV11 dc11 pm11 an11 cd11 ct11) | 12 => (PySem.W.fnOf "halves" "halves" (defArgs s12) (defBody s12) (defScope s12) .none kV12 dc12 pm12 an12 cd12 ct12) | 13 => (PySem.W.fnOf "patterns_of" "patterns_of" (defArgs s13) (defBody s13) (defScope s13) .none kV13 dc13 pm13 an13 cd13 ct13) | 14 => (PySem.W.fnOf "leading_of" "leading_of" (defArgs s14) (defBody s14) (defScope s14) .none kV14 dc14 pm14 an14 cd14 ct14) | 15 => (PySem.W.fnOf "how_many" "how_many" (defArgs s15) (defBody s15) (defScope s15) .none kV15 dc15 pm15 an15 cd15 ct15) | 16 => (PySem.W.fnOf "halves_of" "halves_of" (defArgs s16) (defBody s16) (defScope s16) .none kV16 dc16 pm16 an16 cd16 ct16) | 17 => (PySem.W.fnOf "_leads" "_leads" (defArgs s17) (defBody s17) (defScope s17) .none kV17 dc17 pm17 an17 cd17 ct17) | 18 => (PySem.W.fnOf "_factors" "_factors" (defArgs s18) (defBody s18) (defScope s18) .none kV18 dc18 pm18 an18 cd18 ct18) | 19 => (PySem.W.fnOf "_mark" "_mark" (defArgs s19) (defBody s19) (defScope s19) .none kV19 dc19 pm19 an19 cd19 ct19) | 20 => (PySem.W.fnOf "_power" "_power" (defArgs s20) (defBody s20) (defScope s20) .none kV20 dc20 pm20 an20 cd20 ct20) | 21 => (PySem.W.fnOf "_law_tray" "_law_tray" (defArgs s21) (defBody s21) (defScope s21) .none kV21 dc21 pm21 an21 cd21 ct21) | 22 => (PySem.W.fnOf "_law_bit" "_law_bit" (defArgs s22) (defBody s22) (defScope s22) .none kV22 dc22 pm22 an22 cd22 ct22) | 23 => (PySem.W.fnOf "_law_pick" "_law_pick" (defArgs s23) (defBody s23) (defScope s23) .none kV23 dc23 pm23 an23 cd23 ct23) | 24 => (PySem.W.fnOf "_law_met" "_law_met" (defArgs s24) (defBody s24) (defScope s24) .none kV24 dc24 pm24 an24 cd24 ct24) | 25 => (PySem.W.fnOf "_law_right" "_law_right" (defArgs s25) (defBody s25) (defScope s25) .none kV25 dc25 pm25 an25 (.ref co25) ct25) | 26 => (PySem.W.fnOf "law" "law" (defArgs s26) (defBody s26) (defScope s26) .none kV26 dc26 pm26 an26 (.ref co26) ct26) | _ => (PySem.W.fnOf "_copied" "_copied" (defArgs s0) (defBody s0) (defScope s0) .none kV0 dc0 pm0 an0 cd0 ct0), ps := fun i => match i with | 0 => ["value"] | 1 => ["value"] | 2 => ["value"] | 3 => ["letters", "value"] | 4 => ["value"] | 5 => ["letters", "value"] | 6 => ["value", "least", "most"] | 7 => ["value"] | 8 => ["value", "least", "most"] | 9 => ["text", "signs"] | 10 => ["letters", "value"] | 11 => ["letters", "pattern"] | 12 => ["letters", "pattern"] | 13 => ["letters", "depth"] | 14 => ["letters", "depth"] | 15 => ["letters", "size"] | 16 => ["pattern"] | 17 => ["pattern"] | 18 => ["pattern"] | 19 => ["number"] | 20 => ["number", "size"] | 21 => ["script", "at"] | 22 => ["tray", "much"] | 23 => ["tray", "items"] | 24 => ["call"] | 25 => ["tray"] | 26 => ["script"] | _ => [], xv := fun i => match i with | 0 => .ref x0 | 1 => .ref x1 | 2 => .ref x2 | 3 => .ref x3 | 4 => .ref x4 | _ => .none, tb := [(P25, lamQ "_law_right"), (P26, lamQ "law")], cs := [(co25, P25), (co26, P26)], nm := nmO }
  have bn : ∀ x ∈ bnames, mg x = none := mem_cons (PySem.W.mg_none_of X GN z0) (mem_cons (PySem.W.mg_none_of X GN z1) (mem_cons (PySem.W.mg_none_of X GN z2) (mem_cons (PySem.W.mg_none_of X GN z3) (mem_cons (PySem.W.mg_none_of X GN z4) (mem_cons (PySem.W.mg_none_of X GN z5) (mem_cons (PySem.W.mg_none_of X GN z6) (mem_cons (PySem.W.mg_none_of X GN z7) (mem_cons (PySem.W.mg_none_of X GN z8) (mem_cons (PySem.W.mg_none_of X GN z9) (mem_cons (PySem.W.mg_none_of X GN z10) (mem_cons (PySem.W.mg_none_of X GN z11) (mem_cons (PySem.W.mg_none_of X GN z12) (mem_cons (PySem.W.mg_none_of X GN z13) (mem_cons (PySem.W.mg_none_of X GN z14) (mem_cons (PySem.W.mg_none_of X GN z15) (mem_cons (PySem.W.mg_none_of X GN z16) (mem_cons (PySem.W.mg_none_of X GN z17) (mem_cons (PySem.W.mg_none_of X GN z18) (mem_cons (PySem.W.mg_none_of X GN z19) (mem_cons (PySem.W.mg_none_of X GN z20) (mem_nil)))))))))))))))))))))
  have df : ∀ f c, G.code f = some c → DefOk K L gl fdn f c := by
    intro f c h
    match f, h with
    | 0, h => cases h; exact ⟨⟨"_copied", "_copied", s0, N0, 60, 60, false, F0, sc0, rfl, rfl, rfl, fun z => nomatch z⟩, b0, k0⟩
    | 1, h => cases h; exact ⟨⟨"is_integer", "is_integer", s1, N1, 60, 60, false, F1, sc1, rfl, rfl, rfl, fun z => nomatch z⟩, b1, k1⟩
    | 2, h => cases h; exact ⟨⟨"is_letters", "is_letters", s2, N2, 60, 60, false, F2, sc2, rfl, rfl, rfl, fun z => nomatch z⟩, b2, k2⟩
    | 3, h => cases h; exact ⟨⟨"is_pattern", "is_pattern", s3, N3, 60, 60, false, F3, sc3, rfl, rfl, rfl, fun z => nomatch z⟩, b3, k3⟩
    | 4, h => cases h; exact ⟨⟨"check_letters", "check_letters", s4, N4, 60, 60, false, F4, sc4, rfl, rfl, rfl, fun z => nomatch z⟩, b4, k4⟩
    | 5, h => cases h; exact ⟨⟨"check_pattern", "check_pattern", s5, N5, 60, 60, false, F5, sc5, rfl, rfl, rfl, fun z => nomatch z⟩, b5, k5⟩
    | 6, h => cases h; exact ⟨⟨"check_number", "check_number", s6, N6, 60, 60, false, F6, sc6, rfl, rfl, rfl, fun z => nomatch z⟩, b6, k6⟩
    | 7, h => cases h; exact ⟨⟨"check_depth", "check_depth", s7, N7, 60, 60, false, F7, sc7, rfl, rfl, rfl, fun z => nomatch z⟩, b7, k7⟩
    | 8, h => cases h; exact ⟨⟨"_is_string", "_is_string", s8, N8, 60, 60, false, F8, sc8, rfl, rfl, rfl, fun z => nomatch z⟩, b8, k8⟩
    | 9, h => cases h; exact ⟨⟨"_has_only", "_has_only", s9, N9, 60, 60, false, F9, sc9, rfl, rfl, rfl, fun z => nomatch z⟩, b9, k9⟩
    | 10, h => cases h; exact ⟨⟨"is_leading", "is_leading", s10, N10, 60, 60, false, F10, sc10, rfl, rfl, rfl, fun z => nomatch z⟩, b10, k10⟩
    | 11, h => cases h; exact ⟨⟨"factors", "factors", s11, N11, 60, 60, false, F11, sc11, rfl, rfl, rfl, fun z => nomatch z⟩, b11, k11⟩
    | 12, h => cases h; exact ⟨⟨"halves", "halves", s12, N12, 60, 60, false, F12, sc12, rfl, rfl, rfl, fun z => nomatch z⟩, b12, k12⟩
    | 13, h => cases h; exact ⟨⟨"patterns_of", "patterns_of", s13, N13, 60, 60, false, F13, sc13, rfl, rfl, rfl, fun z => nomatch z⟩, b13, k13⟩
    | 14, h => cases h; exact ⟨⟨"leading_of", "leading_of", s14, N14, 60, 60, false, F14, sc14, rfl, rfl, rfl, fun z => nomatch z⟩, b14, k14⟩
    | 15, h => cases h; exact ⟨⟨"how_many", "how_many", s15, N15, 60, 60, false, F15, sc15, rfl, rfl, rfl, fun z => nomatch z⟩, b15, k15⟩
    | 16, h => cases h; exact ⟨⟨"halves_of", "halves_of", s16, N16, 60, 60, false, F16, sc16, rfl, rfl, rfl, fun z => nomatch z⟩, b16, k16⟩
    | 17, h => cases h; exact ⟨⟨"_leads", "_leads", s17, N17, 60, 60, false, F17, sc17, rfl, rfl, rfl, fun z => nomatch z⟩, b17, k17⟩
    | 18, h => cases h; exact ⟨⟨"_factors", "_factors", s18, N18, 60, 60, false, F18, sc18, rfl, rfl, rfl, fun z => nomatch z⟩, b18, k18⟩
    | 19, h => cases h; exact ⟨⟨"_mark", "_mark", s19, N19, 60, 60, false, F19, sc19, rfl, rfl, rfl, fun z => nomatch z⟩, b19, k19⟩
    | 20, h => cases h; exact ⟨⟨"_power", "_power", s20, N20, 60, 60, false, F20, sc20, rfl, rfl, rfl, fun z => nomatch z⟩, b20, k20⟩
    | 21, h => cases h; exact ⟨⟨"_law_tray", "_law_tray", s21, N21, 60, 60, false, F21, sc21, rfl, rfl, rfl, fun z => nomatch z⟩, b21, k21⟩
    | 22, h => cases h; exact ⟨⟨"_law_bit", "_law_bit", s22, N22, 60, 60, false, F22, sc22, rfl, rfl, rfl, fun z => nomatch z⟩, b22, k22⟩
    | 23, h => cases h; exact ⟨⟨"_law_pick", "_law_pick", s23, N23, 60, 60, false, F23, sc23, rfl, rfl, rfl, fun z => nomatch z⟩, b23, k23⟩
    | 24, h => cases h
    | 25, h =>
      cases h
      refine ⟨⟨"_law_right", "_law_right", s25, N25, 60, 60, true, F25, sc25, rfl, rfl, rfl, fun _ => ⟨co25, P25, ?_, rfl, ?_, ?_⟩⟩, b25, k25⟩
      · show (co25, P25) ∈ [(co25, P25), (co26, P26)]; simp
      · show (P25, lamQ "_law_right") ∈ [(P25, lamQ "_law_right"), (P26, lamQ "law")]; simp
      · show ∀ p ∈ [(P25, lamQ "_law_right"), (P26, lamQ "law")], p.1 = P25 → p.2 = lamQ "_law_right"
        exact mem_cons (fun _ => rfl) (mem_cons (fun z => absurd (show Nat.beq _ _ = true from Nat.beq_eq.mpr z.symm) (by rw [qq25_26]; simp)) (mem_nil))
    | 26, h =>
      cases h
      refine ⟨⟨"law", "law", s26, N26, 60, 60, true, F26, sc26, rfl, rfl, rfl, fun _ => ⟨co26, P26, ?_, rfl, ?_, ?_⟩⟩, b26, k26⟩
      · show (co26, P26) ∈ [(co25, P25), (co26, P26)]; simp
      · show (P26, lamQ "law") ∈ [(P25, lamQ "_law_right"), (P26, lamQ "law")]; simp
      · show ∀ p ∈ [(P25, lamQ "_law_right"), (P26, lamQ "law")], p.1 = P26 → p.2 = lamQ "law"
        exact mem_cons (fun z => absurd (show Nat.beq _ _ = true from Nat.beq_eq.mpr z) (by rw [qq25_26]; simp)) (mem_cons (fun _ => rfl) (mem_nil))
    | n + 27, h => exact absurd h (by show (codes[n + 27]?).join ≠ some c; rw [List.getElem?_eq_none (by show 27 ≤ n + 27; omega)]; exact fun z => nomatch z)
  have dl : ∀ f c, G.lcode f = some c → DefLOk K L gl fdn f c := by
    intro f c h
    match f, h with
    | 0, h => cases h
    | 1, h => cases h
    | 2, h => cases h
    | 3, h => cases h
    | 4, h => cases h
    | 5, h => cases h
    | 6, h => cases h
    | 7, h => cases h
    | 8, h => cases h
    | 9, h => cases h
    | 10, h => cases h
    | 11, h => cases h
    | 12, h => cases h
    | 13, h => cases h
    | 14, h => cases h
    | 15, h => cases h
    | 16, h => cases h
    | 17, h => cases h
    | 18, h => cases h
    | 19, h => cases h
    | 20, h => cases h
    | 21, h => cases h
    | 22, h => cases h
    | 23, h => cases h
    | 24, h => cases h; exact ⟨⟨"_law_met", "_law_met", "call", s24, N24, _, _, _, _, _, 60, 60, F24, sc24, rfl, .inl rfl, by decide +kernel, by decide +kernel, rfl, rfl, .expr, rfl, rfl, b24⟩, k24⟩
    | 25, h => cases h
    | 26, h => cases h
    | n + 27, h => exact absurd h (by show (lcodes[n + 27]?).join ≠ some c; rw [List.getElem?_eq_none (by show 27 ≤ n + 27; omega)]; exact fun z => nomatch z)
  have xm : ∀ c n b, G.sub c n = some b → PySem.W.exmOne K (L.xv c) (L.xv n) = some b := by
    intro c n b h
    match c, n, h with
    | 0, 0, h => cases h; exact exm_of xs0_ xs0_ xic0 xt0 m0_0
    | 0, 1, h => cases h; exact exm_of xs0_ xs1_ xic1 xt1 m0_1
    | 0, 2, h => cases h; exact exm_of xs0_ xs2_ xic2 xt2 m0_2
    | 0, 3, h => cases h; exact exm_of xs0_ xs3_ xic3 xt3 m0_3
    | 0, 4, h => cases h; exact exm_of xs0_ xs4_ xic4 xt4 m0_4
    | 0, n + 5, h => cases h
    | 1, 0, h => cases h; exact exm_of xs1_ xs0_ xic0 xt0 m1_0
    | 1, 1, h => cases h; exact exm_of xs1_ xs1_ xic1 xt1 m1_1
    | 1, 2, h => cases h; exact exm_of xs1_ xs2_ xic2 xt2 m1_2
    | 1, 3, h => cases h; exact exm_of xs1_ xs3_ xic3 xt3 m1_3
    | 1, 4, h => cases h; exact exm_of xs1_ xs4_ xic4 xt4 m1_4
    | 1, n + 5, h => cases h
    | 2, 0, h => cases h; exact exm_of xs2_ xs0_ xic0 xt0 m2_0
    | 2, 1, h => cases h; exact exm_of xs2_ xs1_ xic1 xt1 m2_1
    | 2, 2, h => cases h; exact exm_of xs2_ xs2_ xic2 xt2 m2_2
    | 2, 3, h => cases h; exact exm_of xs2_ xs3_ xic3 xt3 m2_3
    | 2, 4, h => cases h; exact exm_of xs2_ xs4_ xic4 xt4 m2_4
    | 2, n + 5, h => cases h
    | 3, 0, h => cases h; exact exm_of xs3_ xs0_ xic0 xt0 m3_0
    | 3, 1, h => cases h; exact exm_of xs3_ xs1_ xic1 xt1 m3_1
    | 3, 2, h => cases h; exact exm_of xs3_ xs2_ xic2 xt2 m3_2
    | 3, 3, h => cases h; exact exm_of xs3_ xs3_ xic3 xt3 m3_3
    | 3, 4, h => cases h; exact exm_of xs3_ xs4_ xic4 xt4 m3_4
    | 3, n + 5, h => cases h
    | 4, 0, h => cases h; exact exm_of xs4_ xs0_ xic0 xt0 m4_0
    | 4, 1, h => cases h; exact exm_of xs4_ xs1_ xic1 xt1 m4_1
    | 4, 2, h => cases h; exact exm_of xs4_ xs2_ xic2 xt2 m4_2
    | 4, 3, h => cases h; exact exm_of xs4_ xs3_ xic3 xt3 m4_3
    | 4, 4, h => cases h; exact exm_of xs4_ xs4_ xic4 xt4 m4_4
    | 4, n + 5, h => cases h
    | c + 5, n, h => cases h
  have glo : ∀ (X : Cx) x, X.K = K → X.mg = mg → GlOk X L G x (gl x) := by
    intro Y x hK hm
    subst hK; subst hm
    have xcl4 : XCls Y.K x4 "IndexError" "IndexError.__new__" "IndexError.__init__" [.type "IndexError", .type "LookupError", .type "Exception", .type "BaseException", .type "object"] := ⟨xb_IndexError, ⟨xnm4, xqn4, xN_4, xbs4, [], xsn4, xsub4, xab4, xcol4, xdd4, xm04, xm14, xm24, xm34, xm54, xq4⟩, xsa4, xs4_, xt4, xk4⟩
    have xst4 : FnScope xN4 ["self", "value"] (defScope xs4) := ⟨rfl, rfl, rfl, by decide +kernel, rfl, by decide +kernel, by decide +kernel⟩
    have xio4 : KExcI Y L G "InvalidNumber" 4 := ⟨x4, xf4, "IndexError", "IndexError.__new__", "IndexError.__init__", [.type "IndexError", .type "LookupError", .type "Exception", .type "BaseException", .type "object"], _, xs4, xN4, ["self", "value"], "InvalidNumber.__init__", "__init__", _, rfl, PySem.W.mg_of X GN xa4, xcl4, ⟨xga4, xgg4, xs4_, xhd4⟩, xi4, xti4, xF4, xst4, xB4, rfl, (.cop (s := "self") (a := "value") (k := "kept") (Bs := "IndexError") (cp := "_copied") rfl (by decide +kernel) ⟨rfl, .inl rfl, by decide +kernel, by decide +kernel⟩ ⟨rfl, .inl rfl, by decide +kernel, by decide +kernel⟩ ⟨rfl, .inl rfl, by decide +kernel, by decide +kernel⟩ rfl rfl (by decide +kernel) (PySem.W.mg_of X GN a0) rfl rfl rfl (PySem.W.mg_none_of X GN xg4) (by decide +kernel) (by first | rfl | decide +kernel) xv4 (by decide +kernel) (by decide +kernel) (by decide +kernel) (by decide +kernel) (by decide +kernel) rfl xn4_0 rfl)⟩
    have xx4 : KXf Y L 4 [0] := ⟨x4, rfl, ⟨xga4, xgg4, xs4_, xhd4⟩, mem_cons ⟨xn4_0, nm_inj0⟩ (mem_nil)⟩
    exact glo_of (X := Y) (L := L) (G := G) (tbl := tbl) (glo_cons (show GlOk Y L G "_copied" (.fn 0) from ⟨PySem.W.mg_of X GN a0, rfl⟩) (glo_cons (show GlOk Y L G "is_integer" (.fn 1) from ⟨PySem.W.mg_of X GN a1, rfl⟩) (glo_cons (show GlOk Y L G "is_letters" (.fn 2) from ⟨PySem.W.mg_of X GN a2, rfl⟩) (glo_cons (show GlOk Y L G "is_pattern" (.fn 3) from ⟨PySem.W.mg_of X GN a3, rfl⟩) (glo_cons (show GlOk Y L G "check_letters" (.fn 4) from ⟨PySem.W.mg_of X GN a4, rfl⟩) (glo_cons (show GlOk Y L G "check_pattern" (.fn 5) from ⟨PySem.W.mg_of X GN a5, rfl⟩) (glo_cons (show GlOk Y L G "check_number" (.fn 6) from ⟨PySem.W.mg_of X GN a6, rfl⟩) (glo_cons (show GlOk Y L G "check_depth" (.fn 7) from ⟨PySem.W.mg_of X GN a7, rfl⟩) (glo_cons (show GlOk Y L G "_is_string" (.fn 8) from ⟨PySem.W.mg_of X GN a8, rfl⟩) (glo_cons (show GlOk Y L G "_has_only" (.fn 9) from ⟨PySem.W.mg_of X GN a9, rfl⟩) (glo_cons (show GlOk Y L G "is_leading" (.fn 10) from ⟨PySem.W.mg_of X GN a10, rfl⟩) (glo_cons (show GlOk Y L G "factors" (.fn 11) from ⟨PySem.W.mg_of X GN a11, rfl⟩) (glo_cons (show GlOk Y L G "halves" (.fn 12) from ⟨PySem.W.mg_of X GN a12, rfl⟩) (glo_cons (show GlOk Y L G "patterns_of" (.fn 13) from ⟨PySem.W.mg_of X GN a13, rfl⟩) (glo_cons (show GlOk Y L G "leading_of" (.fn 14) from ⟨PySem.W.mg_of X GN a14, rfl⟩) (glo_cons (show GlOk Y L G "how_many" (.fn 15) from ⟨PySem.W.mg_of X GN a15, rfl⟩) (glo_cons (show GlOk Y L G "halves_of" (.fn 16) from ⟨PySem.W.mg_of X GN a16, rfl⟩) (glo_cons (show GlOk Y L G "_leads" (.fn 17) from ⟨PySem.W.mg_of X GN a17, rfl⟩) (glo_cons (show GlOk Y L G "_factors" (.fn 18) from ⟨PySem.W.mg_of X GN a18, rfl⟩) (glo_cons (show GlOk Y L G "_mark" (.fn 19) from ⟨PySem.W.mg_of X GN a19, rfl⟩) (glo_cons (show GlOk Y L G "_power" (.fn 20) from ⟨PySem.W.mg_of X GN a20, rfl⟩) (glo_cons (show GlOk Y L G "_law_tray" (.fn 21) from ⟨PySem.W.mg_of X GN a21, rfl⟩) (glo_cons (show GlOk Y L G "_law_bit" (.fnB 22) from ⟨PySem.W.mg_of X GN a22, rfl⟩) (glo_cons (show GlOk Y L G "_law_pick" (.fnB 23) from ⟨PySem.W.mg_of X GN a23, rfl⟩) (glo_cons (show GlOk Y L G "_law_met" (.fnL 24) from PySem.W.mg_of X GN a24) (glo_cons (show GlOk Y L G "_law_right" (.fnB 25) from ⟨PySem.W.mg_of X GN a25, rfl⟩) (glo_cons (show GlOk Y L G "law" (.fn 26) from ⟨PySem.W.mg_of X GN a26, rfl⟩) (glo_cons (show GlOk Y L G "CountError" (.exo 0) from ⟨⟨x0, "ValueError", "ValueError.__new__", "ValueError.__init__", _, rfl, PySem.F.excBase_ValueError, xe0, PySem.W.mg_of X GN xa0, xk0, xs0_, xt0⟩, fun d r h => (Option.some.inj h).symm, rfl⟩) (glo_cons (show GlOk Y L G "InvalidLetters" (.exo 1) from ⟨⟨x1, "ValueError", "ValueError.__new__", "ValueError.__init__", _, rfl, PySem.F.excBase_ValueError, xe1, PySem.W.mg_of X GN xa1, xk1, xs1_, xt1⟩, fun d r h => (Option.some.inj h).symm, rfl⟩) (glo_cons (show GlOk Y L G "InvalidPattern" (.exo 2) from ⟨⟨x2, "ValueError", "ValueError.__new__", "ValueError.__init__", _, rfl, PySem.F.excBase_ValueError, xe2, PySem.W.mg_of X GN xa2, xk2, xs2_, xt2⟩, fun d r h => (Option.some.inj h).symm, rfl⟩) (glo_cons (show GlOk Y L G "InvalidOperation" (.exo 3) from ⟨⟨x3, "ValueError", "ValueError.__new__", "ValueError.__init__", _, rfl, PySem.F.excBase_ValueError, xe3, PySem.W.mg_of X GN xa3, xk3, xs3_, xt3⟩, fun d r h => (Option.some.inj h).symm, rfl⟩) (glo_cons (show GlOk Y L G "InvalidNumber" (.exi 4 [0]) from ⟨PySem.W.mg_of X GN xa4, xio4, xx4⟩) (glo_cons (show GlOk Y L G "MAX_PATTERN" (.dat (.int (400))) from ⟨.int (400), _, PySem.W.mg_of X GN d0, ⟨_, rfl⟩, fun _ => .int _⟩) (glo_cons (show GlOk Y L G "MAX_DEPTH" (.dat (.int (5))) from ⟨.int (5), _, PySem.W.mg_of X GN d1, ⟨_, rfl⟩, fun _ => .int _⟩) (glo_cons (show GlOk Y L G "MAX_INTEGER" (.dat (.int (99999999999999999999999999999999999999999999999999999999999999999999999999999999999999999999999999999999999999999999999999999999999999999999999999999999999999999999999999999999999999999999999999999999))) from ⟨.int (99999999999999999999999999999999999999999999999999999999999999999999999999999999999999999999999999999999999999999999999999999999999999999999999999999999999999999999999999999999999999999999999999999999), _, PySem.W.mg_of X GN d2, ⟨_, rfl⟩, fun _ => .int _⟩) (glo_cons (show GlOk Y L G "_MAX_LETTERS" (.dat (.int (3))) from ⟨.int (3), _, PySem.W.mg_of X GN d3, ⟨_, rfl⟩, fun _ => .int _⟩) (glo_cons (show GlOk Y L G "_ALPHABET" (.dat (.str [97, 98, 99, 100, 101, 102, 103, 104, 105, 106, 107, 108, 109, 110, 111, 112, 113, 114, 115, 116, 117, 118, 119, 120, 121, 122])) from ⟨.str "abcdefghijklmnopqrstuvwxyz", _, PySem.W.mg_of X GN d4, ⟨_, rfl⟩, fun _ => (show ("abcdefghijklmnopqrstuvwxyz" : Str) = mkS [97, 98, 99, 100, 101, 102, 103, 104, 105, 106, 107, 108, 109, 110, 111, 112, 113, 114, 115, 116, 117, 118, 119, 120, 121, 122] from by decide +kernel) ▸ .str _⟩) (glo_nil))))))))))))))))))))))))))))))))))))))
  have ti : TabsIn K h L.cs := tabsIn_cons T25 (tabsIn_cons T26 (tabsIn_nil))
  have tc : ∀ p ∈ L.tb, ∃ r ∈ L.cs, r.2 = p.1 := mem_cons ⟨(co25, P25), (show (co25, P25) ∈ [(co25, P25), (co26, P26)] from by simp), rfl⟩ (mem_cons ⟨(co26, P26), (show (co26, P26) ∈ [(co25, P25), (co26, P26)] from by simp), rfl⟩ (mem_nil))
  have fdo : ∀ x n, fdn x = some n → G.nm n = x := by
    intro x n h
    unfold fdn at h
    split at h
    · split at h
      · rename_i i _ hi
        cases h
        exact hi
      · cases h
    · cases h
  exact ⟨L, ⟨rfl, rfl, bn, fun c h => absurd h (Nat.not_lt_zero _), fun c h => absurd h (Nat.not_lt_zero _), xm, is1_bt, df, dl, glo, fdo⟩, ti, tc, rfl, rfl, fun s u => .of_eq rfl⟩
end Hk09
/-! the codes of k09, told -/
namespace Hk09
open PySem L2 Sg Ev
def c0 : Ev.Code := ⟨1, 3, false, (.ifs (.isi (.var 0) (.bt .list)) (.ret (.comp [1] (.var 0) (.call 0 (.cons (.var 1) .nil)))) .nil (.ifs (.isi (.var 0) (.bt .tuple)) (.ret (.bl .tuple (.comp [1] (.var 0) (.call 0 (.cons (.var 1) .nil))))) .nil (.ifs (.isi (.var 0) (.bt .dict)) (.ret .bad) .nil (.ret (.var 0)))))⟩
theorem e0 : cd 1 N0 false false s0 = c0 := rfl
def c1 : Ev.Code := ⟨1, 1, false, (.ifs (.or (.not (.isi (.var 0) (.bt .int))) (.isi (.var 0) (.bt .bool))) (.ret (.lit (.bl false))) .nil (.ret (.cmp2 .LtE .LtE (.neg (.lit (.int 99999999999999999999999999999999999999999999999999999999999999999999999999999999999999999999999999999999999999999999999999999999999999999999999999999999999999999999999999999999999999999999999999999999))) (.var 0) (.lit (.int 99999999999999999999999999999999999999999999999999999999999999999999999999999999999999999999999999999999999999999999999999999999999999999999999999999999999999999999999999999999999999999999999999999999)))))⟩
theorem e1 : cd 1 N1 false false s1 = c1 := rfl
def c2 : Ev.Code := ⟨1, 3, false, (.ifs (.or (.not (.call 8 (.cons (.var 0) (.cons (.lit (.int 1)) (.cons (.lit (.int 3)) .nil))))) (.not (.call 9 (.cons (.var 0) (.cons (.lit (.str [97, 98, 99, 100, 101, 102, 103, 104, 105, 106, 107, 108, 109, 110, 111, 112, 113, 114, 115, 116, 117, 118, 119, 120, 121, 122])) .nil))))) (.ret (.lit (.bl false))) .nil (.ret (.bl .all (.comp [1, 2] (.zip (.var 0) (.sl (.var 0) (.lit (.int 1)) .nil)) (.cmp .Lt (.var 1) (.var 2))))))⟩
theorem e2 : cd 1 N2 false false s2 = c2 := rfl
def c3 : Ev.Code := ⟨2, 2, false, (.expr (.call 4 (.cons (.var 0) .nil)) (.ret (.andV (.call 8 (.cons (.var 1) (.cons (.lit (.int 0)) (.cons (.lit (.int 400)) .nil)))) (.call 9 (.cons (.var 1) (.cons (.var 0) .nil))))))⟩
theorem e3 : cd 2 N3 false false s3 = c3 := rfl
def c4 : Ev.Code := ⟨1, 1, false, (.ifs (.not (.call 2 (.cons (.var 0) .nil))) (.raise 1 (.cons (.lit (.str [108, 101, 116, 116, 101, 114, 115, 32, 97, 114, 101, 32, 111, 110, 101, 32, 116, 111, 32, 116, 104, 114, 101, 101, 32, 100, 105, 102, 102, 101, 114, 101, 110, 116, 32, 108, 101, 116, 116, 101, 114, 115, 32, 97, 32, 116, 111, 32, 122, 44, 32, 97, 115, 99, 101, 110, 100, 105, 110, 103])) .nil)) .nil .nil)⟩
theorem e4 : cd 1 N4 false false s4 = c4 := rfl
def c5 : Ev.Code := ⟨2, 2, false, (.ifs (.not (.call 3 (.cons (.var 0) (.cons (.var 1) .nil)))) (.raise 2 (.cons (.fstr (.cons (.lit (.str [97, 32, 112, 97, 116, 116, 101, 114, 110, 32, 104, 97, 115, 32, 97, 116, 32, 109, 111, 115, 116, 32])) (.cons (.fval false (.lit (.int 400))) (.cons (.lit (.str [32, 115, 105, 103, 110, 115, 44, 32, 116, 104, 101, 32, 108, 101, 116, 116, 101, 114, 115, 32, 97, 108, 111, 110, 101])) .nil)))) .nil)) .nil .nil)⟩
theorem e5 : cd 2 N5 false false s5 = c5 := rfl
def c6 : Ev.Code := ⟨3, 3, false, (.ifs (.or (.not (.call 1 (.cons (.var 0) .nil))) (.not (.cmp2 .LtE .LtE (.var 1) (.var 0) (.var 2)))) (.raise 4 (.cons (.var 0) .nil)) .nil .nil)⟩
theorem e6 : cd 3 N6 false false s6 = c6 := rfl
def c7 : Ev.Code := ⟨1, 1, false, (.expr (.call 6 (.cons (.var 0) (.cons (.lit (.int 1)) (.cons (.lit (.int 5)) .nil)))) .nil)⟩
theorem e7 : cd 1 N7 false false s7 = c7 := rfl
def c8 : Ev.Code := ⟨3, 3, false, (.ret (.andV (.isi (.var 0) (.bt .str)) (.cmp2 .LtE .LtE (.var 1) (.bl .len (.var 0)) (.var 2))))⟩
theorem e8 : cd 3 N8 false false s8 = c8 := rfl
def c9 : Ev.Code := ⟨2, 3, false, (.ret (.bl .all (.comp [2] (.var 0) (.cmp .In (.var 2) (.var 1)))))⟩
theorem e9 : cd 2 N9 false false s9 = c9 := rfl
def c10 : Ev.Code := ⟨2, 2, false, (.ret (.andV (.call 3 (.cons (.var 0) (.cons (.var 1) .nil))) (.call 17 (.cons (.var 1) .nil))))⟩
theorem e10 : cd 2 N10 false false s10 = c10 := rfl
def c11 : Ev.Code := ⟨2, 2, false, (.expr (.call 5 (.cons (.var 0) (.cons (.var 1) .nil))) (.ret (.bl .tuple (.call 18 (.cons (.var 1) .nil)))))⟩
theorem e11 : cd 2 N11 false false s11 = c11 := rfl
def c12 : Ev.Code := ⟨2, 2, false, (.expr (.call 5 (.cons (.var 0) (.cons (.var 1) .nil))) (.ifs (.or (.cmp .Lt (.bl .len (.var 1)) (.lit (.int 2))) (.not (.call 17 (.cons (.var 1) .nil)))) (.raise 3 (.cons (.lit (.str [111, 110, 108, 121, 32, 97, 32, 108, 101, 97, 100, 105, 110, 103, 32, 112, 97, 116, 116, 101, 114, 110, 32, 111, 102, 32, 97, 116, 32, 108, 101, 97, 115, 116, 32, 116, 119, 111, 32, 108, 101, 116, 116, 101, 114, 115, 32, 104, 97, 115, 32, 104, 97, 108, 118, 101, 115])) .nil)) .nil (.ret (.call 16 (.cons (.var 1) .nil)))))⟩
theorem e12 : cd 2 N12 false false s12 = c12 := rfl
def c13 : Ev.Code := ⟨2, 7, false, (.expr (.call 4 (.cons (.var 0) .nil)) (.expr (.call 7 (.cons (.var 1) .nil)) (.set 2 (.lst .nil) (.set 3 (.lst (.cons (.lit (.str [])) .nil)) (.fors [4] (.rng (.var 1)) (.set 3 (.comp2 [5] [6] (.var 3) (.var 0) (.bin .Add (.var 5) (.var 6))) (.ext 2 (.var 3) .nil)) (.ret (.bl .tuple (.var 2))))))))⟩
theorem e13 : cd 2 N13 false false s13 = c13 := rfl
def c14 : Ev.Code := ⟨2, 3, false, (.ret (.bl .tuple (.compI [2] (.call 13 (.cons (.var 0) (.cons (.var 1) .nil))) (.call 17 (.cons (.var 2) .nil)) (.var 2))))⟩
theorem e14 : cd 2 N14 false false s14 = c14 := rfl
def c15 : Ev.Code := ⟨2, 4, false, (.expr (.call 4 (.cons (.var 0) .nil)) (.expr (.call 6 (.cons (.var 1) (.cons (.lit (.int 1)) (.cons (.lit (.int 400)) .nil)))) (.set 2 (.compI [3] (.rng2 (.lit (.int 1)) (.bin .Add (.var 1) (.lit (.int 1)))) (.cmp .Eq (.bin .Mod (.var 1) (.var 3)) (.lit (.int 0))) (.var 3)) (.ret (.bin .FloorDiv (.bl .sum (.comp [3] (.var 2) (.bin .Mult (.call 19 (.cons (.var 3) .nil)) (.call 20 (.cons (.bl .len (.var 0)) (.cons (.bin .FloorDiv (.var 1) (.var 3)) .nil)))))) (.var 1))))))⟩
theorem e15 : cd 2 N15 false false s15 = c15 := rfl
def c16 : Ev.Code := ⟨1, 2, false, (.set 1 (.ix (.call 18 (.cons (.sl (.var 0) (.lit (.int 1)) .nil) .nil)) (.neg (.lit (.int 1)))) (.ret (.tup (.cons (.sl (.var 0) .nil (.bin .Sub (.bl .len (.var 0)) (.bl .len (.var 1)))) (.cons (.var 1) .nil)))))⟩
theorem e16 : cd 1 N16 false false s16 = c16 := rfl
def c17 : Ev.Code := ⟨1, 2, false, (.ret (.andV (.cmp .NotEq (.var 0) (.lit (.str []))) (.bl .all (.comp [1] (.rng2 (.lit (.int 1)) (.bl .len (.var 0))) (.cmp .Lt (.var 0) (.sl (.var 0) (.var 1) .nil))))))⟩
theorem e17 : cd 1 N17 false false s17 = c17 := rfl
def c18 : Ev.Code := ⟨1, 6, false, (.set 1 (.lst .nil) (.set 2 (.lit (.int 0)) (.whil (.cmp .Lt (.var 2) (.bl .len (.var 0))) (.set 3 (.var 2) (.set 4 (.bin .Add (.var 2) (.lit (.int 1))) (.whil (.and (.cmp .Lt (.var 4) (.bl .len (.var 0))) (.cmp .LtE (.ix (.var 0) (.var 3)) (.ix (.var 0) (.var 4)))) (.set 3 (.ife (.cmp .Eq (.ix (.var 0) (.var 3)) (.ix (.var 0) (.var 4))) (.bin .Add (.var 3) (.lit (.int 1))) (.var 2)) (.set 4 (.bin .Add (.var 4) (.lit (.int 1))) .nil)) (.set 5 (.bin .Sub (.var 4) (.var 3)) (.whil (.cmp .LtE (.var 2) (.var 3)) (.app 1 (.sl (.var 0) (.var 2) (.bin .Add (.var 2) (.var 5))) (.set 2 (.bin .Add (.var 2) (.var 5)) .nil)) .nil))))) (.ret (.var 1)))))⟩
theorem e18 : cd 1 N18 false false s18 = c18 := rfl
def c19 : Ev.Code := ⟨1, 4, false, (.set 1 (.var 0) (.set 2 (.lit (.int 1)) (.set 3 (.lit (.int 2)) (.whil (.cmp .Gt (.var 1) (.lit (.int 1))) (.ifs (.cmp .Eq (.bin .Mod (.var 1) (.var 3)) (.lit (.int 0))) (.set 1 (.bin .FloorDiv (.var 1) (.var 3)) (.set 2 (.neg (.var 2)) (.ifs (.cmp .Eq (.bin .Mod (.var 1) (.var 3)) (.lit (.int 0))) (.ret (.lit (.int 0))) .nil .nil))) .nil (.set 3 (.bin .Add (.var 3) (.lit (.int 1))) .nil)) (.ret (.var 2))))))⟩
theorem e19 : cd 1 N19 false false s19 = c19 := rfl
def c20 : Ev.Code := ⟨2, 4, false, (.set 2 (.lit (.int 1)) (.fors [3] (.rng (.var 1)) (.set 2 (.bin .Mult (.var 2) (.var 0)) .nil) (.ret (.var 2))))⟩
theorem e20 : cd 2 N20 false false s20 = c20 := rfl
def c21 : Ev.Code := ⟨2, 5, false, (.set 2 (.ife (.cmp .Lt (.var 1) (.bl .len (.var 0))) (.ix (.var 0) (.var 1)) (.bin .Add (.bin .Mult (.lit (.int 67)) (.var 1)) (.lit (.int 29)))) (.set 3 (.bin .Mod (.bl .int (.bl .abs (.var 2))) (.bin .Pow (.bin .Pow (.lit (.int 10)) (.lit (.int 61))) (.lit (.int 11)))) (.set 4 (.bin .Add (.bin .Add (.bin .Add (.bin .Mult (.bin .Mod (.bl .int (.var 3)) (.lit (.int 2147483249))) (.lit (.int 98347))) (.bin .Mult (.lit (.int 9421)) (.var 1))) (.bin .Mult (.lit (.int 47)) (.bl .int (.cmp .Lt (.var 2) (.lit (.int 0)))))) (.lit (.int 61))) (.ret (.lst (.cons (.bl2 .max (.lit (.int 0)) (.bin .Sub (.var 3) (.bin .Pow (.lit (.int 10)) (.lit (.int 18))))) (.cons (.bin .Mod (.bl .int (.var 4)) (.lit (.int 2305843009213693907))) (.cons (.lit (.int 0)) .nil))))))))⟩
theorem e21 : cd 2 N21 false false s21 = c21 := rfl
def c22 : Ev.Code := ⟨2, 5, true, (.ifs (.cmp .Gt (.ix (.var 0) (.lit (.int 0))) (.lit (.int 0))) (.set 4 (.bin .Mod (.bl .int (.ix (.var 0) (.lit (.int 0)))) (.var 1)) (.setIx 0 (.lit (.int 0)) (.bin .FloorDiv (.ix (.var 0) (.lit (.int 0))) (.var 1)) (.ret (.var 4)))) .nil (.setIx 0 (.lit (.int 2)) (.bin .Add (.ix (.var 0) (.lit (.int 2))) (.lit (.int 1))) (.set 2 (.bin .Mod (.bl .int (.bin .Add (.ix (.var 0) (.lit (.int 1))) (.bin .Mult (.lit (.int 1000423)) (.ix (.var 0) (.lit (.int 2)))))) (.lit (.int 2305843009213693951))) (.set 3 (.bin .Add (.bin .Mult (.bin .Mod (.bl .int (.bin .Mult (.var 2) (.var 2))) (.lit (.int 2305843009213693921))) (.var 2)) (.bin .Mult (.lit (.int 9127)) (.ix (.var 0) (.lit (.int 2))))) (.ret (.bin .Mod (.bl .int (.bin .FloorDiv (.bin .Mod (.bl .int (.var 3)) (.lit (.int 2305843009213693907))) (.lit (.int 16384)))) (.var 1)))))))⟩
theorem e22 : cd 2 N22 true false s22 = c22 := rfl
def c23 : Ev.Code := ⟨2, 2, true, (.ret (.ix (.var 1) (.callB 22 0 (.cons (.bl .len (.var 1)) .nil))))⟩
theorem e23 : cd 2 N23 true false s23 = c23 := rfl
def lc24 : LCode := ⟨2, false, (.hd 1 none (.ret (.lit (.str [108, 101, 116, 116, 101, 114, 115]))) (.hd 2 none (.ret (.lit (.str [112, 97, 116, 116, 101, 114, 110]))) (.hd 3 none (.ret (.lit (.str [111, 112, 101, 114, 97, 116, 105, 111, 110]))) (.hdR 4 1 [110, 117, 109, 98, 101, 114, 32] [0] false .nil)))), (.ret (.lit (.str [103, 111, 111, 100])))⟩
theorem le24 : lcd N24 false s24 = lc24 := rfl
def c25 : Ev.Code := ⟨1, 8, true, (.set 1 (.callB 23 0 (.cons (.lst (.cons (.lit .non) (.cons (.lit (.int 0)) (.cons (.lit (.str [])) (.cons (.lit (.str [98, 97])) (.cons (.lit (.str [97, 97])) (.cons (.lit (.str [97, 98, 99, 100])) (.cons (.lit (.str [65])) (.cons (.tup (.cons (.lit (.str [97])) .nil)) (.cons (.lit (.bl true)) .nil)))))))))) .nil)) (.set 2 (.callB 23 0 (.cons (.lst (.cons (.lit .non) (.cons (.lit (.int 0)) (.cons (.lit (.str [99])) (.cons (.lit (.str [97, 66])) (.cons (.tup (.cons (.lit (.str [97])) .nil)) (.cons (.lst (.cons (.lit (.str [97, 98])) .nil)) (.cons (.lit (.str [97, 32, 98])) (.cons (.lit (.bl true)) (.cons (.bin .Mult (.lit (.str [97])) (.lit (.int 401))) .nil)))))))))) .nil)) (.set 3 (.callB 23 0 (.cons (.lst (.cons (.lit .non) (.cons (.lit (.int 0)) (.cons (.neg (.lit (.int 1))) (.cons (.lit (.int 6)) (.cons (.lit (.bl true)) (.cons (.lit (.str [49])) (.cons (.tup (.cons (.lit (.int 1)) .nil)) (.cons (.bin .Pow (.lit (.int 10)) (.lit (.int 60))) .nil))))))))) .nil)) (.set 4 (.callB 23 0 (.cons (.lst (.cons (.lit .non) (.cons (.lit (.int 0)) (.cons (.neg (.lit (.int 1))) (.cons (.lit (.int 401)) (.cons (.lit (.bl true)) (.cons (.lit (.str [49])) (.cons (.tup (.cons (.lit (.int 1)) .nil)) (.cons (.bin .Pow (.lit (.int 10)) (.lit (.int 60))) .nil))))))))) .nil)) (.set 5 (.callB 23 0 (.cons (.lst (.cons (.lit (.str [])) (.cons (.lit (.str [97])) (.cons (.lit (.str [98])) (.cons (.lit (.str [97, 97])) (.cons (.lit (.str [98, 97])) (.cons (.lit (.str [97, 98, 97, 98])) (.cons (.lit (.str [98, 97, 98])) (.cons (.bin .Mult (.lit (.str [98])) (.lit (.int 400))) .nil))))))))) .nil)) (.set 6 (.lst (.cons (.lamc 24 (.call 10 (.cons (.var 1) (.cons (.var 2) .nil)))) .nil)) (.app 6 (.lamc 24 (.call 11 (.cons (.var 1) (.cons (.var 2) .nil)))) (.app 6 (.lamc 24 (.call 12 (.cons (.var 1) (.cons (.var 2) .nil)))) (.app 6 (.lamc 24 (.call 13 (.cons (.var 1) (.cons (.var 3) .nil)))) (.app 6 (.lamc 24 (.call 14 (.cons (.var 1) (.cons (.var 3) .nil)))) (.app 6 (.lamc 24 (.call 15 (.cons (.var 1) (.cons (.var 4) .nil)))) (.app 6 (.lamc 24 (.call 11 (.cons (.lit (.str [97, 98])) (.cons (.var 2) .nil)))) (.app 6 (.lamc 24 (.call 12 (.cons (.lit (.str [97, 98])) (.cons (.var 2) .nil)))) (.app 6 (.lamc 24 (.call 13 (.cons (.lit (.str [97, 98])) (.cons (.var 3) .nil)))) (.app 6 (.lamc 24 (.call 14 (.cons (.lit (.str [97, 98])) (.cons (.var 3) .nil)))) (.app 6 (.lamc 24 (.call 15 (.cons (.lit (.str [97, 98])) (.cons (.var 4) .nil)))) (.app 6 (.lamc 24 (.call 12 (.cons (.lit (.str [97, 98])) (.cons (.var 5) .nil)))) (.app 6 (.lamc 24 (.call 10 (.cons (.lit (.str [97, 98])) (.cons (.var 2) .nil)))) (.set 7 (.bin .Add (.bin .Add (.bin .Add (.rep (.lst (.cons (.lit (.str [108, 101, 116, 116, 101, 114, 115])) .nil)) (.lit (.int 6))) (.rep (.lst (.cons (.lit (.str [112, 97, 116, 116, 101, 114, 110])) .nil)) (.lit (.int 2)))) (.rep (.lst (.cons (.bin .Add (.lit (.str [110, 117, 109, 98, 101, 114, 32])) (.bl .repr (.var 3))) .nil)) (.lit (.int 2)))) (.lst (.cons (.bin .Add (.lit (.str [110, 117, 109, 98, 101, 114, 32])) (.bl .repr (.var 4))) (.cons (.lit (.str [111, 112, 101, 114, 97, 116, 105, 111, 110])) .nil)))) (.ret (.cmp .Eq (.var 6) (.bin .Add (.var 7) (.lst (.cons (.lit (.str [103, 111, 111, 100])) .nil))))))))))))))))))))))))⟩
theorem e25 : cd 1 N25 true true s25 = c25 := rfl
def c26 : Ev.Code := ⟨1, 5, false, (.fors [1] (.rng (.bl2 .max (.lit (.int 1)) (.bl2 .min (.lit (.int 8)) (.bl .len (.var 0))))) (.set 3 (.call 21 (.cons (.var 0) (.cons (.var 1) .nil))) (.fors [4] (.rng (.lit (.int 3))) (.ifs (.not (.callB 25 3 .nil)) (.ret (.lit (.bl false))) .nil .nil) .nil)) (.set 2 (.lst (.cons (.lamc 24 (.call 15 (.cons (.lit (.str [97, 98, 99])) (.cons (.lit (.int 400)) .nil)))) .nil)) (.app 2 (.lamc 24 (.call 11 (.cons (.lit (.str [97, 98])) (.cons (.bin .Mult (.lit (.str [97, 98])) (.lit (.int 200))) .nil)))) (.ret (.cmp .Eq (.bin .Add (.var 2) (.lst (.cons (.bl .len (.call 13 (.cons (.lit (.str [97, 98, 99])) (.cons (.lit (.int 5)) .nil)))) .nil))) (.lst (.cons (.lit (.str [103, 111, 111, 100])) (.cons (.lit (.str [103, 111, 111, 100])) (.cons (.lit (.int 363)) .nil)))))))))⟩
theorem e26 : cd 1 N26 false true s26 = c26 := rfl
def codes2 : List (Option Ev.Code) := [some c0, some c1, some c2, some c3, some c4, some c5, some c6, some c7, some c8, some c9, some c10, some c11, some c12, some c13, some c14, some c15, some c16, some c17, some c18, some c19, some c20, some c21, some c22, some c23, none, some c25, some c26]
def lcodes2 : List (Option LCode) := [none, none, none, none, none, none, none, none, none, none, none, none, none, none, none, none, none, none, none, none, none, none, none, none, some lc24, none, none]
def G2 : Gm := { code := fun f => (codes2[f]?).join, nm := nmO, fl := fun _ => [], at_ := fun _ _ => none, init := fun _ => none, ops := fun _ _ => none, inv := fun _ => none, len := fun _ => none, getitem := fun _ => none, eq := fun _ => none, mkE := mkO, sub := fun c n => (subT[c]?).bind fun r => r[n]?, eini := fun n => (einis[n]?).join, lcode := fun f => (lcodes2[f]?).join, lamF := fun _ _ _ => .no, nc := 0 }
theorem codes_eq : codes = codes2 := by unfold codes codes2; rw [e0, e1, e2, e3, e4, e5, e6, e7, e8, e9, e10, e11, e12, e13, e14, e15, e16, e17, e18, e19, e20, e21, e22, e23, e25, e26]
theorem lcodes_eq : lcodes = lcodes2 := by unfold lcodes lcodes2; rw [le24]
theorem G_eq : G = G2 := by unfold G G2; rw [codes_eq, lcodes_eq]
end Hk09
namespace Hk09
open PySem PySem.Spec L2 Sg Ev
abbrev GL : Gm := G2.lam 500
abbrev cf18 : CallF := callK GL 500 18
def thkC (r : CRes) : Res Dt := match r with
  | .ok (.val d) none => .ok d
  | .ok (.new o) none => (match o.frz GL.fl with | some d => .ok d | none => .no)
  | .er r none => .er r []
  | _ => .no
def metC (r : CRes) : Option (List Nat) := match lamK G2 500 cf18 24 (thkC r) with
  | .ok (.val (.str w)) none => some w
  | _ => none
theorem lamK_no {f : Nat} : lamK G2 500 cf18 f .no = .no := by
  unfold lamK
  cases G2.lcode f with
  | none => rfl
  | some c => rfl
theorem lam_ev {f : Nat} {cs : CE} {ds ds' : List Cell} {args : List Dt} {w : List Nat} (ha : evA GL cf18 cs (ds.map seen) = .ok (args, ds')) (hm : metC (cf18 f none args) = some w) : evE GL cf18 (.lamc 24 (.call f cs)) ds = okR (.str w) ds := by
  show lamE (lamK G2 500 cf18 24 (thk (vv GL ((evA GL cf18 cs (ds.map seen)).bind fun x => goCall cf18 f x.1 x.2)))) ds = _
  rw [ha]
  show lamE (lamK G2 500 cf18 24 (thk (vv GL (goCall cf18 f args ds')))) ds = _
  have e : thk (vv GL (goCall cf18 f args ds')) = thkC (cf18 f none args) := by
    unfold goCall
    unfold metC at hm
    match hc : cf18 f none args, hm with
    | .no, hm => rfl
    | .er r none, hm => rfl
    | .er r (some o), hm => rfl
    | .ok (.val _) (some o), hm => rfl
    | .ok (.new _) (some o), hm => rfl
    | .ok (.ali _) (some o), hm => rfl
    | .ok (.val d) none, hm => rfl
    | .ok (.new o) none, hm =>
      show thk (vv GL (.ok (.new o, ds'))) = (match o.frz GL.fl with | some d => .ok d | none => .no)
      show thk (match o.frz GL.fl with | some d => .ok (d, ds') | none => .no) = _
      cases o.frz GL.fl <;> rfl
    | .ok (.ali i) none, hm =>
      exfalso
      have : thkC (.ok (.ali i) none) = .no := rfl
      rw [this, lamK_no] at hm
      cases hm
  rw [e]
  unfold metC at hm
  split at hm
  · rename_i w' hw
    cases hm
    rw [hw]
    rfl
  · cases hm
theorem es_pick {le rest : CE} {r : CS} {l : List Dt} {i c : Nat} {o : OD} {as : List Cell} (ht : Tray c o) (hc : c ≤ 1000) (h0 : 0 < l.length) (h1 : l.length ≤ 1000) (hi : i < as.length) (hle : ∀ o, evA GL cf18 (.cons le .nil) (.own true o :: as) = .ok ([.lst l], .own true o :: as)) :
    ∃ d o', d ∈ l ∧ Tray (c + 1) o' ∧ evS GL cf18 500 (.set (i + 1) (.callB 23 0 (.cons le .nil)) r) (.own true o :: as) = evS GL cf18 500 r (.own true o' :: as.set i (.im d)) := by
  obtain ⟨d, o', e, t', hm⟩ := pick_ok (G := GL) (fb := 22) (fp := 23) rfl rfl (W := 500) (k := 16) (l := l) ht (by omega) h0 (by omega)
  refine ⟨d, o', hm, t', ?_⟩
  show ((evA GL cf18 (.cons le .nil) (.own true o :: as)).bind fun x => goCallB cf18 23 0 x.1 x.2).bind _ = _
  rw [hle o]
  show (match callK GL 500 18 23 (some o) [.lst l] with
    | .ok rv (some o') => Res.ok (rv, Cell.own true o' :: as)
    | .er r (some o') => .er r (Cell.own true o' :: as)
    | _ => .no).bind _ = _
  rw [e]
  show (stR GL.fl (i + 1) (.val d) (.own true o' :: as)).bind _ = _
  unfold stR
  rw [if_pos (by simp; omega)]
  rfl
theorem es_app {e : CE} {r : CS} {ds : List Cell} {i : Nat} {d : Dt} {b : Bool} {l : List Dt} (h : evE GL cf18 e ds = okR d ds) (hi : ds[i]? = some (.own b (.lst l))) (hl : l.length ≤ 1000) : evS GL cf18 500 (.app i e r) ds = evS GL cf18 500 r (ds.set i (.own b (.lst (l ++ [d])))) := by
  have ho : ownL i ds = .ok (b, l) := by unfold ownL; rw [hi]
  show (ownL i ds).bind (fun _ => (vv GL (evE GL cf18 e ds)).bind fun x => (ownL i x.2).bind fun l => if l.2.length < sizeLine then evS GL cf18 500 r (x.2.set i (.own l.1 (.lst (l.2 ++ [x.1])))) else .no) = _
  rw [ho, h]
  show (ownL i ds).bind (fun l => if l.2.length < sizeLine then evS GL cf18 500 r (ds.set i (.own l.1 (.lst (l.2 ++ [d])))) else .no) = _
  rw [ho]
  show (if l.length < sizeLine then _ else _) = _
  rw [if_pos (Nat.lt_of_le_of_lt hl (by decide))]
theorem es_setL {e : CE} {r : CS} {ds : List Cell} {i : Nat} {d : Dt} (h : evE GL cf18 e ds = okR d ds) (hi : i < ds.length) : evS GL cf18 500 (.set i (.lst (.cons e .nil)) r) ds = evS GL cf18 500 r (ds.set i (.own false (.lst [d]))) := by
  show (((vv GL (evE GL cf18 e ds)).bind fun x => (Res.ok (([] : List Dt), x.2)).bind fun l => .ok (x.1 :: l.1, l.2)).bind fun x => opt (okN (decide (x.1.length ≤ sizeLine)) x.1) x.2).bind _ = _
  rw [h]
  show (opt (okN (decide ([d].length ≤ sizeLine)) [d]) ds).bind _ = _
  rw [show decide ([d].length ≤ sizeLine) = true from decide_eq_true (show 1 ≤ sizeLine from by decide +kernel)]
  show (stR GL.fl i (.new (.lst [d])) ds).bind _ = _
  unfold stR
  rw [if_pos hi]
  rfl
def SIG : List Dt := [.non, .int 0, .str [], .str [98, 97], .str [97, 97], .str [97, 98, 99, 100], .str [65], .tup [.str [97]], .bl true]
def LIN : List Dt := [.non, .int 0, .str [99], .str [97, 66], .tup [.str [97]], .lst [.str [97, 98]], .str [97, 32, 98], .bl true, .str (List.replicate 401 97)]
def DEP : List Dt := [.non, .int 0, .int (-1), .int 6, .bl true, .str [49], .tup [.int 1], .int (10 ^ 60)]
def MUC : List Dt := [.non, .int 0, .int (-1), .int 401, .bl true, .str [49], .tup [.int 1], .int (10 ^ 60)]
def LON : List Dt := [.str [], .str [97], .str [98], .str [97, 97], .str [98, 97], .str [97, 98, 97, 98], .str [98, 97, 98], .str (List.replicate 400 98)]
abbrev LET : List Nat := [108, 101, 116, 116, 101, 114, 115]
abbrev PAT : List Nat := [112, 97, 116, 116, 101, 114, 110]
abbrev OPR : List Nat := [111, 112, 101, 114, 97, 116, 105, 111, 110]
abbrev GOO : List Nat := [103, 111, 111, 100]
abbrev AB : Dt := .str [97, 98]
def NUM (d : Dt) : List Nat := [110, 117, 109, 98, 101, 114, 32] ++ shD d
def met (f : Nat) (args : List Dt) (w : List Nat) : Bool := decide (metC (cf18 f none args) = some w)
theorem met_ok {f : Nat} {args : List Dt} {w : List Nat} (h : met f args w = true) : metC (cf18 f none args) = some w := of_decide_eq_true h
end Hk09
namespace Hk09
open PySem PySem.Spec L2 Sg Ev
theorem t1 : (SIG.all fun s => LIN.all fun l => met 10 [s, l] LET && met 11 [s, l] LET && met 12 [s, l] LET) = true := by decide +kernel
theorem t2 : (SIG.all fun s => DEP.all fun d => met 13 [s, d] LET && met 14 [s, d] LET) = true := by decide +kernel
theorem t3 : (SIG.all fun s => MUC.all fun d => met 15 [s, d] LET) = true := by decide +kernel
theorem t4 : (LIN.all fun l => met 11 [AB, l] PAT && met 12 [AB, l] PAT && met 10 [AB, l] GOO) = true := by decide +kernel
theorem t5 : (DEP.all fun d => met 13 [AB, d] (NUM d) && met 14 [AB, d] (NUM d)) = true := by decide +kernel
theorem t6 : (MUC.all fun d => met 15 [AB, d] (NUM d)) = true := by decide +kernel
theorem t7 : (LON.all fun d => met 12 [AB, d] OPR) = true := by decide +kernel
end Hk09
namespace Hk09
open PySem PySem.Spec L2 Sg Ev
def pk : CS → CE
  | .set _ (.callB _ _ (.cons le .nil)) _ => le
  | _ => .bad
def nx : CS → CS
  | .set _ _ r => r
  | .app _ _ r => r
  | _ => .bad
abbrev b0 : CS := c25.body
def b1 : CS := nx b0
def b2 : CS := nx b1
def b3 : CS := nx b2
def b4 : CS := nx b3
def b5 : CS := nx b4
def b6 : CS := nx b5
def b7 : CS := nx b6
def b8 : CS := nx b7
def b9 : CS := nx b8
def b10 : CS := nx b9
def b11 : CS := nx b10
def b12 : CS := nx b11
def b13 : CS := nx b12
def b14 : CS := nx b13
def b15 : CS := nx b14
def b16 : CS := nx b15
def b17 : CS := nx b16
def b18 : CS := nx b17
def told (d m : Dt) : List Dt := [.str LET, .str LET, .str LET, .str LET, .str LET, .str LET, .str PAT, .str PAT, .str (NUM d), .str (NUM d), .str (NUM m), .str OPR, .str GOO]
theorem last_ok {o : OD} {s l x : Dt} {d m : Dt} (hd : d ∈ DEP) (hm : m ∈ MUC) : fin true (evS GL cf18 500 b18 [.own true o, .im s, .im l, .im d, .im m, .im x, .own false (.lst (told d m)), .free]) = .ok (.val (.bl true)) (some o) := by
  unfold DEP at hd
  unfold MUC at hm
  simp only [List.mem_cons, List.not_mem_nil, or_false] at hd hm
  rcases hd with rfl | rfl | rfl | rfl | rfl | rfl | rfl | rfl <;> rcases hm with rfl | rfl | rfl | rfl | rfl | rfl | rfl | rfl <;> kernel_rfl
end Hk09
namespace Hk09
open PySem PySem.Spec L2 Sg Ev
theorem all2 {A B : List Dt} {p : Dt → Dt → Bool} (h : (A.all fun a => B.all fun b => p a b) = true) {a b : Dt} (ha : a ∈ A) (hb : b ∈ B) : p a b = true := List.all_eq_true.mp (List.all_eq_true.mp h a ha) b hb
theorem all1 {A : List Dt} {p : Dt → Bool} (h : A.all p = true) {a : Dt} (ha : a ∈ A) : p a = true := List.all_eq_true.mp h a ha
theorem and3 {a b c : Bool} (h : (a && b && c) = true) : a = true ∧ b = true ∧ c = true := by
  cases a <;> cases b <;> cases c <;> first | exact ⟨rfl, rfl, rfl⟩ | cases h
theorem and2 {a b : Bool} (h : (a && b) = true) : a = true ∧ b = true := by
  cases a <;> cases b <;> first | exact ⟨rfl, rfl⟩ | cases h
theorem stepA {f : Nat} {cs : CE} {r : CS} {args : List Dt} {w : List Nat} {t : List Dt} {o : OD} {s l d m x : Dt} {dz : List Cell} (ha : evA GL cf18 cs [.free, .im s, .im l, .im d, .im m, .im x, .free, .free] = .ok (args, dz)) (hm : metC (cf18 f none args) = some w) (ht : t.length ≤ 1000) :
    evS GL cf18 500 (.app 6 (.lamc 24 (.call f cs)) r) [.own true o, .im s, .im l, .im d, .im m, .im x, .own false (.lst t), .free] = evS GL cf18 500 r [.own true o, .im s, .im l, .im d, .im m, .im x, .own false (.lst (t ++ [.str w])), .free] :=
  es_app (i := 6) (lam_ev (ds := [.own true o, .im s, .im l, .im d, .im m, .im x, .own false (.lst t), .free]) ha hm) rfl ht
theorem stepS {f : Nat} {cs : CE} {r : CS} {args : List Dt} {w : List Nat} {o : OD} {s l d m x : Dt} {dz : List Cell} (ha : evA GL cf18 cs [.free, .im s, .im l, .im d, .im m, .im x, .free, .free] = .ok (args, dz)) (hm : metC (cf18 f none args) = some w) :
    evS GL cf18 500 (.set 6 (.lst (.cons (.lamc 24 (.call f cs)) .nil)) r) [.own true o, .im s, .im l, .im d, .im m, .im x, .free, .free] = evS GL cf18 500 r [.own true o, .im s, .im l, .im d, .im m, .im x, .own false (.lst [.str w]), .free] :=
  es_setL (i := 6) (lam_ev (ds := [.own true o, .im s, .im l, .im d, .im m, .im x, .free, .free]) ha hm) (by simp)
theorem q0 : b0 = .set 1 (.callB 23 0 (.cons (pk b0) .nil)) b1 := rfl
theorem q1 : b1 = .set 2 (.callB 23 0 (.cons (pk b1) .nil)) b2 := rfl
theorem q2 : b2 = .set 3 (.callB 23 0 (.cons (pk b2) .nil)) b3 := rfl
theorem q3 : b3 = .set 4 (.callB 23 0 (.cons (pk b3) .nil)) b4 := rfl
theorem q4 : b4 = .set 5 (.callB 23 0 (.cons (pk b4) .nil)) b5 := rfl
theorem q5 : b5 = .set 6 (.lst (.cons (.lamc 24 (.call 10 (.cons (.var 1) (.cons (.var 2) .nil)))) .nil)) b6 := rfl
theorem q6 : b6 = .app 6 (.lamc 24 (.call 11 (.cons (.var 1) (.cons (.var 2) .nil)))) b7 := rfl
theorem q7 : b7 = .app 6 (.lamc 24 (.call 12 (.cons (.var 1) (.cons (.var 2) .nil)))) b8 := rfl
theorem q8 : b8 = .app 6 (.lamc 24 (.call 13 (.cons (.var 1) (.cons (.var 3) .nil)))) b9 := rfl
theorem q9 : b9 = .app 6 (.lamc 24 (.call 14 (.cons (.var 1) (.cons (.var 3) .nil)))) b10 := rfl
theorem q10 : b10 = .app 6 (.lamc 24 (.call 15 (.cons (.var 1) (.cons (.var 4) .nil)))) b11 := rfl
theorem q11 : b11 = .app 6 (.lamc 24 (.call 11 (.cons (.lit (.str [97, 98])) (.cons (.var 2) .nil)))) b12 := rfl
theorem q12 : b12 = .app 6 (.lamc 24 (.call 12 (.cons (.lit (.str [97, 98])) (.cons (.var 2) .nil)))) b13 := rfl
theorem q13 : b13 = .app 6 (.lamc 24 (.call 13 (.cons (.lit (.str [97, 98])) (.cons (.var 3) .nil)))) b14 := rfl
theorem q14 : b14 = .app 6 (.lamc 24 (.call 14 (.cons (.lit (.str [97, 98])) (.cons (.var 3) .nil)))) b15 := rfl
theorem q15 : b15 = .app 6 (.lamc 24 (.call 15 (.cons (.lit (.str [97, 98])) (.cons (.var 4) .nil)))) b16 := rfl
theorem q16 : b16 = .app 6 (.lamc 24 (.call 12 (.cons (.lit (.str [97, 98])) (.cons (.var 5) .nil)))) b17 := rfl
theorem q17 : b17 = .app 6 (.lamc 24 (.call 10 (.cons (.lit (.str [97, 98])) (.cons (.var 2) .nil)))) b18 := rfl
theorem right_ok {c : Nat} {o : OD} (ht : Tray c o) (hc : c ≤ 100) : ∃ o', callK GL 500 19 25 (some o) [] = .ok (.val (.bl true)) (some o') ∧ Tray (c + 5) o' := by
  obtain ⟨s, o1, hs, t1', e1⟩ := es_pick (le := pk b0) (r := b1) (rest := .nil) (l := SIG) (i := 0) (as := [.free, .free, .free, .free, .free, .free, .free]) ht (by omega) (by decide) (by decide) (by simp) (fun o => by kernel_rfl)
  obtain ⟨l, o2, hl, t2', e2⟩ := es_pick (le := pk b1) (r := b2) (rest := .nil) (l := LIN) (i := 1) (as := [.im s, .free, .free, .free, .free, .free, .free]) t1' (by omega) (by decide) (by decide) (by simp) (fun o => by kernel_rfl)
  obtain ⟨d, o3, hd, t3', e3⟩ := es_pick (le := pk b2) (r := b3) (rest := .nil) (l := DEP) (i := 2) (as := [.im s, .im l, .free, .free, .free, .free, .free]) t2' (by omega) (by decide) (by decide) (by simp) (fun o => by kernel_rfl)
  obtain ⟨m, o4, hm, t4', e4⟩ := es_pick (le := pk b3) (r := b4) (rest := .nil) (l := MUC) (i := 3) (as := [.im s, .im l, .im d, .free, .free, .free, .free]) t3' (by omega) (by decide) (by decide) (by simp) (fun o => by kernel_rfl)
  obtain ⟨x, o5, hx, t5', e5⟩ := es_pick (le := pk b4) (r := b5) (rest := .nil) (l := LON) (i := 4) (as := [.im s, .im l, .im d, .im m, .free, .free, .free]) t4' (by omega) (by decide) (by decide) (by simp) (fun o => by kernel_rfl)
  obtain ⟨x1, x2, x3⟩ := and3 (all2 t1 hs hl)
  obtain ⟨x4, x5⟩ := and2 (all2 t2 hs hd)
  have x6 := all2 t3 hs hm
  obtain ⟨y1, y2, y3⟩ := and3 (all1 t4 hl)
  obtain ⟨y4, y5⟩ := and2 (all1 t5 hd)
  have y6 := all1 t6 hm
  have y7 := all1 t7 hx
  refine ⟨o5, ?_, t5'.mono (by omega)⟩
  rw [call1 (m := 7) (c := c25) rfl rfl rfl rfl rfl]
  have f1 : evS GL cf18 500 b0 (.own true o :: [.free, .free, .free, .free, .free, .free, .free]) = evS GL cf18 500 b5 [.own true o5, .im s, .im l, .im d, .im m, .im x, .free, .free] := by
    rw [q0]; refine e1.trans ?_
    rw [q1]; refine e2.trans ?_
    rw [q2]; refine e3.trans ?_
    rw [q3]; refine e4.trans ?_
    rw [q4]; exact e5
  have g5 : evS GL cf18 500 b5 [.own true o5, .im s, .im l, .im d, .im m, .im x, .free, .free] = evS GL cf18 500 b6 [.own true o5, .im s, .im l, .im d, .im m, .im x, .own false (.lst [.str LET]), .free] := by rw [q5]; exact stepS rfl (met_ok x1)
  have g6 : evS GL cf18 500 b6 [.own true o5, .im s, .im l, .im d, .im m, .im x, .own false (.lst [.str LET]), .free] = evS GL cf18 500 b7 [.own true o5, .im s, .im l, .im d, .im m, .im x, .own false (.lst [.str LET, .str LET]), .free] := by rw [q6]; exact stepA (t := [.str LET]) rfl (met_ok x2) (by simp)
  have g7 : evS GL cf18 500 b7 [.own true o5, .im s, .im l, .im d, .im m, .im x, .own false (.lst [.str LET, .str LET]), .free] = evS GL cf18 500 b8 [.own true o5, .im s, .im l, .im d, .im m, .im x, .own false (.lst [.str LET, .str LET, .str LET]), .free] := by rw [q7]; exact stepA (t := [.str LET, .str LET]) rfl (met_ok x3) (by simp)
  have g8 : evS GL cf18 500 b8 [.own true o5, .im s, .im l, .im d, .im m, .im x, .own false (.lst [.str LET, .str LET, .str LET]), .free] = evS GL cf18 500 b9 [.own true o5, .im s, .im l, .im d, .im m, .im x, .own false (.lst [.str LET, .str LET, .str LET, .str LET]), .free] := by rw [q8]; exact stepA (t := [.str LET, .str LET, .str LET]) rfl (met_ok x4) (by simp)
  have g9 : evS GL cf18 500 b9 [.own true o5, .im s, .im l, .im d, .im m, .im x, .own false (.lst [.str LET, .str LET, .str LET, .str LET]), .free] = evS GL cf18 500 b10 [.own true o5, .im s, .im l, .im d, .im m, .im x, .own false (.lst [.str LET, .str LET, .str LET, .str LET, .str LET]), .free] := by rw [q9]; exact stepA (t := [.str LET, .str LET, .str LET, .str LET]) rfl (met_ok x5) (by simp)
  have g10 : evS GL cf18 500 b10 [.own true o5, .im s, .im l, .im d, .im m, .im x, .own false (.lst [.str LET, .str LET, .str LET, .str LET, .str LET]), .free] = evS GL cf18 500 b11 [.own true o5, .im s, .im l, .im d, .im m, .im x, .own false (.lst [.str LET, .str LET, .str LET, .str LET, .str LET, .str LET]), .free] := by rw [q10]; exact stepA (t := [.str LET, .str LET, .str LET, .str LET, .str LET]) rfl (met_ok x6) (by simp)
  have g11 : evS GL cf18 500 b11 [.own true o5, .im s, .im l, .im d, .im m, .im x, .own false (.lst [.str LET, .str LET, .str LET, .str LET, .str LET, .str LET]), .free] = evS GL cf18 500 b12 [.own true o5, .im s, .im l, .im d, .im m, .im x, .own false (.lst [.str LET, .str LET, .str LET, .str LET, .str LET, .str LET, .str PAT]), .free] := by rw [q11]; exact stepA (t := [.str LET, .str LET, .str LET, .str LET, .str LET, .str LET]) rfl (met_ok y1) (by simp)
  have g12 : evS GL cf18 500 b12 [.own true o5, .im s, .im l, .im d, .im m, .im x, .own false (.lst [.str LET, .str LET, .str LET, .str LET, .str LET, .str LET, .str PAT]), .free] = evS GL cf18 500 b13 [.own true o5, .im s, .im l, .im d, .im m, .im x, .own false (.lst [.str LET, .str LET, .str LET, .str LET, .str LET, .str LET, .str PAT, .str PAT]), .free] := by rw [q12]; exact stepA (t := [.str LET, .str LET, .str LET, .str LET, .str LET, .str LET, .str PAT]) rfl (met_ok y2) (by simp)
  have g13 : evS GL cf18 500 b13 [.own true o5, .im s, .im l, .im d, .im m, .im x, .own false (.lst [.str LET, .str LET, .str LET, .str LET, .str LET, .str LET, .str PAT, .str PAT]), .free] = evS GL cf18 500 b14 [.own true o5, .im s, .im l, .im d, .im m, .im x, .own false (.lst [.str LET, .str LET, .str LET, .str LET, .str LET, .str LET, .str PAT, .str PAT, .str (NUM d)]), .free] := by rw [q13]; exact stepA (t := [.str LET, .str LET, .str LET, .str LET, .str LET, .str LET, .str PAT, .str PAT]) rfl (met_ok y4) (by simp)
  have g14 : evS GL cf18 500 b14 [.own true o5, .im s, .im l, .im d, .im m, .im x, .own false (.lst [.str LET, .str LET, .str LET, .str LET, .str LET, .str LET, .str PAT, .str PAT, .str (NUM d)]), .free] = evS GL cf18 500 b15 [.own true o5, .im s, .im l, .im d, .im m, .im x, .own false (.lst [.str LET, .str LET, .str LET, .str LET, .str LET, .str LET, .str PAT, .str PAT, .str (NUM d), .str (NUM d)]), .free] := by rw [q14]; exact stepA (t := [.str LET, .str LET, .str LET, .str LET, .str LET, .str LET, .str PAT, .str PAT, .str (NUM d)]) rfl (met_ok y5) (by simp)
  have g15 : evS GL cf18 500 b15 [.own true o5, .im s, .im l, .im d, .im m, .im x, .own false (.lst [.str LET, .str LET, .str LET, .str LET, .str LET, .str LET, .str PAT, .str PAT, .str (NUM d), .str (NUM d)]), .free] = evS GL cf18 500 b16 [.own true o5, .im s, .im l, .im d, .im m, .im x, .own false (.lst [.str LET, .str LET, .str LET, .str LET, .str LET, .str LET, .str PAT, .str PAT, .str (NUM d), .str (NUM d), .str (NUM m)]), .free] := by rw [q15]; exact stepA (t := [.str LET, .str LET, .str LET, .str LET, .str LET, .str LET, .str PAT, .str PAT, .str (NUM d), .str (NUM d)]) rfl (met_ok y6) (by simp)
  have g16 : evS GL cf18 500 b16 [.own true o5, .im s, .im l, .im d, .im m, .im x, .own false (.lst [.str LET, .str LET, .str LET, .str LET, .str LET, .str LET, .str PAT, .str PAT, .str (NUM d), .str (NUM d), .str (NUM m)]), .free] = evS GL cf18 500 b17 [.own true o5, .im s, .im l, .im d, .im m, .im x, .own false (.lst [.str LET, .str LET, .str LET, .str LET, .str LET, .str LET, .str PAT, .str PAT, .str (NUM d), .str (NUM d), .str (NUM m), .str OPR]), .free] := by rw [q16]; exact stepA (t := [.str LET, .str LET, .str LET, .str LET, .str LET, .str LET, .str PAT, .str PAT, .str (NUM d), .str (NUM d), .str (NUM m)]) rfl (met_ok y7) (by simp)
  have g17 : evS GL cf18 500 b17 [.own true o5, .im s, .im l, .im d, .im m, .im x, .own false (.lst [.str LET, .str LET, .str LET, .str LET, .str LET, .str LET, .str PAT, .str PAT, .str (NUM d), .str (NUM d), .str (NUM m), .str OPR]), .free] = evS GL cf18 500 b18 [.own true o5, .im s, .im l, .im d, .im m, .im x, .own false (.lst [.str LET, .str LET, .str LET, .str LET, .str LET, .str LET, .str PAT, .str PAT, .str (NUM d), .str (NUM d), .str (NUM m), .str OPR, .str GOO]), .free] := by rw [q17]; exact stepA (t := [.str LET, .str LET, .str LET, .str LET, .str LET, .str LET, .str PAT, .str PAT, .str (NUM d), .str (NUM d), .str (NUM m), .str OPR]) rfl (met_ok y3) (by simp)
  show fin true (evS GL cf18 500 b0 (.own true o :: [.free, .free, .free, .free, .free, .free, .free])) = _
  rw [f1, g5, g6, g7, g8, g9, g10, g11, g12, g13, g14, g15, g16, g17]
  exact last_ok hd hm
end Hk09
namespace Hk09
open PySem PySem.Spec L2 Sg Ev
abbrev cf19 : CallF := callK GL 500 19
def inB : CS := .ifs (.not (.callB 25 3 .nil)) (.ret (.lit (.bl false))) .nil .nil
def lawB : CS := .set 3 (.call 21 (.cons (.var 0) (.cons (.var 1) .nil))) (.fors [4] (.rng (.lit (.int 3))) inB .nil)
def lawR : CS := match c26.body with
  | .fors _ _ _ r => r
  | _ => .bad
theorem law_split : c26.body = .fors [1] (.rng (.bl2 .max (.lit (.int 1)) (.bl2 .min (.lit (.int 8)) (.bl .len (.var 0))))) lawB lawR := rfl
theorem turn {c : Nat} {o : OD} {X Y t : Dt} (ht : Tray c o) (hc : c ≤ 100) : ∃ o', Tray (c + 5) o' ∧ evS GL cf19 500 inB [.im X, .im Y, .free, .own false o, .im t] = .ok (.nx, [.im X, .im Y, .free, .own false o', .im t]) := by
  obtain ⟨o', e, t'⟩ := right_ok ht hc
  refine ⟨o', t', ?_⟩
  have x2 : evE GL cf19 (.callB 25 3 .nil) [.im X, .im Y, .free, .own false o, .im t] = .ok (.val (.bl true), [.im X, .im Y, .free, .own false o', .im t]) := by
    show (match callK GL 500 19 25 (some o) [] with
      | .ok rv (some o') => Res.ok (rv, [Cell.im X, .im Y, .free, .own false o', .im t])
      | .er r (some o') => .er r [Cell.im X, .im Y, .free, .own false o', .im t]
      | _ => .no) = _
    rw [e]
  have x3 : evE GL cf19 (.not (.callB 25 3 .nil)) [.im X, .im Y, .free, .own false o, .im t] = .ok (.val (.bl false), [.im X, .im Y, .free, .own false o', .im t]) := by
    show (tt GL (evE GL cf19 (.callB 25 3 .nil) _)).bind _ = _
    rw [x2]
    rfl
  unfold inB
  rw [es_ifs x3]
  rfl
def ac : Option Dt → Cell
  | none => .free
  | some d => .im d
theorem forL_cons {tg : List Nat} {f : List Cell → RS} {d : Dt} {l : List Dt} {ds ds1 ds2 : List Cell} (h : setTgB ds tg d = some ds1) (hf : f ds1 = .ok (.nx, ds2)) : forL tg f (d :: l) ds = forL tg f l ds2 := by
  show (match setTgB ds tg d with
    | none => Res.no
    | some ds1 => (f ds1).bind fun x => match x.1 with
      | .nx => forL tg f l x.2
      | .ct => forL tg f l x.2
      | .bk => .ok (.nx, x.2)
      | .rt r => .ok (.rt r, x.2)) = _
  rw [h]
  show (f ds1).bind _ = _
  rw [hf]
  rfl
theorem one {ns : List Int} {i : Nat} (hi : i ≤ 100) {tr : Cell} {tu : Option Dt} : ∃ o, evS GL cf19 500 lawB [.im (Dt.ints ns), .im (.int (i : Int)), .free, tr, ac tu] = .ok (.nx, [.im (Dt.ints ns), .im (.int (i : Int)), .free, .own false o, ac (some (.int 2))]) := by
  obtain ⟨o, e, t⟩ := tray_ok (G := GL) (W := 500) (k := 18) (ft := 21) rfl (ns := ns) (show i ≤ 1000 by omega)
  obtain ⟨o1, t1, e1⟩ := turn (X := Dt.ints ns) (Y := .int (i : Int)) (t := .int 0) t (by omega)
  obtain ⟨o2, t2, e2⟩ := turn (X := Dt.ints ns) (Y := .int (i : Int)) (t := .int 1) t1 (by omega)
  obtain ⟨o3, t3, e3⟩ := turn (X := Dt.ints ns) (Y := .int (i : Int)) (t := .int 2) t2 (by omega)
  refine ⟨o3, ?_⟩
  have x1 : evE GL cf19 (.call 21 (.cons (.var 0) (.cons (.var 1) .nil))) [.im (Dt.ints ns), .im (.int (i : Int)), .free, tr, ac tu] = .ok (.new o, [.im (Dt.ints ns), .im (.int (i : Int)), .free, tr, ac tu]) := by
    show goCall (callK GL 500 19) 21 [Dt.ints ns, .int (i : Int)] _ = _
    unfold goCall
    rw [e]
  unfold lawB
  show (evE GL cf19 (.call 21 (.cons (.var 0) (.cons (.var 1) .nil))) [.im (Dt.ints ns), .im (.int (i : Int)), .free, tr, ac tu]).bind _ = _
  rw [x1]
  show evS GL cf19 500 (.fors [4] (.rng (.lit (.int 3))) inB .nil) [.im (Dt.ints ns), .im (.int (i : Int)), .free, .own false o, ac tu] = _
  have hit : (vv GL (evE GL cf19 (.rng (.lit (.int 3))) [.im (Dt.ints ns), .im (.int (i : Int)), .free, .own false o, ac tu])).bind asItems = .ok ([.int 0, .int 1, .int 2], [.im (Dt.ints ns), .im (.int (i : Int)), .free, .own false o, ac tu]) := by kernel_rfl
  refine (es_fors hit (ds2 := [.im (Dt.ints ns), .im (.int (i : Int)), .free, .own false o3, ac (some (.int 2))]) ?_).trans rfl
  have s0 : setTgB [.im (Dt.ints ns), .im (.int (i : Int)), .free, .own false o, ac tu] [4] (.int 0) = some [.im (Dt.ints ns), .im (.int (i : Int)), .free, .own false o, .im (.int 0)] := by cases tu <;> rfl
  rw [forL_cons s0 e1, forL_cons (ds1 := [.im (Dt.ints ns), .im (.int (i : Int)), .free, .own false o1, .im (.int 1)]) rfl e2, forL_cons (ds1 := [.im (Dt.ints ns), .im (.int (i : Int)), .free, .own false o2, .im (.int 2)]) rfl e3]
  rfl
theorem rngs_succ {j k : Nat} : rngs (j : Int) (k + 1) = .int (j : Int) :: rngs ((j + 1 : Nat) : Int) k := by
  unfold rngs
  rw [List.range_succ_eq_map, List.map_cons, List.map_map]
  refine List.cons_eq_cons.mpr ⟨by simp, List.map_congr_left fun x _ => ?_⟩
  show Dt.int ((j : Int) + ((x + 1 : Nat) : Int)) = Dt.int (((j + 1 : Nat) : Int) + (x : Int))
  rw [show (j : Int) + ((x + 1 : Nat) : Int) = ((j + 1 : Nat) : Int) + (x : Int) by omega]
theorem loop {ns : List Int} : ∀ (k j : Nat), j + k ≤ 99 → ∀ (a : Option Dt) (tr : Cell) (tu : Option Dt), ∃ (X : Dt) (tr' : Cell) (Z : Dt), forL [1] (fun ds => evS GL cf19 500 lawB ds) (rngs (j : Int) (k + 1)) [.im (Dt.ints ns), ac a, .free, tr, ac tu] = .ok (.nx, [.im (Dt.ints ns), .im X, .free, tr', .im Z])
  | 0, j, h, a, tr, tu => by
    obtain ⟨o, e⟩ := one (ns := ns) (i := j) (by omega) (tr := tr) (tu := tu)
    refine ⟨.int (j : Int), .own false o, .int 2, ?_⟩
    have s0 : setTgB [.im (Dt.ints ns), ac a, .free, tr, ac tu] [1] (.int (j : Int)) = some [.im (Dt.ints ns), .im (.int (j : Int)), .free, tr, ac tu] := by cases a <;> rfl
    rw [rngs_succ, forL_cons s0 e]
    rfl
  | k + 1, j, h, a, tr, tu => by
    obtain ⟨o, e⟩ := one (ns := ns) (i := j) (by omega) (tr := tr) (tu := tu)
    obtain ⟨X, tr', Z, e'⟩ := loop (ns := ns) k (j + 1) (by omega) (some (.int (j : Int))) (.own false o) (some (.int 2))
    refine ⟨X, tr', Z, ?_⟩
    have s0 : setTgB [.im (Dt.ints ns), ac a, .free, tr, ac tu] [1] (.int (j : Int)) = some [.im (Dt.ints ns), .im (.int (j : Int)), .free, tr, ac tu] := by cases a <;> rfl
    rw [rngs_succ, forL_cons s0 e]
    exact e'
def okT : RS → Bool
  | .ok (.rt (.val (.bl true)), _) => true
  | _ => false
theorem fin_okT {r : RS} (h : okT r = true) : fin false r = .ok (.val (.bl true)) none := by
  unfold okT at h
  split at h
  · rfl
  · cases h
end Hk09
namespace Hk09
open PySem PySem.Spec L2 Sg Ev
theorem rest_s {X Y Z : Dt} {tr : Cell} : okT (evS GL cf19 500 lawR [.im X, .im Y, .free, tr, .im Z]) = true := by kernel_rfl
end Hk09
namespace Hk09
open PySem PySem.Spec L2 Sg Ev
theorem law_ok2 (ns : List Int) (hl : ns.length ≤ 63) : callK GL 500 20 26 none [Dt.ints ns] = .ok (.val (.bl true)) none := by
  rw [call0 (m := 4) (c := c26) rfl rfl rfl rfl rfl]
  have hn : max 1 (min 8 ns.length) = (max 1 (min 8 ns.length) - 1) + 1 := by omega
  obtain ⟨X, tr, Z, e⟩ := loop (ns := ns) (max 1 (min 8 ns.length) - 1) 0 (by omega) none .free none
  rw [← hn] at e
  have e' : forL [1] (fun ds => evS GL cf19 500 lawB ds) (rngs 0 (max 1 (min 8 ns.length))) [.im (Dt.ints ns), .free, .free, .free, .free] = .ok (.nx, [.im (Dt.ints ns), .im X, .free, tr, .im Z]) := e
  show fin false (evS GL cf19 500 c26.body [.im (Dt.ints ns), .free, .free, .free, .free]) = _
  rw [law_split, es_fors (law_rng (M := 8) (m := 8) rfl (by omega) rfl) e']
  exact fin_okT rest_s
theorem law_ok (ns : List Int) (hl : ns.length ≤ 63) : callK (G.lam 500) 500 20 26 none [Dt.ints ns] = .ok (.val (.bl true)) none := by
  rw [G_eq]
  exact law_ok2 ns hl
end Hk09
open PySem PySem.W PyProof.Rows
set_option maxRecDepth 100000 in
set_option maxHeartbeats 0 in
theorem PySem.Challenge.cw_signedcounts_k09_errors_of_leading_patte_holds : PySem.Challenge.rw_signedcounts_k09_errors_of_leading_patte.Holds := by
  w_on; o_law; k_head; (case hw => w_witness2)
  k_fill
  refine Ev.law_end (l := PySem.Challenge.rw_signedcounts_k09_errors_of_leading_patte) (n := 63) (k := 20) (W := 500) (G := Hk09.G) (gl := Hk09.gl) (fdn := Hk09.fdn) (f := 26) rfl (by decide) rfl ⟨rfl, by decide, by decide⟩ (fun w h Y => by first | exact PySem.W.kIn_of Y | exact PySem.W.km_in_of Y) (fun L k _ => Ev.hop_none (fun _ _ => rfl) (fun _ => rfl)) (fun L k _ => Ev.hop_none (fun _ _ => rfl) (fun _ => rfl)) rfl ?F ?law
  case F =>
    intro w mg fa h KX G hmg own
    refine' Hk09.all_mk KX G hmg ⟨own "_law_right" (by first | rfl | decide +kernel), own "law" (by first | rfl | decide +kernel), trivial⟩ ?a0 ?l0 ?c0 ?k0 ?a1 ?l1 ?c1 ?k1 ?a2 ?l2 ?c2 ?k2 ?a3 ?l3 ?c3 ?k3 ?a4 ?l4 ?c4 ?k4 ?a5 ?l5 ?c5 ?k5 ?a6 ?l6 ?c6 ?k6 ?a7 ?l7 ?c7 ?k7 ?a8 ?l8 ?c8 ?k8 ?a9 ?l9 ?c9 ?k9 ?a10 ?l10 ?c10 ?k10 ?a11 ?l11 ?c11 ?k11 ?a12 ?l12 ?c12 ?k12 ?a13 ?l13 ?c13 ?k13 ?a14 ?l14 ?c14 ?k14 ?a15 ?l15 ?c15 ?k15 ?a16 ?l16 ?c16 ?k16 ?a17 ?l17 ?c17 ?k17 ?a18 ?l18 ?c18 ?k18 ?a19 ?l19 ?c19 ?k19 ?a20 ?l20 ?c20 ?k20 ?a21 ?l21 ?c21 ?k21 ?a22 ?l22 ?c22 ?k22 ?a23 ?l23 ?c23 ?k23 ?a24 ?l24 ?c24 ?k24 ?a25 ?l25 ?c25 ?k25 ?a26 ?l26 ?c26 ?k26 ?q25 ?q11_25 ?q18_25 ?q7_25 ?q9_25 ?q10_25 ?qn_25 ?qp_25 ?q26 ?q11_26 ?q18_26 ?q7_26 ?q9_26 ?q10_26 ?qn_26 ?qp_26 ?qq25_26 ?xa0 ?xs0_ ?xt0 ?xk0 ?xic0 ?xe0 ?xa1 ?xs1_ ?xt1 ?xk1 ?xic1 ?xe1 ?xa2 ?xs2_ ?xt2 ?xk2 ?xic2 ?xe2 ?xa3 ?xs3_ ?xt3 ?xk3 ?xic3 ?xe3 ?xa4 ?xs4_ ?xt4 ?xk4 ?xic4 ?xq4 ?xsa4 ?xga4 ?xgg4 ?xhd4 ?xi4 ?xti4 ?xl4 ?xc4 ?xkp4 ?xn4_0 ?xg4 ?xv4 ?m0_0 ?m0_1 ?m0_2 ?m0_3 ?m0_4 ?m1_0 ?m1_1 ?m1_2 ?m1_3 ?m1_4 ?m2_0 ?m2_1 ?m2_2 ?m2_3 ?m2_4 ?m3_0 ?m3_1 ?m3_2 ?m3_3 ?m3_4 ?m4_0 ?m4_1 ?m4_2 ?m4_3 ?m4_4 ?z0 ?z1 ?z2 ?z3 ?z4 ?z5 ?z6 ?z7 ?z8 ?z9 ?z10 ?z11 ?z12 ?z13 ?z14 ?z15 ?z16 ?z17 ?z18 ?z19 ?z20 ?d0 ?d1 ?d2 ?d3 ?d4
    (case a0 => k_is)
    (case l0 => k_is)
    (case c0 => k_is)
    (case k0 => k_is)
    (case a1 => k_is)
    (case l1 => k_is)
    (case c1 => k_is)
    (case k1 => k_is)
    (case a2 => k_is)
    (case l2 => k_is)
    (case c2 => k_is)
    (case k2 => k_is)
    (case a3 => k_is)
    (case l3 => k_is)
    (case c3 => k_is)
    (case k3 => k_is)
    (case a4 => k_is)
    (case l4 => k_is)
    (case c4 => k_is)
    (case k4 => k_is)
    (case a5 => k_is)
    (case l5 => k_is)
    (case c5 => k_is)
    (case k5 => k_is)
    (case a6 => k_is)
    (case l6 => k_is)
    (case c6 => k_is)
    (case k6 => k_is)
    (case a7 => k_is)
    (case l7 => k_is)
    (case c7 => k_is)
    (case k7 => k_is)
    (case a8 => k_is)
    (case l8 => k_is)
    (case c8 => k_is)
    (case k8 => k_is)
    (case a9 => k_is)
    (case l9 => k_is)
    (case c9 => k_is)
    (case k9 => k_is)
    (case a10 => k_is)
    (case l10 => k_is)
    (case c10 => k_is)
    (case k10 => k_is)
    (case a11 => k_is)
    (case l11 => k_is)
    (case c11 => k_is)
    (case k11 => k_is)
    (case a12 => k_is)
    (case l12 => k_is)
    (case c12 => k_is)
    (case k12 => k_is)
    (case a13 => k_is)
    (case l13 => k_is)
    (case c13 => k_is)
    (case k13 => k_is)
    (case a14 => k_is)
    (case l14 => k_is)
    (case c14 => k_is)
    (case k14 => k_is)
    (case a15 => k_is)
    (case l15 => k_is)
    (case c15 => k_is)
    (case k15 => k_is)
    (case a16 => k_is)
    (case l16 => k_is)
    (case c16 => k_is)
    (case k16 => k_is)
    (case a17 => k_is)
    (case l17 => k_is)
    (case c17 => k_is)
    (case k17 => k_is)
    (case a18 => k_is)
    (case l18 => k_is)
    (case c18 => k_is)
    (case k18 => k_is)
    (case a19 => k_is)
    (case l19 => k_is)
    (case c19 => k_is)
    (case k19 => k_is)
    (case a20 => k_is)
    (case l20 => k_is)
    (case c20 => k_is)
    (case k20 => k_is)
    (case a21 => k_is)
    (case l21 => k_is)
    (case c21 => k_is)
    (case k21 => k_is)
    (case a22 => k_is)
    (case l22 => k_is)
    (case c22 => k_is)
    (case k22 => k_is)
    (case a23 => k_is)
    (case l23 => k_is)
    (case c23 => k_is)
    (case k23 => k_is)
    (case a24 => k_is)
    (case l24 => k_is)
    (case c24 => k_is)
    (case k24 => k_is)
    (case a25 => k_is)
    (case l25 => k_is)
    (case c25 => k_is)
    (case k25 => k_is)
    (case a26 => k_is)
    (case l26 => k_is)
    (case c26 => k_is)
    (case k26 => k_is)
    (case q25 => k_is)
    (case q11_25 => first | rfl | decide +kernel)
    (case q18_25 => first | rfl | decide +kernel)
    (case q7_25 => first | rfl | decide +kernel)
    (case q9_25 => first | rfl | decide +kernel)
    (case q10_25 => first | rfl | decide +kernel)
    (case qn_25 => first | rfl | decide +kernel)
    (case qp_25 => first | rfl | decide +kernel)
    (case q26 => k_is)
    (case q11_26 => first | rfl | decide +kernel)
    (case q18_26 => first | rfl | decide +kernel)
    (case q7_26 => first | rfl | decide +kernel)
    (case q9_26 => first | rfl | decide +kernel)
    (case q10_26 => first | rfl | decide +kernel)
    (case qn_26 => first | rfl | decide +kernel)
    (case qp_26 => first | rfl | decide +kernel)
    (case qq25_26 => first | rfl | decide +kernel)
    (case xa0 => k_is)
    (case xs0_ => k_is)
    (case xt0 => k_is)
    (case xk0 => k_is)
    (case xic0 => k_is)
    (case xe0 => k_exc)
    (case xa1 => k_is)
    (case xs1_ => k_is)
    (case xt1 => k_is)
    (case xk1 => k_is)
    (case xic1 => k_is)
    (case xe1 => k_exc)
    (case xa2 => k_is)
    (case xs2_ => k_is)
    (case xt2 => k_is)
    (case xk2 => k_is)
    (case xic2 => k_is)
    (case xe2 => k_exc)
    (case xa3 => k_is)
    (case xs3_ => k_is)
    (case xt3 => k_is)
    (case xk3 => k_is)
    (case xic3 => k_is)
    (case xe3 => k_exc)
    (case xa4 => k_is)
    (case xs4_ => k_is)
    (case xt4 => k_is)
    (case xk4 => k_is)
    (case xic4 => k_is)
    (case xq4 => k_is)
    (case xsa4 => k_is)
    (case xga4 => k_is)
    (case xgg4 => k_is)
    (case xhd4 => k_is)
    (case xi4 => k_is)
    (case xti4 => k_is)
    (case xl4 => k_is)
    (case xc4 => k_is)
    (case xkp4 => k_is)
    (case xn4_0 => k_is)
    (case xg4 => k_is)
    (case xv4 => k_is)
    (case m0_0 => k_is)
    (case m0_1 => k_is)
    (case m0_2 => k_is)
    (case m0_3 => k_is)
    (case m0_4 => k_is)
    (case m1_0 => k_is)
    (case m1_1 => k_is)
    (case m1_2 => k_is)
    (case m1_3 => k_is)
    (case m1_4 => k_is)
    (case m2_0 => k_is)
    (case m2_1 => k_is)
    (case m2_2 => k_is)
    (case m2_3 => k_is)
    (case m2_4 => k_is)
    (case m3_0 => k_is)
    (case m3_1 => k_is)
    (case m3_2 => k_is)
    (case m3_3 => k_is)
    (case m3_4 => k_is)
    (case m4_0 => k_is)
    (case m4_1 => k_is)
    (case m4_2 => k_is)
    (case m4_3 => k_is)
    (case m4_4 => k_is)
    (case z0 => k_is)
    (case z1 => k_is)
    (case z2 => k_is)
    (case z3 => k_is)
    (case z4 => k_is)
    (case z5 => k_is)
    (case z6 => k_is)
    (case z7 => k_is)
    (case z8 => k_is)
    (case z9 => k_is)
    (case z10 => k_is)
    (case z11 => k_is)
    (case z12 => k_is)
    (case z13 => k_is)
    (case z14 => k_is)
    (case z15 => k_is)
    (case z16 => k_is)
    (case z17 => k_is)
    (case z18 => k_is)
    (case z19 => k_is)
    (case z20 => k_is)
    (case d0 => exact ⟨_, by k_is⟩)
    (case d1 => exact ⟨_, by k_is⟩)
    (case d2 => exact ⟨_, by k_is⟩)
    (case d3 => exact ⟨_, by k_is⟩)
    (case d4 => exact ⟨_, by k_is⟩)
  case law => exact fun ns hl => Hk09.law_ok ns hl
