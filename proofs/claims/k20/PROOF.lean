import PyProof.Rows.All
import Wide.All
import OpenK.AllK
import Wide.FinOn
import PyProof.ReprRoads
import HandS.ForMost
import HandS.ForExc
import HandS.Wide
import HandS.EndBits
import HandS.FStrTup
import HandS.Flow
import HandS.IsInst
import HandS.SetFor
import HandS.Conv
import HandS.Style
import HandS.Sort
import HandS.Gcd
import KE.KMathG
import PyProof.StrBlock2
import HandS.Text
import HandS.StrMore
import HandS.Property
import HandS.MethStar
import HandS.ClsMeth
import HandS.WordsExc
import HandS.ExcOwn
import HandS.RaiseMore
import HandS.FStr
import HandS.TryOnly
import HandS.ExcIs
import HandS.NoneIn
import KE.DataMinMax
import Flt.Sum
import HandS.SlotsOwn
import HandS.More
import HandS.WordsDict
import HandS.Strs
import PyProof.Rows.SetFrom
import HandS.DictTup
import HandS.TupAny
import HandS.CallLocal
import HandS.Zip
import KE.GoesEnum
import KE.GoesMore
import PyProof.Rows.TupDisplay
import HandS.Replace
import HandS.ReplaceLit
import HandS.ReplaceList
import HandS.TupMul
import HandS.TupSets
import HandS.Rev
import HandS.Deep
import PyProof.EnumMake
import KE.KDictZip
import KE.KDictItemsList
import HandS.Nested
import HandS.ExcInit
import KE.KExcSuper
import HandS.ExcField
import PySem.Challenge.RW_splitnames_k20_routings_returned
set_option Elab.async false
set_option linter.all false
set_option maxRecDepth 100000
set_option maxHeartbeats 2000000
namespace Vg
open PySem PySem.Spec PyProof.Rows L2

/-- a def's promise where no repr is under way around the call -/
structure Fg (P : Program) (w : World) (K : PySem.W.Frag) (mg : Str → Option Value) (bs : Heap) (C : CXT) (n : Nat) (f : Addr) (fd : FuncData) (ps : List Str) (sp : Sp) : Prop where
  ar : ∀ vs H Q E, sp vs H Q E → vs.length = ps.length
  go : ∀ (A : Around) (fr : List Env) (s : Shared) (H : Hp) (gs : Args) (us : List Value) (vs : List V) (Q : VK) (E : XK), A.guards = some [] → Room n A → Env0 P w K mg bs A fr s H →
    BindsTo s fd gs (ps.zip us) → Vals vs us → sp vs H Q E → codeAny (model P w) A (.call (.ref f) gs) (CR C fr P w H s Q E) s

section
variable {P : Program} {w : World} {K : PySem.W.Frag} {mg : Str → Option Value} {bs : Heap} {C : CXT} {n : Nat} {f : Addr} {fd : FuncData} {ps : List Str} {sp : Sp}
theorem Fg.up {m : Nat} (F : Fg P w K mg bs C n f fd ps sp) (h : n ≤ m) : Fg P w K mg bs C m f fd ps sp :=
  ⟨F.ar, fun A fr s H gs us vs Q E g r => F.go A fr s H gs us vs Q E g (r.mono h)⟩
theorem Fg.weaker {sq : Sp} (F : Fg P w K mg bs C n f fd ps sp) (h : ∀ vs H Q E, sq vs H Q E → sp vs H Q E) : Fg P w K mg bs C n f fd ps sq :=
  ⟨fun vs H Q E q => F.ar vs H Q E (h _ _ _ _ q), fun A fr s H gs us vs Q E g r e b v q => F.go A fr s H gs us vs Q E g r e b v (h _ _ _ _ q)⟩

/-- from a body's reading -/
theorem Fg.mk' {N : List Str} {nm qual : Str} {pr : Arguments} {body : List Stmt} {sc : Scope} {dV kV doc pm cdv ct oc : Value} {an od : Option Addr} {osl : Array (Option Value)}
    (lk : K.lookup f = some ⟨oc, od, .func (PySem.W.fnOf nm qual pr body sc dV kV doc pm an cdv ct), osl⟩) (hc : PySem.W.codeIn K cdv qual = true) (S : FnScope N ps sc)
    (ar : ∀ vs H Q E, sp vs H Q E → vs.length = ps.length)
    (hb : ∀ (A : Around) (fr : List Env) (s : Shared) (H : Hp) (vs : List V) (Q : VK) (E : XK), A.guards = some [] → Room n (A.deeper (envOfC qual sc s.heap.objs.size f cdv)) → sp vs H Q E →
      ∃ t, PSs (cxOf C P w K mg bs N qual sc f cdv A fr s H E) body t ∧ t { nx := fun _ H' => Q .non H', rt := Q } (start N vs) H) :
    Fg P w K mg bs C (n + 1) f (PySem.W.fnOf nm qual pr body sc dV kV doc pm an cdv ct) ps sp := by
  refine ⟨ar, fun A fr s H gs us vs Q E hg rm e0 bd rv q => ?_⟩
  have ln := ar _ _ _ _ q
  have kx : K.In s.heap := e0.mod.kin.keeps (fun b o z => (e0.bs b o z).1)
  have nl : s.heap.NoLimit := e0.mod.nolimit.keeps (fun b o z => (e0.bs b o z).1)
  have kd : ∀ y ∈ ps.zip us, sc.names.lookup y.1 = some .local ∨ (sc.names.lookup y.1 = some .cell ∧ ((cellsFrom (s.heap.objs.size + 1) sc.names []).lookup y.1).isSome = true) := by
    rintro ⟨y, v⟩ hy
    cases S.par y (List.of_mem_zip hy).1 with
    | inl z => exact Or.inl z
    | inr z => exact Or.inr ⟨z, PySem.W.cellsFrom_some _ _ _ (Or.inl z)⟩
  refine codeAny_call_function rm.depth (kx _ _ lk) rfl S.co S.gen rfl (PySem.W.codeRec_of kx hc) (bd _ _ _ _ ?_)
  refine wpAny_newFunctionEnv_cells S.kind kd fun en he s1 x => ?_
  subst he
  refine ⟨nl.keeps x.toInCall.keep, codeAny_func ?_⟩
  obtain ⟨t, ht, hq⟩ := hb A fr s H vs Q E hg (rm.deeper _) q
  have I : Inv (cxOf C P w K mg bs N qual sc f cdv A fr s H E) [] (start N vs) H s1 := inv_start S rm.hd e0 ln rv x
  refine wpAny_mono (ht.run [] s1 (start N vs) H _ I hq) (fun fl s' z => ?_) fun e s' z => z
  cases fl with
  | ret u =>
    obtain ⟨v, σ', H', J, r, q'⟩ := z
    exact ⟨v, H', J.os, J.bare, J.base, J.hok, r, q'⟩
  | next =>
    obtain ⟨σ', H', J, q'⟩ := z
    exact ⟨V.non, H', J.os, J.bare, J.base, J.hok, rfl, q'⟩
  | brk => exact z.elim fun _ z => z.elim fun _ z => z.2.elim
  | cont => exact z.elim fun _ z => z.elim fun _ z => z.2.elim
/-- a def of the text; the body may raise -/
theorem okX {N : List Str} {x qual : Str} {st : Stmt} (F : Fun K x qual st f fd) (S : FnScope N ps (defScope st)) (ar : ∀ vs H Q E, sp vs H Q E → vs.length = ps.length)
    (hb : ∀ (cdv : Value) (A : Around) (fr : List Env) (s : Shared) (H : Hp) (vs : List V) (Q : VK) (E : XK), A.guards = some [] → Room n (A.deeper (envOfC qual (defScope st) s.heap.objs.size f cdv)) → sp vs H Q E →
      ∃ t, PSs (cxOf C P w K mg bs N qual (defScope st) f cdv A fr s H E) (defBody st) t ∧ t { nx := fun _ H' => Q .non H', rt := Q } (start N vs) H) : Fg P w K mg bs C (n + 1) f fd ps sp := by
  obtain ⟨oc, od, kV, doc, pm, an, cdv, ct, osl, rfl, lk, hc⟩ := F.ex
  exact Fg.mk' lk hc S ar fun A fr s H vs Q E => hb cdv A fr s H vs Q E
/-- a def of the text that lets nothing out -/
theorem ok {N : List Str} {x qual : Str} {st : Stmt} (F : Fun K x qual st f fd) (S : FnScope N ps (defScope st)) (ar : ∀ vs H Q E, sp vs H Q E → vs.length = ps.length)
    (hb : ∀ (cdv : Value) (A : Around) (fr : List Env) (s : Shared) (H : Hp) (vs : List V) (Q : VK) (E : XK), A.guards = some [] → Room n (A.deeper (envOfC qual (defScope st) s.heap.objs.size f cdv)) → sp vs H Q E →
      ∃ t, PSs (cxOf CX0 P w K mg bs N qual (defScope st) f cdv A fr s H E).nox (defBody st) t ∧ t { nx := fun _ H' => Q .non H', rt := Q } (start N vs) H) : Fg P w K mg bs CX0 (n + 1) f fd ps sp := by
  obtain ⟨oc, od, kV, doc, pm, an, cdv, ct, osl, rfl, lk, hc⟩ := F.ex
  refine Fg.mk' lk hc S ar fun A fr s H vs Q E g r q => ?_
  obtain ⟨t, h1, h2⟩ := hb cdv A fr s H vs Q E g r q
  exact ⟨t, h1.nox, h2⟩
end

section
variable {X : Cx} {C : CXT} {n : Nat} {f : Addr} {fd : FuncData} {ps : List Str} {sp : Sp} {dvs : List V} {ds : List Value} {E : XK} {x m : Str} {p pos apos : Pos} {e o : Expr} {es : List Expr} {ta : TE} {t : TA}
theorem goS {pins : List (Addr × Obj)} {σ : L2.St} {H : Hp} {s : Shared} {Q : VK} {us : List Value} {vs : List V} (F : Fg X.prog X.w X.K X.mg X.base C n f fd ps sp) (g : X.A.guards = some []) (r : Room n X.A)
    (b : Binds X.K fd ps ds) (d : Vals dvs ds) {E : XK} (hx : PassesAt C X σ E) (I : Inv X pins σ H s) (v : Vals vs us) (h : sp (vs ++ dvs) H Q E) : wpAny (model X.prog X.w) X.A (call (.ref f) us) (EP X pins σ Q) X.xe s := by
  have v2 : Vals (vs ++ dvs) (us ++ ds) := v.append d
  have hl : (us ++ ds).length = ps.length := v2.length ▸ F.ar _ _ _ _ h
  refine wpAny_call (codeAny_mono (F.go X.A X.stack s H ⟨us, []⟩ (us ++ ds) (vs ++ dvs) Q E g r I.env0 (b s us I.kIn hl) v2 h) fun z s' hz => ?_)
  match z, hz with
  | .error e, hz => exact hx pins H s e s' I hz
  | .ok (.ret u), hz => exact I.after hz
/-- f(..) -/
def tG (sp : Sp) (dvs : List V) (E : L2.St → XK) (t : TA) : TE := fun σ H Q => t σ H fun vs H1 => sp (vs ++ dvs) H1 Q (E σ)
def tMG (C : Addr) (m : Str) (sp : Sp) (dvs : List V) (E : L2.St → XK) (ta : TE) (t : TA) : TE := fun σ H Q => ta σ H fun x H1 => ∃ a dx fs, x = .ref a ∧ H1 a = some (.ins C dx fs) ∧ fs.lookup m = none ∧
  t σ H1 fun vs H2 => sp (x :: (vs ++ dvs)) H2 Q (E σ)
theorem passG {X : Cx} {σ : L2.St} : PassesAt CX0 X σ E0 := fun _ _ _ _ _ _ h => h.elim
theorem pg_call {E : L2.St → XK} (F : Fg X.prog X.w X.K X.mg X.base C n f fd ps sp) (g : X.A.guards = some []) (r : Room n X.A) (hg : Gl X x) (hm : X.mg x = some (.ref f)) (hk : PySem.W.keepIn X.K (.ref f) = true)
    (b : Binds X.K fd ps ds) (d : Vals dvs ds) (hx : ∀ σ, PassesAt C X σ (E σ)) (ha : PA X (e :: es) t) (hdb : (x == ("__debug__" : Str)) = false := by decide)
    (he : starEach (e :: es) X.env = (false, eval e X.env) :: starEach es X.env := by rfl) (hp : (backTo pos (starEach es X.env)).any (·.1) = false := by rfl) :
    PE X (.Call (.Name x p) (e :: es) [] pos) (tG sp dvs E t) := by
  refine ⟨fun pins s σ H Q I h => ?_⟩
  refine wpAny_Call_Name_kw (ld_glob I hg hm (PySem.W.callWith_K (h₀ := X.base) I.ok.mod.kin hk (thn (ha.run pos pins s σ H _ I h) ?_) he hp) hdb)
  rintro us s1 ⟨vs, H1, J, v, q⟩
  exact ⟨J.kIn, goS F g r b d (hx σ) J v q⟩
theorem pg_call0 {E : L2.St → XK} (F : Fg X.prog X.w X.K X.mg X.base C n f fd ps sp) (g : X.A.guards = some []) (r : Room n X.A) (hg : Gl X x) (hm : X.mg x = some (.ref f)) (hk : PySem.W.keepIn X.K (.ref f) = true)
    (b : Binds X.K fd ps ds) (d : Vals dvs ds) (hx : ∀ σ, PassesAt C X σ (E σ)) (hdb : (x == ("__debug__" : Str)) = false := by decide) : PE X (.Call (.Name x p) [] [] pos) (tG sp dvs E tNil) := by
  refine ⟨fun pins s σ H Q I h => ?_⟩
  exact wpAny_Call_Name_kw (ld_glob I hg hm (PySem.W.callWith_K0 I.kIn hk (goS (us := []) F g r b d (hx σ) I .nil h)) hdb)
theorem pg_meth {Cl : Addr} {E : L2.St → XK} {pl : Sem Bool} (he : PE X o ta) (c : Cls X.K Cl) (hm : Meth X.K Cl m f) (F : Fg X.prog X.w X.K X.mg X.base C n f fd ps sp) (g : X.A.guards = some []) (r : Room n X.A)
    (b : Binds X.K fd ps ds) (d : Vals dvs ds) (hx : ∀ σ, PassesAt C X σ (E σ)) (ha : PA X (e :: es) t)
    (hst : starEach (e :: es) X.env = (false, eval e X.env) :: starEach es X.env := by rfl) (hp : (backTo pos (starEach es X.env)).any (·.1) = false := by rfl)
    (ht : eval (.Call (.Attribute o m apos) (e :: es) [] pos) X.env = (do
      let ov ← eval o X.env
      standAt apos.atName
      let (f, first) ← holding [ov] (getMethod ov m pl)
      callWith pos f first (backTo pos (starEach (e :: es) X.env)) (backToKw pos (keywordEach [] X.env))) := by rfl) :
    PE X (.Call (.Attribute o m apos) (e :: es) [] pos) (tMG Cl m sp dvs E ta t) := by
  refine ⟨fun pins s σ H Q I h => ?_⟩
  refine PySem.W.methodCall_KW (pl := pl) (thn (he.run pins s σ H _ I h) ?_) ht
  rintro u s1 ⟨y, H1, J, ry, a, dx, fs, ey, ea, l, q⟩
  subst ey
  obtain rfl : u = Value.ref a := ry
  refine getmeth_ok J ea c hm l (PySem.W.callWith_K (first := [.ref a]) (h₀ := X.base) I.ok.mod.kin hm.kp (thn (ha.run pos pins s1 σ H1 _ J q) ?_) hst hp)
  rintro us s2 ⟨vs, H2, J2, v, q2⟩
  exact ⟨J2.kIn, goS (us := .ref a :: us) (vs := .ref a :: vs) F g r b d (hx σ) J2 (.cons rfl v) q2⟩
theorem pg_meth0 {Cl : Addr} {E : L2.St → XK} {pl : Sem Bool} (he : PE X o ta) (c : Cls X.K Cl) (hm : Meth X.K Cl m f) (F : Fg X.prog X.w X.K X.mg X.base C n f fd ps sp) (g : X.A.guards = some []) (r : Room n X.A)
    (b : Binds X.K fd ps ds) (d : Vals dvs ds) (hx : ∀ σ, PassesAt C X σ (E σ))
    (ht : eval (.Call (.Attribute o m apos) [] [] pos) X.env = (do
      let ov ← eval o X.env
      standAt apos.atName
      let (f, first) ← holding [ov] (getMethod ov m pl)
      callWith pos f first (backTo pos (starEach [] X.env)) (backToKw pos (keywordEach [] X.env))) := by rfl) :
    PE X (.Call (.Attribute o m apos) [] [] pos) (tMG Cl m sp dvs E ta tNil) := by
  refine ⟨fun pins s σ H Q I h => ?_⟩
  refine PySem.W.methodCall_KW (pl := pl) (thn (he.run pins s σ H _ I h) ?_) ht
  rintro u s1 ⟨y, H1, J, ry, a, dx, fs, ey, ea, l, q⟩
  subst ey
  obtain rfl : u = Value.ref a := ry
  exact getmeth_ok J ea c hm l (PySem.W.callWith_K0 (first := [.ref a]) J.kIn hm.kp (goS (us := [.ref a]) (vs := [.ref a]) F g r b d (hx σ) J (.cons rfl .nil) q))
theorem make_guards {A : Around} {D : Addr} {us : List Value} {kw : List (Str × Value)} (g : A.guards = some []) : (A.under (.builtin "type.__call__" ⟨.ref D :: us, kw⟩)).guards = some [] := by
  first
  | exact g
  | (have h : (Code.builtin "type.__call__" ⟨.ref D :: us, kw⟩).guards = [] := by
       first | rfl | simp [Code.guards, Code.isGuard, guardIds]
     show pushGuards _ A.guards = _
     rw [h, g]; rfl)
/-- C(..) -/
def tKG (Cl : Addr) (sp : Sp) (dvs : List V) (E : L2.St → XK) (t : TA) : TE := fun σ H Q => t σ H fun vs H1 => ∀ x dx, H1 x = none → H1 dx = none → dx ≠ x →
  sp (.ref x :: (vs ++ dvs)) (upd (upd H1 dx (.own x)) x (.ins Cl dx [])) (fun v H2 => v = .non ∧ Q (.ref x) H2) (E σ)
theorem goK {Cl : Addr} {pins : List (Addr × Obj)} {σ : L2.St} {H : Hp} {s : Shared} {Q : VK} {us : List Value} {vs : List V} {E : XK} (M : Mk X.K Cl f) (F : Fg X.prog X.w X.K X.mg X.base C n f fd ps sp) (g : X.A.guards = some [])
    (r : Room (n + 1) X.A) (b : Binds X.K fd ps ds) (d : Vals dvs ds) (hx : PassesAt C X σ E) (I : Inv X pins σ H s) (v : Vals vs us)
    (h : ∀ x dx, H x = none → H dx = none → dx ≠ x → sp (.ref x :: (vs ++ dvs)) (upd (upd H dx (.own x)) x (.ins Cl dx [])) (fun v H2 => v = .non ∧ Q (.ref x) H2) E) :
    wpAny (model X.prog X.w) X.A (call (.ref Cl) us) (EP X pins σ Q) X.xe s := by
  have q := h (s.heap.objs.size + 1) s.heap.objs.size (I.hok.fresh (Nat.le_succ _)) (I.hok.fresh (Nat.le_refl _)) (Nat.ne_of_lt (Nat.lt_succ_self _))
  have J := Inv.made (C := Cl) I
  have v2 : Vals (V.ref (s.heap.objs.size + 1) :: (vs ++ dvs)) (Value.ref (s.heap.objs.size + 1) :: (us ++ ds)) := .cons rfl (v.append d)
  have hl : (Value.ref (s.heap.objs.size + 1) :: us ++ ds).length = ps.length := (v2.length.symm.trans (F.ar _ _ _ _ q) : _)
  refine wpAny_call (make_map (f := f) I.kIn M.makes M.init (beq_iff_eq.mp M.fn) (codeAny_mono (F.go _ X.stack _ _ ⟨Value.ref (s.heap.objs.size + 1) :: us, []⟩ (Value.ref (s.heap.objs.size + 1) :: (us ++ ds)) _ _ E
    (make_guards g) (r.make Cl us []) (J.env0.make Cl us []) (b _ (Value.ref (s.heap.objs.size + 1) :: us) J.kIn hl) v2 q) fun z s' hz => ?_))
  match z, hz with
  | .error e, hz => exact hx pins _ _ e s' J hz
  | .ok (.ret u), hz =>
    obtain ⟨y, H', J3, ry, ey, q3⟩ := J.after hz
    subst ey
    exact ⟨ry, ⟨V.ref (s.heap.objs.size + 1), H', J3, rfl, q3⟩⟩
theorem pg_make {Cl : Addr} {E : L2.St → XK} (M : Mk X.K Cl f) (F : Fg X.prog X.w X.K X.mg X.base C n f fd ps sp) (g : X.A.guards = some []) (r : Room (n + 1) X.A) (hg : Gl X x) (hm : X.mg x = some (.ref Cl))
    (b : Binds X.K fd ps ds) (d : Vals dvs ds) (hx : ∀ σ, PassesAt C X σ (E σ)) (ha : PA X (e :: es) t) (hdb : (x == ("__debug__" : Str)) = false := by decide)
    (he : starEach (e :: es) X.env = (false, eval e X.env) :: starEach es X.env := by rfl) (hp : (backTo pos (starEach es X.env)).any (·.1) = false := by rfl) :
    PE X (.Call (.Name x p) (e :: es) [] pos) (tKG Cl sp dvs E t) := by
  refine ⟨fun pins s σ H Q I h => ?_⟩
  refine wpAny_Call_Name_kw (ld_glob I hg hm (PySem.W.callWith_K (h₀ := X.base) I.ok.mod.kin M.kp (thn (ha.run pos pins s σ H _ I h) ?_) he hp) hdb)
  rintro us s1 ⟨vs, H1, J, v, q⟩
  exact ⟨J.kIn, goK M F g r b d (hx σ) J v q⟩
theorem pg_make0 {Cl : Addr} {E : L2.St → XK} (M : Mk X.K Cl f) (F : Fg X.prog X.w X.K X.mg X.base C n f fd ps sp) (g : X.A.guards = some []) (r : Room (n + 1) X.A) (hg : Gl X x) (hm : X.mg x = some (.ref Cl))
    (b : Binds X.K fd ps ds) (d : Vals dvs ds) (hx : ∀ σ, PassesAt C X σ (E σ)) (hdb : (x == ("__debug__" : Str)) = false := by decide) : PE X (.Call (.Name x p) [] [] pos) (tKG Cl sp dvs E tNil) := by
  refine ⟨fun pins s σ H Q I h => ?_⟩
  exact wpAny_Call_Name_kw (ld_glob I hg hm (PySem.W.callWith_K0 I.kIn M.kp (goK (us := []) M F g r b d (hx σ) I .nil h)) hdb)
end

/-! ### the law's own call -/
section
variable {P : Program} {w : World} {K : PySem.W.Frag} {mg mb : Str → Option Value} {C : CXT} {n : Nat} {fa a : Addr} {fd : FuncData} {x : Str} {sp : Sp} {s1 : Shared} {us : List Value} {ns : List Int}
/-- from an abstract heap that tracks the script at most -/
theorem law_from (H : Hp) (KX : K.In s1.heap) (n1 : s1.heap.Ns mainGlobals mg) (n2 : s1.heap.Ns builtinsNs mb) (n3 : ∀ x : Str, x ≠ "__name__" → mb x = bootBuiltins x) (n4 : s1.heap.NoLimit) (n5 : s1.gens = #[])
    (ha : s1.heap.get? a = some { cls := .type "list", data := .seq us.toArray }) (hr : Room n callerA)
    (F : ∀ bs : Heap, K.In bs → bs.Ns mainGlobals mg → (s1.heap.NoSeer → ∃ mm, bs.Ns sysModules mm) → Fg P w K mg bs C n fa fd [x] sp) (hb : ∀ (s : Shared) (u : Value), BindsTo s fd ⟨[u], []⟩ [(x, u)])
    (hO : Only H) (hok : HOk P w H s1.heap) (hA : ∀ b, H b ≠ none → b = a ∧ K.lookup a = none) (q : sp [.ref a] H (fun v _ => v = .bl true) fun _ _ _ => False)
    (hC : ∀ e s', C [] H s1 (fun _ _ _ => False) e s' → False) :
    codeAny (model P w) callerA (.call (.ref fa) ⟨[.ref a], []⟩) (fun r s' => r = .ok (.ret (.bool true)) ∧ OldK s1.heap s'.heap ∧ s'.os = s1.os ∧ AllBare s'.gens) s1 := by
  have nf : ∀ {b : Addr}, b ≠ a → H b = none := fun {b} hb => Classical.byContradiction fun z => hb (hA b z).1
  have und : ∀ {b : Addr} {o : Obj}, s1.heap.get? b = some o → H b = none → (hidT s1.heap H).get? b = some o := fun z1 z2 => hidT_get z1 z2
  have nd : ∀ {b : Addr} {o : Obj} {es : Array DictEntry} {ep : Nat}, s1.heap.get? b = some o → o.data = .dict es ep → H b = none := by
    intro b o es ep z1 z2
    refine nf fun e => ?_
    subst e
    rw [ha] at z1
    cases z1
    exact absurd z2 (by intro z; cases z)
  have nsH : ∀ {b : Addr} {m : Str → Option Value}, s1.heap.Ns b m → (hidT s1.heap H).Ns b m := fun ⟨o, es, ep, z1, z2, r⟩ => ⟨o, es, ep, und z1 (nd z1 z2), z2, r⟩
  have kH : K.In (hidT s1.heap H) := by
    intro b o z
    refine und (KX b o z) (Classical.byContradiction fun c => ?_)
    obtain ⟨e, l⟩ := hA b c
    rw [e, l] at z
    cases z
  have md : Mod K mg (hidT s1.heap H) := ⟨kH, nsH n1, ⟨mb, nsH n2, n3⟩, n4.elim fun mc z => ⟨mc, nsH z.1, z.2⟩⟩
  have e0 : Env0 P w K mg (hidT s1.heap H) callerA [] s1 H := ⟨rfl, md, fun b o z => of_hidT z, Nat.le_of_eq (hidT_size _ _), trivial, fun b z => (List.not_mem_nil z).elim, hok, AllBare.of_eq n5⟩
  refine codeAny_mono ((F _ kH (nsH n1) fun z => z.mods.elim fun mm h => ⟨mm, nsH h.1⟩).go callerA [] s1 H ⟨[.ref a], []⟩ [.ref a] [.ref a] _ _ rfl hr e0 (hb s1 (.ref a)) (.cons rfl .nil) q) fun r s' z => ?_
  match r, z with
  | .error e, z => exact (hC e s' z).elim
  | .ok (.ret u), ⟨v, H', o1, o2, un, hok', rv, ev⟩ =>
    have ev' : v = .bl true := ev
    subst ev'
    obtain rfl : u = Value.bool true := rv
    refine ⟨rfl, OldK.of_keep fun b o z => ?_, o1, o2⟩
    rcases hO b with c | ⟨ob, xs, c⟩
    · exact un.keep b o z c (fun y => (List.not_mem_nil y).elim) (fun y => (List.not_mem_nil y).elim)
    · obtain ⟨z1, _⟩ := hok b _ c
      obtain ⟨z2, _⟩ := hok' b _ (un.frzs b ob _ c)
      rw [z] at z1
      cases z1
      exact z2
theorem law_go (KX : K.In s1.heap) (n1 : s1.heap.Ns mainGlobals mg) (n2 : s1.heap.Ns builtinsNs mb) (n3 : ∀ x : Str, x ≠ "__name__" → mb x = bootBuiltins x) (n4 : s1.heap.NoLimit) (n5 : s1.gens = #[])
    (ha : s1.heap.get? a = some { cls := .type "list", data := .seq us.toArray }) (hi : IntsAre us ns) (hl : ns.length ≤ sizeLine) (hr : Room n callerA)
    (F : ∀ bs : Heap, K.In bs → bs.Ns mainGlobals mg → (s1.heap.NoSeer → ∃ mm, bs.Ns sysModules mm) → Fg P w K mg bs C n fa fd [x] sp) (hb : ∀ (s : Shared) (u : Value), BindsTo s fd ⟨[u], []⟩ [(x, u)])
    (q : ∀ H : Hp, Only H → SqL K H a (ns.map V.int) → sp [.ref a] H (fun v _ => v = .bl true) fun _ _ _ => False) (hC : ∀ H e s', C [] H s1 (fun _ _ _ => False) e s' → False) :
    codeAny (model P w) callerA (.call (.ref fa) ⟨[.ref a], []⟩) (fun r s' => r = .ok (.ret (.bool true)) ∧ OldK s1.heap s'.heap ∧ s'.os = s1.os ∧ AllBare s'.gens) s1 := by
  have lu := hi.length
  cases hk : K.lookup a with
  | some o =>
    have e := KX a o hk
    rw [ha] at e
    cases e
    have hO : Only (fun _ => none) := fun _ => Or.inl rfl
    refine law_from (fun _ => none) KX n1 n2 n3 n4 n5 ha hr F hb hO (fun b u z => (by cases z)) (fun b z => absurd rfl z) (q _ hO (Or.inr ⟨_, us.toArray, _, hk, rfl, rfl, rfl, ?_, ?_⟩)) fun e s' => hC _ e s'
    · rw [List.size_toArray, lu]
      exact hl
    · exact vals_ints hi
  | none =>
    let H0 : Hp := fun b => if b = a then some (.frz { cls := .type "list", data := .seq us.toArray } (.lst (ns.map V.int))) else none
    have h1 : H0 a = some (.frz { cls := .type "list", data := .seq us.toArray } (.lst (ns.map V.int))) := if_pos rfl
    have h2 : ∀ {b : Addr}, b ≠ a → H0 b = none := fun z => if_neg z
    have hO : Only H0 := fun b => by
      by_cases c : b = a
      · subst c
        exact Or.inr ⟨_, _, h1⟩
      · exact Or.inl (h2 c)
    refine law_from H0 KX n1 n2 n3 n4 n5 ha hr F hb hO (fun b u z => ?_) (fun b z => ⟨Classical.byContradiction fun c => z (h2 c), hk⟩) (q _ hO (Or.inl (Or.inr ⟨_, h1⟩))) fun e s' => hC _ e s'
    by_cases c : b = a
    · subst c
      cases h1.symm.trans z
      exact ⟨ha, by rw [List.length_map]; exact hl, us, _, vals_ints hi, ha⟩
    · cases (h2 c).symm.trans z
end
theorem walk_q {l : PySem.W.OpenLaw} {n k : Nat} {q : Program} {loose : List Str} {XP : (Str → Option Value) → Heap → Prop} {YP : World → Heap → Prop} {d : DefRec} {K : Params → PySem.W.Frag} {C : World → CXT} {sp : World → Sp} {x : Str}
    (hn : l.most = some n) (hn2 : n ≤ sizeLine) (hdf : d.params.defaults = []) (hr : Room k callerA) (hY : ∀ (w : World) (h : Heap), YP w h → (K w.params).In h)
    (F : ∀ (w : World) (mg : Str → Option Value) (fa : Addr) (h : Heap), (K w.params).In h → h.Ns mainGlobals mg → mg d.name = some (.ref fa) →
      ∃ fd : FuncData, (∀ (s : Shared) (u : Value), BindsTo s fd ⟨[u], []⟩ [(x, u)]) ∧ ∀ bs : Heap, (K w.params).In bs → bs.Ns mainGlobals mg → (PyProof.Rows.importsNone q = true → ∃ mm, bs.Ns sysModules mm) → Fg l.prog w (K w.params) mg bs (C w) k fa fd [x] (sp w))
    (hsp : ∀ (w : World) (H : Hp) (a : Addr) (ns : List Int), ns.length ≤ n → (∀ z ∈ ns, Builtin.Int.intBits z ≤ 1048576) → Only H → SqL (K w.params) H a (ns.map V.int) → sp w [.ref a] H (fun v _ => v = .bl true) fun _ _ _ => False)
    (hC : ∀ (w : World) (H : Hp) (s : Shared) (e : Value) (s' : Shared), C w [] H s (fun _ _ _ => False) e s' → False) :
    PySem.W.WalkO q loose XP YP l.row.toRowW d [] (fun f vs => PySem.call f vs) := by
  refine Att.attach_callB hn hdf fun w s0 s1 mg mb fa o pm cd doc a us ns G Y ho hd hcd hmg hobj hi hlen hbits hg => ?_
  obtain ⟨fd, hb, hF⟩ := F w mg fa _ (hY w _ Y) G.T.g hmg
  exact law_go (hY w _ Y) G.T.g G.T.b G.T.builtins G.T.nolimit hg hobj hi (Nat.le_trans hlen hn2) hr (fun bs h1 h2 h3 => hF bs h1 h2 fun z => h3 (G.T.seer z)) hb (fun H hO hS => hsp w H a ns hlen hbits hO hS) fun H e s' => hC w H s1 e s'
theorem walk_g {l : PySem.W.OpenLaw} {n k : Nat} {q : Program} {loose : List Str} {XP : (Str → Option Value) → Heap → Prop} {YP : World → Heap → Prop} {d : DefRec} {K : Params → PySem.W.Frag} {C : World → CXT} {sp : World → Sp} {x : Str}
    (hn : l.most = some n) (hn2 : n ≤ sizeLine) (hdf : d.params.defaults = []) (hr : Room k callerA) (hY : ∀ (w : World) (h : Heap), YP w h → (K w.params).In h)
    (F : ∀ (w : World) (mg : Str → Option Value) (fa : Addr) (h : Heap), (K w.params).In h → h.Ns mainGlobals mg → mg d.name = some (.ref fa) →
      ∃ fd : FuncData, (∀ (s : Shared) (u : Value), BindsTo s fd ⟨[u], []⟩ [(x, u)]) ∧ ∀ bs : Heap, (K w.params).In bs → bs.Ns mainGlobals mg → Fg l.prog w (K w.params) mg bs (C w) k fa fd [x] (sp w))
    (hsp : ∀ (w : World) (H : Hp) (a : Addr) (ns : List Int), ns.length ≤ n → (∀ z ∈ ns, Builtin.Int.intBits z ≤ 1048576) → Only H → SqL (K w.params) H a (ns.map V.int) → sp w [.ref a] H (fun v _ => v = .bl true) fun _ _ _ => False)
    (hC : ∀ (w : World) (H : Hp) (s : Shared) (e : Value) (s' : Shared), C w [] H s (fun _ _ _ => False) e s' → False) :
    PySem.W.WalkO q loose XP YP l.row.toRowW d [] (fun f vs => PySem.call f vs) :=
  walk_q hn hn2 hdf hr hY (fun w mg fa h h1 h2 h3 => let ⟨fd, hb, hF⟩ := F w mg fa h h1 h2 h3; ⟨fd, hb, fun bs k1 k2 _ => hF bs k1 k2⟩) hsp hC
end Vg


set_option Elab.async false
set_option linter.all false
set_option maxRecDepth 100000
set_option maxHeartbeats 2000000
namespace Vg
open PySem PySem.Spec PyProof.Rows L2

/-! ### how long a text repr gives -/
theorem lt_one {n : Nat} (ts : List Str) (h : ∀ t ∈ ts, t.length ≤ n) : piled ts ≤ ts.length * (n + 2) := by
  induction ts with
  | nil => exact Nat.zero_le _
  | cons t r ih =>
    have h1 := h t List.mem_cons_self
    have h2 := ih fun u hu => h u (List.mem_cons_of_mem _ hu)
    rw [piled_cons, List.length_cons, Nat.succ_mul]
    omega
theorem listText_le (ts : List Str) : (listText ts).length ≤ piled ts + 2 := by
  cases ts with
  | nil => exact Nat.le_refl _
  | cons t r =>
    have h := textFrom_length_pos r 1 (("[" : Str) ++ (if (0 : Nat) > 0 then ", " else "" : String) ++ t) (Nat.succ_pos 0)
    have e : (("[" : Str) ++ (if (0 : Nat) > 0 then ", " else "" : String) ++ t).length = 1 + t.length := by
      rw [strLen_append, strLen_append]; rfl
    have x : (listText (t :: r)).length = (textFrom 0 "[" (t :: r)).length + 1 := by
      show (textFrom 0 "[" (t :: r) ++ "]").length = _
      rw [strLen_append]; rfl
    have y : textFrom 0 "[" (t :: r) = textFrom 1 (("[" : Str) ++ (if (0 : Nat) > 0 then ", " else "" : String) ++ t) r := rfl
    rw [x, y, h, e, piled_cons]
    omega
theorem shownAll_map : ∀ ds : List PyData, PyData.shownAll ds = ds.map PyData.shown
  | [] => rfl
  | d :: r => by
    rw [PyData.shownAll, shownAll_map r]; rfl
theorem showableAll_all : ∀ ds : List PyData, (∀ d ∈ ds, d.showable = true) → PyData.showableAll ds = true
  | [], _ => rfl
  | d :: r, h => by
    rw [PyData.showableAll, h d List.mem_cons_self, showableAll_all r fun e he => h e (List.mem_cons_of_mem _ he)]; rfl
theorem hasDictAll_all : ∀ ds : List PyData, (∀ d ∈ ds, d.hasDict = false) → PyData.hasDictAll ds = false
  | [], _ => rfl
  | d :: r, h => by
    rw [PyData.hasDictAll, h d List.mem_cons_self, hasDictAll_all r fun e he => h e (List.mem_cons_of_mem _ he)]; rfl
theorem depthAll_le {k : Nat} : ∀ ds : List PyData, (∀ d ∈ ds, d.depth ≤ k) → PyData.depthAll ds ≤ k
  | [], _ => Nat.zero_le _
  | d :: r, h => by
    rw [PyData.depthAll]
    exact Nat.max_le.mpr ⟨h d List.mem_cons_self, depthAll_le r fun e he => h e (List.mem_cons_of_mem _ he)⟩
/-- data that repr writes in at most n signs, nested at most k deep -/
structure Shw (n k : Nat) (d : PyData) : Prop where
  sh : d.showable = true
  nd : d.hasDict = false
  dp : d.depth ≤ k
  sz : d.shown.length ≤ n
theorem Shw.up {n k m j : Nat} {d : PyData} (h : Shw n k d) (h1 : n ≤ m) (h2 : k ≤ j) : Shw m j d := ⟨h.sh, h.nd, Nat.le_trans h.dp h2, Nat.le_trans h.sz h1⟩
theorem Shw.non : Shw 4 1 .none := ⟨rfl, rfl, by decide +kernel, by decide +kernel⟩
theorem Shw.bl (b : Bool) : Shw 5 1 (.bool b) := by cases b <;> exact ⟨rfl, rfl, by decide +kernel, by decide +kernel⟩
theorem Shw.str (x : Str) (h : ∀ c ∈ x.cps.toList, c < 16 ^ 8) : Shw (10 * x.length + 2) 1 (.str x) := ⟨by rw [PyData.showable], by rw [PyData.hasDict], by simp [PyData.depth], by rw [PyData.shown]; exact StrLaws.reprText_len x h⟩
theorem Shw.int {k : Nat} {i : Int} (hk : 0 < k) (hk2 : k ≤ 1920) (h : i.natAbs < 2 ^ k) : Shw (k + 1) 1 (.int i) := by
  refine ⟨?_, by rw [PyData.hasDict], by simp [PyData.depth], ?_⟩
  · rw [PyData.showable]
    exact decide_eq_true (Nat.lt_of_lt_of_le (PySem.Flt.log2_lt_of hk h) hk2)
  · rw [PyData.shown]
    show (Str.ofString (toString i)).length ≤ _
    rw [PySem.ofString_length]
    exact int_text_length_le hk (PySem.Flt.log2_lt_of hk h)
theorem Shw.lst {n k : Nat} {ds : List PyData} (h : ∀ d ∈ ds, Shw n k d) : Shw (ds.length * (n + 2) + 2) (k + 1) (.list ds) := by
  refine ⟨?_, ?_, ?_, ?_⟩
  · rw [PyData.showable]
    exact showableAll_all ds fun d hd => (h d hd).sh
  · rw [PyData.hasDict]
    exact hasDictAll_all ds fun d hd => (h d hd).nd
  · simp only [PyData.depth]
    have := depthAll_le ds fun d hd => (h d hd).dp
    omega
  · rw [PyData.shown, shownAll_map]
    refine Nat.le_trans (listText_le _) ?_
    have := lt_one (n := n) (ds.map PyData.shown) (by
      intro t ht
      obtain ⟨d, hd, rfl⟩ := List.mem_map.mp ht
      exact (h d hd).sz)
    rw [List.length_map] at this
    omega
theorem Shw.tup {n k : Nat} {ds : List PyData} (h : ∀ d ∈ ds, Shw n k d) : Shw (ds.length * (n + 2) + 2) (k + 1) (.tuple ds) := by
  refine ⟨?_, ?_, ?_, ?_⟩
  · rw [PyData.showable]
    exact showableAll_all ds fun d hd => (h d hd).sh
  · rw [PyData.hasDict]
    exact hasDictAll_all ds fun d hd => (h d hd).nd
  · simp only [PyData.depth]
    have := depthAll_le ds fun d hd => (h d hd).dp
    omega
  · rw [PyData.shown, shownAll_map]
    refine Nat.le_trans (fmt_text _) ?_
    have := lt_one (n := n) (ds.map PyData.shown) (by
      intro t ht
      obtain ⟨d, hd, rfl⟩ := List.mem_map.mp ht
      exact (h d hd).sz)
    rw [List.length_map] at this
    omega

/-! ### repr -/
def rRepr (K : PySem.W.Frag) : List V → Hp → VK → Prop := fun xs H Q => ∃ x d, xs = [x] ∧ Dp K H x d ∧ Shw 16000000 60 d ∧ Q (.str d.shown) H
theorem call_repr {X : Cx} {n : Nat} (g : X.A.guards = some []) (r : Room n X.A) : CallR X (.builtin "repr") (rRepr X.K) := by
  intro pins s σ H xs us Q I rv h
  obtain ⟨x, d, rfl, hd, sw, q⟩ := h
  obtain ⟨u, rfl, ru⟩ := vals1 rv
  have hz : d.shown.length ≤ sizeLine := Nat.le_trans sw.sz (by decide)
  have hu := r.units
  cases hd with
  | non =>
    cases ru
    rw [PyData.shown] at q
    exact PySem.P.repr_of_none ⟨.str _, H, I.tok _, ⟨_, rfl⟩, q⟩
  | bl b =>
    cases ru
    rw [PyData.shown] at q
    exact PySem.P.repr_of_bool ⟨.str _, H, I.tok _, ⟨_, rfl⟩, q⟩
  | int i =>
    obtain ⟨t, rfl⟩ := ru
    have hs := sw.sh
    rw [PyData.showable] at hs
    rw [PyData.shown] at q
    exact PySem.P.repr_of_int (of_decide_eq_true hs) ⟨.str _, H, I.tok _, ⟨_, rfl⟩, q⟩
  | str y =>
    obtain ⟨t, rfl⟩ := ru
    rw [PyData.shown] at hz q
    exact PySem.P.repr_of_str ⟨.str _, H, I.tok _, ⟨_, rfl⟩, q⟩ hz
  | lst hs ha =>
    obtain rfl : u = Value.ref _ := ru
    obtain ⟨as, rd⟩ := Dp.reads I _ _ _ (Dp.lst hs ha) rfl
    refine repr_of_reads' rd sw.sh (fun z => by rw [sw.nd] at z; cases z) g (by have := sw.dp; omega) (fun _ _ z => z) (fun h' u tk hk => ?_) hz
    exact ⟨.str _, H, I.call' (s' := { s with heap := h', toks := tk }) (ch := []) rfl (Un.kept hk) (I.hok.kept hk) I.bare (fun b z => (List.not_mem_nil z).elim), ⟨u, rfl⟩, q⟩
  | tup hs ha =>
    obtain rfl : u = Value.ref _ := ru
    obtain ⟨as, rd⟩ := Dp.reads I _ _ _ (Dp.tup hs ha) rfl
    refine repr_of_reads' rd sw.sh (fun z => by rw [sw.nd] at z; cases z) g (by have := sw.dp; omega) (fun _ _ z => z) (fun h' u tk hk => ?_) hz
    exact ⟨.str _, H, I.call' (s' := { s with heap := h', toks := tk }) (ch := []) rfl (Un.kept hk) (I.hok.kept hk) I.bare (fun b z => (List.not_mem_nil z).elim), ⟨u, rfl⟩, q⟩

/-! ### x ** k of great numbers -/
theorem op_powW {X : Cx} : OpR X (binaryOp .Pow) (rI (fun i j => 0 ≤ j ∧ (Builtin.Int.intBits i : Int) * j ≤ 2 ^ 27) fun i j => .int (i ^ j.toNat)) := opI fun _ _ _ _ _ _ _ hc q => pow_int hc.1 hc.2 q
theorem bits_le {i : Int} {n : Nat} (hn : 0 < n) (h : i.natAbs < 2 ^ n) : Builtin.Int.intBits i ≤ n := by
  have := PySem.Flt.log2_lt_of hn h
  unfold Builtin.Int.intBits
  split <;> omega
end Vg


set_option Elab.async false
set_option linter.all false
set_option maxRecDepth 100000
set_option maxHeartbeats 2000000
namespace Vg
open PySem PySem.Spec PyProof.Rows L2

/-! ### the ledger: over a heap B that stands, what is owned -/
structure Led (B H : Hp) (l : List (Addr × HO)) : Prop where
  sm : Same B H
  nd : (l.map (·.1)).Nodup
  fr : ∀ e ∈ l, B e.1 = none
  hs : ∀ e ∈ l, H e.1 = some e.2
inductive Put : List (Addr × HO) → Addr → HO → List (Addr × HO) → Prop
  | hd {p : Addr} {o o' : HO} {l : List (Addr × HO)} : Put ((p, o) :: l) p o' ((p, o') :: l)
  | tl {e : Addr × HO} {p : Addr} {o' : HO} {l l' : List (Addr × HO)} : Put l p o' l' → Put (e :: l) p o' (e :: l')
/-- the entries of l' are, one by one, entries of l -/
inductive Pick : List (Addr × HO) → Addr × HO → List (Addr × HO) → Prop
  | hd {e : Addr × HO} {l : List (Addr × HO)} : Pick (e :: l) e l
  | tl {d e : Addr × HO} {l l' : List (Addr × HO)} : Pick l e l' → Pick (d :: l) e (d :: l')
inductive Sel : List (Addr × HO) → List (Addr × HO) → Prop
  | nil {l : List (Addr × HO)} : Sel l []
  | all {l : List (Addr × HO)} : Sel l l
  | cons {e : Addr × HO} {l r l' : List (Addr × HO)} : Pick l e r → Sel r l' → Sel l (e :: l')
  | skip {e : Addr × HO} {l l' : List (Addr × HO)} : Sel l l' → Sel (e :: l) l'
section
variable {B H : Hp} {l l' : List (Addr × HO)} {p q : Addr} {o o' : HO}
theorem Led.nil (H : Hp) : Led H H [] := ⟨Same.refl H, List.nodup_nil, fun _ h => (List.not_mem_nil h).elim, fun _ h => (List.not_mem_nil h).elim⟩
theorem Led.at (L : Led B H l) (h : (p, o) ∈ l) : H p = some o := L.hs _ h
theorem Led.seq {K : PySem.W.Frag} {a : Addr} {xs : List V} (L : Led B H l) (h : SqL K B a xs) : SqL K H a xs := L.sm.seq h
theorem Led.lstAt {K : PySem.W.Frag} {a : Addr} {xs : List V} (L : Led B H l) (h : (a, HO.lst xs) ∈ l) : SqL K H a xs := Or.inl (Or.inl (L.at h))
theorem Led.tupAt {K : PySem.W.Frag} {a : Addr} {xs : List V} (L : Led B H l) (h : (a, HO.tup xs) ∈ l) : SqT K H a xs := Or.inl (Or.inl (L.at h))
theorem Led.new (L : Led B H l) (h : H p = none) : Led B (upd H p o) ((p, o) :: l) := by
  have hb : B p = none := L.sm.free h
  have ne : ∀ e ∈ l, e.1 ≠ p := fun e he z => by
    have := L.hs e he
    rw [z, h] at this
    cases this
  refine ⟨fun a u z => ?_, ?_, fun e he => ?_, fun e he => ?_⟩
  · rw [upd_ne (ne_of_none (L.sm a u z) h)]
    exact L.sm a u z
  · rw [List.map_cons]
    refine List.nodup_cons.mpr ⟨fun z => ?_, L.nd⟩
    obtain ⟨e, he, e2⟩ := List.mem_map.mp z
    exact ne e he e2
  · rcases List.mem_cons.mp he with z | z
    · rw [z]; exact hb
    · exact L.fr e z
  · rcases List.mem_cons.mp he with z | z
    · rw [z]; exact upd_same
    · rw [upd_ne (ne e z)]; exact L.hs e z
theorem Put.map (h : Put l p o' l') : l'.map (·.1) = l.map (·.1) := by
  induction h with
  | hd => rfl
  | tl _ ih => rw [List.map_cons, List.map_cons, ih]
theorem Put.mem (h : Put l p o' l') : ∀ e ∈ l', e = (p, o') ∨ e ∈ l := by
  induction h with
  | hd => intro e he; exact (List.mem_cons.mp he).imp id fun z => List.mem_cons_of_mem _ z
  | tl _ ih =>
    intro e he
    rcases List.mem_cons.mp he with z | z
    · exact Or.inr (z ▸ List.mem_cons_self)
    · exact (ih e z).imp id fun z => List.mem_cons_of_mem _ z
theorem Put.of (h : Put l p o' l') : p ∈ l.map (·.1) := by
  induction h with
  | hd => exact List.mem_cons_self
  | tl _ ih => exact List.mem_cons_of_mem _ ih
theorem Put.pm (h : Put l p o' l') : (p, o') ∈ l' := by
  induction h with
  | hd => exact List.mem_cons_self
  | tl _ ih => exact List.mem_cons_of_mem _ ih
theorem mem_apart {l : List (Addr × HO)} (nd : (l.map (·.1)).Nodup) {e d : Addr × HO} (h1 : e ∈ l) (h2 : d ∈ l) (h : e.1 = d.1) : e = d := by
  induction l with
  | nil => cases h1
  | cons x r ih =>
    rw [List.map_cons] at nd
    obtain ⟨n1, n2⟩ := List.nodup_cons.mp nd
    rcases List.mem_cons.mp h1 with z1 | z1
    · rcases List.mem_cons.mp h2 with z2 | z2
      · rw [z1, z2]
      · exact (n1 (by rw [← z1, h]; exact List.mem_map_of_mem z2)).elim
    · rcases List.mem_cons.mp h2 with z2 | z2
      · exact (n1 (by rw [← z2, ← h]; exact List.mem_map_of_mem z1)).elim
      · exact ih n2 z1 z2
theorem Led.put (L : Led B H l) (h : Put l p o' l') : Led B (upd H p o') l' := by
  obtain ⟨e0, he0, e1⟩ := List.mem_map.mp h.of
  have hp : B p = none := by rw [← e1]; exact L.fr e0 he0
  have nd' : (l'.map (·.1)).Nodup := by rw [h.map]; exact L.nd
  have pm : (p, o') ∈ l' := h.pm
  refine ⟨fun a u z => ?_, nd', fun e he => ?_, fun e he => ?_⟩
  · rw [upd_ne (ne_of_none z hp)]
    exact L.sm a u z
  · rcases h.mem e he with z | z
    · rw [z]; exact hp
    · exact L.fr e z
  · by_cases c : e.1 = p
    · have e2 : e = (p, o') := mem_apart nd' he pm c
      rw [e2]; exact upd_same
    · rw [upd_ne c]
      rcases h.mem e he with z | z
      · exact absurd (by rw [z]) c
      · exact L.hs e z
theorem Pick.sub {e : Addr × HO} (h : Pick l e l') : (∀ d ∈ e :: l', d ∈ l) ∧ ((l.map (·.1)).Nodup → ((e :: l').map (·.1)).Nodup) := by
  induction h with
  | hd => exact ⟨fun _ h => h, fun h => h⟩
  | @tl d e l l' _ ih =>
    refine ⟨fun c hc => ?_, fun n => ?_⟩
    · rcases List.mem_cons.mp hc with z | z
      · exact List.mem_cons_of_mem _ (ih.1 c (z ▸ List.mem_cons_self))
      · rcases List.mem_cons.mp z with z | z
        · exact z ▸ List.mem_cons_self
        · exact List.mem_cons_of_mem _ (ih.1 c (List.mem_cons_of_mem _ z))
    · rw [List.map_cons] at n
      obtain ⟨n1, n2⟩ := List.nodup_cons.mp n
      have n3 := ih.2 n2
      rw [List.map_cons] at n3
      obtain ⟨n4, n5⟩ := List.nodup_cons.mp n3
      rw [List.map_cons, List.map_cons]
      refine List.nodup_cons.mpr ⟨fun z => ?_, List.nodup_cons.mpr ⟨fun z => ?_, n5⟩⟩
      · rcases List.mem_cons.mp z with z | z
        · exact n1 (by rw [← z]; exact List.mem_map_of_mem (ih.1 e List.mem_cons_self))
        · exact n4 z
      · obtain ⟨c, hc, ec⟩ := List.mem_map.mp z
        exact n1 (by rw [← ec]; exact List.mem_map_of_mem (ih.1 c (List.mem_cons_of_mem _ hc)))
theorem Sel.sub (h : Sel l l') : (∀ d ∈ l', d ∈ l) ∧ ((l.map (·.1)).Nodup → (l'.map (·.1)).Nodup) := by
  induction h with
  | nil => exact ⟨fun _ h => (List.not_mem_nil h).elim, fun _ => List.nodup_nil⟩
  | all => exact ⟨fun _ h => h, fun h => h⟩
  | @skip e l l' _ ih => exact ⟨fun d hd => List.mem_cons_of_mem _ (ih.1 d hd), fun n => ih.2 (by rw [List.map_cons] at n; exact (List.nodup_cons.mp n).2)⟩
  | @cons e l r l' hp hs ih =>
    obtain ⟨p1, p2⟩ := hp.sub
    refine ⟨fun d hd => ?_, fun n => ?_⟩
    · rcases List.mem_cons.mp hd with z | z
      · exact p1 d (z ▸ List.mem_cons_self)
      · exact p1 d (List.mem_cons_of_mem _ (ih.1 d z))
    · have n2 := p2 n
      rw [List.map_cons] at n2
      obtain ⟨n3, n4⟩ := List.nodup_cons.mp n2
      rw [List.map_cons]
      refine List.nodup_cons.mpr ⟨fun z => n3 ?_, ih.2 n4⟩
      obtain ⟨d, hd, ed⟩ := List.mem_map.mp z
      rw [← ed]; exact List.mem_map_of_mem (ih.1 d hd)
/-- keep some entries, in any order -/
theorem Led.sel (L : Led B H l) (h : Sel l l') : Led B H l' := ⟨L.sm, h.sub.2 L.nd, fun e he => L.fr e (h.sub.1 e he), fun e he => L.hs e (h.sub.1 e he)⟩
theorem Led.drop {n : Nat} (L : Led B H l) : Led B H (l.drop n) := ⟨L.sm, (L.nd.sublist ((List.drop_sublist n l).map _)), fun e he => L.fr e (List.mem_of_mem_drop he), fun e he => L.hs e (List.mem_of_mem_drop he)⟩
/-- what a callee, that was given H as a base, leaves -/
theorem Led.join {H' : Hp} {m : List (Addr × HO)} (L : Led B H l) (M : Led H H' m) : Led B H' (m ++ l) := by
  refine ⟨L.sm.trans M.sm, ?_, fun e he => ?_, fun e he => ?_⟩
  · rw [List.map_append]
    refine List.nodup_append.mpr ⟨M.nd, L.nd, fun a ha b hb z => ?_⟩
    obtain ⟨e, he, e1⟩ := List.mem_map.mp ha
    obtain ⟨d, hd, d1⟩ := List.mem_map.mp hb
    have h1 := M.fr e he
    have h2 := L.hs d hd
    rw [e1, z] at h1
    rw [d1, h1] at h2
    cases h2
  · rcases List.mem_append.mp he with z | z
    · exact L.sm.free (M.fr e z)
    · exact L.fr e z
  · rcases List.mem_append.mp he with z | z
    · exact M.hs e z
    · exact M.sm _ _ (L.hs e z)
theorem Led.same {H' : Hp} (L : Led B H l) (s : Same H H') : Led B H' l := ⟨L.sm.trans s, L.nd, L.fr, fun e he => s _ _ (L.hs e he)⟩
theorem Led.base {B' : Hp} (L : Led B H l) (h : Same B' B) : Led B' H l := ⟨h.trans L.sm, L.nd, fun e he => h.free (L.fr e he), L.hs⟩
theorem less_put {l : List (Addr × HO)} (L : Led B H ((p, o) :: l)) : Led (upd B p o) H l := by
  have nd := L.nd
  rw [List.map_cons] at nd
  obtain ⟨n1, n2⟩ := List.nodup_cons.mp nd
  refine ⟨fun a u z => ?_, n2, fun e he => ?_, fun e he => L.hs e (List.mem_cons_of_mem _ he)⟩
  · by_cases c : a = p
    · subst c
      rw [upd_same] at z
      cases z
      exact L.hs _ List.mem_cons_self
    · rw [upd_ne c] at z
      exact L.sm a u z
  · rw [upd_ne fun z => n1 (by rw [← z]; exact List.mem_map.mpr ⟨e, he, rfl⟩)]
    exact L.fr e (List.mem_cons_of_mem _ he)
/-- what will not change any more goes to the base -/
theorem Led.sink (L : Led B H ((p, o) :: l)) : ∃ B', Same B B' ∧ B' p = some o ∧ Led B' H l := ⟨upd B p o, fun a u z => by rw [upd_ne (ne_of_none z (L.fr _ List.mem_cons_self))]; exact z, upd_same, less_put L⟩
/-- the heap without what is owned -/
def less (H : Hp) (ps : List Addr) : Hp := fun a => if a ∈ ps then none else H a
theorem Led.ofLess {l : List (Addr × HO)} (n : (l.map (·.1)).Nodup) (h : ∀ e ∈ l, H e.1 = some e.2) : Led (less H (l.map (·.1))) H l := by
  refine ⟨fun a u z => ?_, n, fun e he => ?_, h⟩
  · unfold less at z
    split at z
    · cases z
    · exact z
  · unfold less
    rw [if_pos (List.mem_map_of_mem he)]
end

/-! ### the readings, one step each -/
/-- a new object -/
def NewK (o : HO) (H : Hp) (G : Addr → Hp → Prop) : Prop := ∀ p, H p = none → G p (upd H p o)
/-- a list's item, a tuple's -/
def IxLK (K : PySem.W.Frag) (p : Addr) (i : Int) (H : Hp) (G : V → Prop) : Prop := ∃ xs v, SqL K H p xs ∧ atI xs i = some v ∧ G v
def IxTK (K : PySem.W.Frag) (p : Addr) (i : Int) (H : Hp) (G : V → Prop) : Prop := ∃ xs v, SqT K H p xs ∧ atI xs i = some v ∧ G v
/-- p[i] = v, p.append(v), p.extend(q) -/
def SetK (p : Addr) (i : Int) (v : V) (H : Hp) (G : Hp → Prop) : Prop := ∃ xs j, H p = some (.lst xs) ∧ ixN xs.length i = some j ∧ G (upd H p (.lst (xs.set j v)))
def AppK (p : Addr) (v : V) (H : Hp) (G : Hp → Prop) : Prop := ∃ xs, H p = some (.lst xs) ∧ xs.length < sizeLine ∧ G (upd H p (.lst (xs ++ [v])))
def ExtK (p q : Addr) (H : Hp) (G : Hp → Prop) : Prop := ∃ xs ys, H p = some (.lst xs) ∧ H q = some (.lst ys) ∧ xs.length + ys.length ≤ sizeLine ∧ G (upd H p (.lst (xs ++ ys)))
def CatK (p q : Addr) (H : Hp) (G : Addr → Hp → Prop) : Prop := ∃ xs ys, H p = some (.lst xs) ∧ H q = some (.lst ys) ∧ xs.length + ys.length ≤ sizeLine ∧ NewK (.lst (xs ++ ys)) H G
def LenK (K : PySem.W.Frag) (p : Addr) (H : Hp) (G : Int → Prop) : Prop := ∃ xs : List V, (SqL K H p xs ∨ SqT K H p xs) ∧ G xs.length
/-- a tuple's items, n of them -/
def UnpK (K : PySem.W.Frag) (p : Addr) (n : Nat) (H : Hp) (G : List V → Prop) : Prop := ∃ xs, SqT K H p xs ∧ xs.length = n ∧ G xs
def IterLK (K : PySem.W.Frag) (p : Addr) (H : Hp) (G : Prop) : Prop := (∃ xs, SqL K H p xs) ∧ G
def SlLK (K : PySem.W.Frag) (p : Addr) (lo hi : Option Int) (H : Hp) (G : Addr → Hp → Prop) : Prop := ∃ xs, SqL K H p xs ∧ NewK (.lst (cutV xs lo hi)) H G
/-- repr(x) -/
def RepK (K : PySem.W.Frag) (x : V) (H : Hp) (G : Str → Prop) : Prop := ∃ d, Dp K H x d ∧ Shw 16000000 60 d ∧ G d.shown
def InK (K : PySem.W.Frag) (neg : Bool) (x : V) (p : Addr) (H : Hp) (G : Bool → Prop) : Prop := ∃ xs, (SqL K H p xs ∨ SqT K H p xs) ∧ flatV x = true ∧ xs.all flatV = true ∧ G (if neg then !inV x xs else inV x xs)
section
variable {K : PySem.W.Frag} {B H : Hp} {l l' : List (Addr × HO)} {p q : Addr} {o : HO} {i : Int} {v : V} {xs ys : List V} {n : Nat}
theorem NewK.of {G : Addr → Hp → Prop} (L : Led B H l) (k : ∀ p H1, Led B H1 ((p, o) :: l) → G p H1) : NewK o H G := fun p hp => k p _ (L.new hp)
theorem NewK.ofS {G : Addr → Hp → Prop} (k : ∀ p H1, Same H H1 → H p = none → H1 p = some o → G p H1) : NewK o H G := fun p hp => k p _ (fun a u z => by rw [upd_ne (ne_of_none z hp)]; exact z) hp upd_same
theorem IxLK.of {G : V → Prop} (h : SqL K H p xs) (a : atI xs i = some v) (k : G v) : IxLK K p i H G := ⟨xs, v, h, a, k⟩
theorem IxTK.of {G : V → Prop} (h : SqT K H p xs) (a : atI xs i = some v) (k : G v) : IxTK K p i H G := ⟨xs, v, h, a, k⟩
theorem SetK.of {G : Hp → Prop} {j : Nat} (L : Led B H l) (h : (p, HO.lst xs) ∈ l) (a : ixN xs.length i = some j) (t : Put l p (.lst (xs.set j v)) l') (k : ∀ H1, Led B H1 l' → G H1) : SetK p i v H G := ⟨xs, j, L.at h, a, k _ (L.put t)⟩
theorem AppK.of {G : Hp → Prop} (L : Led B H l) (h : (p, HO.lst xs) ∈ l) (a : xs.length < sizeLine) (t : Put l p (.lst (xs ++ [v])) l') (k : ∀ H1, Led B H1 l' → G H1) : AppK p v H G := ⟨xs, L.at h, a, k _ (L.put t)⟩
theorem ExtK.of {G : Hp → Prop} (L : Led B H l) (h : (p, HO.lst xs) ∈ l) (h2 : (q, HO.lst ys) ∈ l) (a : xs.length + ys.length ≤ sizeLine) (t : Put l p (.lst (xs ++ ys)) l') (k : ∀ H1, Led B H1 l' → G H1) : ExtK p q H G := ⟨xs, ys, L.at h, L.at h2, a, k _ (L.put t)⟩
theorem CatK.of {G : Addr → Hp → Prop} (L : Led B H l) (h : (p, HO.lst xs) ∈ l) (h2 : (q, HO.lst ys) ∈ l) (a : xs.length + ys.length ≤ sizeLine) (k : ∀ p H1, Led B H1 ((p, .lst (xs ++ ys)) :: l) → G p H1) : CatK p q H G := ⟨xs, ys, L.at h, L.at h2, a, NewK.of L k⟩
theorem LenK.ofL {G : Int → Prop} (h : SqL K H p xs) (k : G xs.length) : LenK K p H G := ⟨xs, Or.inl h, k⟩
theorem LenK.ofT {G : Int → Prop} (h : SqT K H p xs) (k : G xs.length) : LenK K p H G := ⟨xs, Or.inr h, k⟩
theorem UnpK.of {G : List V → Prop} (h : SqT K H p xs) (e : xs.length = n) (k : G xs) : UnpK K p n H G := ⟨xs, h, e, k⟩
theorem IterLK.of {G : Prop} (h : SqL K H p xs) (k : G) : IterLK K p H G := ⟨⟨xs, h⟩, k⟩
theorem SlLK.of {G : Addr → Hp → Prop} {lo hi : Option Int} (L : Led B H l) (h : SqL K H p xs) (k : ∀ p H1, Led B H1 ((p, .lst (cutV xs lo hi)) :: l) → G p H1) : SlLK K p lo hi H G := ⟨xs, h, NewK.of L k⟩
variable {Q : VK} {j : Int}
theorem x_I {C : Int → Int → Prop} {g : Int → Int → V} : rI C g (.int i) (.int j) H Q ↔ C i j ∧ Q (g i j) H := ⟨fun ⟨_, _, e1, e2, c, q⟩ => by cases e1; cases e2; exact ⟨c, q⟩, fun ⟨c, q⟩ => ⟨i, j, rfl, rfl, c, q⟩⟩
theorem x_I0 {g : Int → Int → V} : rI0 g (.int i) (.int j) H Q ↔ Q (g i j) H := ⟨fun ⟨_, _, e1, e2, q⟩ => by cases e1; cases e2; exact q, fun q => ⟨i, j, rfl, rfl, q⟩⟩
theorem x_U {g : Int → V} : rU g (.int i) H Q ↔ Q (g i) H := ⟨fun ⟨_, e1, q⟩ => by cases e1; exact q, fun q => ⟨i, rfl, q⟩⟩
theorem x_eq {x y : V} : rEq x y H Q ↔ scal x y = true ∧ Q (.bl (decide (x = y))) H := ⟨fun h => h, fun h => h⟩
theorem x_ne {x y : V} : rNe x y H Q ↔ scal x y = true ∧ Q (.bl (!decide (x = y))) H := ⟨fun h => h, fun h => h⟩
theorem x_ixL : rIxL K (.ref p) (.int i) H Q ↔ IxLK K p i H fun v => Q v H := ⟨fun ⟨_, xs, _, v, e1, e2, a, b, q⟩ => by cases e1; cases e2; exact ⟨xs, v, a, b, q⟩, fun ⟨xs, v, a, b, q⟩ => ⟨p, xs, i, v, rfl, rfl, a, b, q⟩⟩
theorem x_ixT : rIxT K (.ref p) (.int i) H Q ↔ IxTK K p i H fun v => Q v H := ⟨fun ⟨_, xs, _, v, e1, e2, a, b, q⟩ => by cases e1; cases e2; exact ⟨xs, v, a, b, q⟩, fun ⟨xs, v, a, b, q⟩ => ⟨p, xs, i, v, rfl, rfl, a, b, q⟩⟩
theorem x_setL {N : Hp → Prop} : rSetL (.ref p) (.int i) v H N ↔ SetK p i v H N := ⟨fun ⟨_, xs, _, j, e1, e2, a, b, q⟩ => by cases e1; cases e2; exact ⟨xs, j, a, b, q⟩, fun ⟨xs, j, a, b, q⟩ => ⟨p, xs, i, j, rfl, rfl, a, b, q⟩⟩
theorem x_app : rAppend (.ref p) [v] H Q ↔ AppK p v H fun H1 => Q .non H1 := ⟨fun ⟨_, xs, _, e1, e2, a, b, q⟩ => by cases e1; cases e2; exact ⟨xs, a, b, q⟩, fun ⟨xs, a, b, q⟩ => ⟨p, xs, v, rfl, rfl, a, b, q⟩⟩
theorem x_ext : rExtend (.ref p) [.ref q] H Q ↔ ExtK p q H fun H1 => Q .non H1 := ⟨fun ⟨_, _, xs, ys, e1, e2, a, b, c, q⟩ => by cases e1; cases e2; exact ⟨xs, ys, a, b, c, q⟩, fun ⟨xs, ys, a, b, c, q'⟩ => ⟨p, q, xs, ys, rfl, rfl, a, b, c, q'⟩⟩
theorem x_cat : rCat (.ref p) (.ref q) H Q ↔ CatK p q H fun r H1 => Q (.ref r) H1 := ⟨fun ⟨_, _, xs, ys, e1, e2, a, b, c, q⟩ => by cases e1; cases e2; exact ⟨xs, ys, a, b, c, q⟩, fun ⟨xs, ys, a, b, c, q'⟩ => ⟨p, q, xs, ys, rfl, rfl, a, b, c, q'⟩⟩
theorem x_slL {lo hi : Option Int} : rSlL K (.ref p) lo hi H Q ↔ SlLK K p lo hi H fun r H1 => Q (.ref r) H1 := ⟨fun ⟨_, xs, e1, a, q⟩ => by cases e1; exact ⟨xs, a, q⟩, fun ⟨xs, a, q⟩ => ⟨p, xs, rfl, a, q⟩⟩
theorem x_in {neg : Bool} {x : V} : rIn K neg x (.ref p) H Q ↔ InK K neg x p H fun b => Q (.bl b) H := ⟨fun ⟨_, xs, e1, a, b, c, q⟩ => by cases e1; exact ⟨xs, a, b, c, q⟩, fun ⟨xs, a, b, c, q⟩ => ⟨p, xs, rfl, a, b, c, q⟩⟩
theorem x_repr {x : V} : rRepr K [x] H Q ↔ RepK K x H fun t => Q (.str t) H := ⟨fun ⟨_, d, e1, a, b, q⟩ => by cases e1; exact ⟨d, a, b, q⟩, fun ⟨d, a, b, q⟩ => ⟨x, d, rfl, a, b, q⟩⟩
end
section
variable {σ : L2.St} {H : Hp} {Q : VK} {D : Ends} {ta tb te : TE} {t u : TT} {s1 s2 : TS} {v : V} {i n : Nat} {r : R2} {K : PySem.W.Frag} {TQ : Bool → Hp → Prop} {AQ : List V → Hp → Prop} {al : TA}
theorem e_var : tVar i σ H Q = ∃ v, σ[i]? = some (some v) ∧ Q v H := propext ⟨fun h => h, fun h => h⟩
theorem e_c : tC v σ H Q = Q v H := propext ⟨fun h => h, fun h => h⟩
theorem e_op : tOp r ta tb σ H Q = ta σ H fun x H1 => tb σ H1 fun y H2 => r x y H2 Q := propext ⟨fun h => h, fun h => h⟩
theorem e_un {r : V → Hp → VK → Prop} : tUn r ta σ H Q = ta σ H fun x H1 => r x H1 Q := propext ⟨fun h => h, fun h => h⟩
theorem e_if : tIf t ta tb σ H Q = t σ H fun c H1 => if c = true then ta σ H1 Q else tb σ H1 Q := propext ⟨fun h => h, fun h => h⟩
theorem e_andV : tAndV ta tb σ H Q = ta σ H fun x H1 => ∃ c, x = .bl c ∧ if c = true then tb σ H1 Q else Q (.bl false) H1 := propext ⟨fun h => h, fun h => h⟩
theorem e_orV : tOrV ta tb σ H Q = ta σ H fun x H1 => ∃ c, x = .bl c ∧ if c = true then Q (.bl true) H1 else tb σ H1 Q := propext ⟨fun h => h, fun h => h⟩
theorem e_notV : tNotV ta σ H Q = ta σ H fun x H1 => ∃ c, x = .bl c ∧ Q (.bl (!c)) H1 := propext ⟨fun h => h, fun h => h⟩
theorem e_lst : tLst al σ H Q = al σ H fun xs H1 => xs.length ≤ sizeLine ∧ NewK (.lst xs) H1 fun p H2 => Q (.ref p) H2 := propext ⟨fun h => h, fun h => h⟩
theorem e_tup : tTup al σ H Q = al σ H fun xs H1 => xs.length ≤ sizeLine ∧ NewK (.tup xs) H1 fun p H2 => Q (.ref p) H2 := propext ⟨fun h => h, fun h => h⟩
theorem e_CB {r : List V → Hp → VK → Prop} : tCB r al σ H Q = al σ H fun vs H1 => r vs H1 Q := propext ⟨fun h => h, fun h => h⟩
theorem e_BM {T : String} {r : V → List V → Hp → VK → Prop} : tBM K T r ta al σ H Q = ta σ H fun x H1 => tyV K T x H1 ∧ al σ H1 fun xs H2 => r x xs H2 Q := propext ⟨fun h => h, fun h => h⟩
theorem e_BM0 {T : String} {r : V → List V → Hp → VK → Prop} : tBM0 K T r ta σ H Q = ta σ H fun x H1 => tyV K T x H1 ∧ r x [] H1 Q := propext ⟨fun h => h, fun h => h⟩
theorem e_G {sp : Sp} {dvs : List V} {E : L2.St → XK} : tG sp dvs E al σ H Q = al σ H fun vs H1 => sp (vs ++ dvs) H1 Q (E σ) := propext ⟨fun h => h, fun h => h⟩
theorem e_chain {r r' : R2} {tc : TE} : tChain r r' ta tb tc σ H Q = ta σ H fun x H1 => tb σ H1 fun y H2 => r x y H2 fun z H3 => ∃ k, z = .bl k ∧ if k = true then tc σ H3 fun z H4 => r' y z H4 Q else Q (.bl false) H3 := propext ⟨fun h => h, fun h => h⟩
theorem e_sl {r : V → Option Int → Option Int → Hp → VK → Prop} {tl th : TO} : tSl r te tl th σ H Q = te σ H fun x H1 => tl σ H1 fun l H2 => th σ H2 fun u H3 => r x l u H3 Q := propext ⟨fun h => h, fun h => h⟩
theorem e_part {OQ : Option Int → Hp → Prop} : tPart te σ H OQ = te σ H fun x H1 => ∃ i, x = .int i ∧ OQ (some i) H1 := propext ⟨fun h => h, fun h => h⟩
theorem e_nopart {OQ : Option Int → Hp → Prop} : tNoPart σ H OQ = OQ none H := propext ⟨fun h => h, fun h => h⟩
theorem a_nil : tNil σ H AQ = AQ [] H := propext ⟨fun h => h, fun h => h⟩
theorem a_cons : tCons ta al σ H AQ = ta σ H fun x H1 => al σ H1 fun xs H2 => AQ (x :: xs) H2 := propext ⟨fun h => h, fun h => h⟩
theorem e_callLen : tCB (fun xs H Q => ∃ p ys, xs = [V.ref p] ∧ (SqL K H p ys ∨ SqT K H p ys) ∧ Q (.int ys.length) H) (tCons ta tNil) σ H Q ↔ ta σ H fun x H1 => ∃ p, x = .ref p ∧ LenK K p H1 fun n => Q (.int n) H1 := Iff.of_eq (congrArg (ta σ H) (funext fun x => funext fun H1 => propext ⟨fun ⟨p, ys, e, h, q⟩ => by cases e; exact ⟨p, rfl, ys, h, q⟩, fun ⟨p, e, ys, h, q⟩ => ⟨p, ys, by rw [e], h, q⟩⟩))
theorem t_B : tB te σ H TQ = te σ H fun x H1 => ∃ c, x = .bl c ∧ TQ c H1 := propext ⟨fun h => h, fun h => h⟩
theorem t_test : tTest te σ H TQ = te σ H fun x H1 => ∃ c, x = .bl c ∧ TQ c H1 := propext ⟨fun h => h, fun h => h⟩
theorem t_and : tAnd t u σ H TQ = t σ H fun c H1 => if c = true then u σ H1 TQ else TQ false H1 := propext ⟨fun h => h, fun h => h⟩
theorem t_or : tOr t u σ H TQ = t σ H fun c H1 => if c = true then TQ true H1 else u σ H1 TQ := propext ⟨fun h => h, fun h => h⟩
theorem t_not : tNot t σ H TQ = t σ H fun c H1 => TQ (!c) H1 := propext ⟨fun h => h, fun h => h⟩
theorem t_yes : tYes σ H TQ = TQ true H := propext ⟨fun h => h, fun h => h⟩
theorem s_seq : tSeq s1 s2 D σ H = s1 { D with nx := s2 D } σ H := propext ⟨fun h => h, fun h => h⟩
theorem s_next : tNext D σ H = D.nx σ H := propext ⟨fun h => h, fun h => h⟩
theorem s_break : tBreak D σ H = D.bk σ H := propext ⟨fun h => h, fun h => h⟩
theorem s_cont : tCont D σ H = D.ct σ H := propext ⟨fun h => h, fun h => h⟩
theorem s_drop : tDrop te D σ H = te σ H fun _ H1 => D.nx σ H1 := propext ⟨fun h => h, fun h => h⟩
theorem s_ret : tRet te D σ H = te σ H D.rt := propext ⟨fun h => h, fun h => h⟩
theorem s_retN : tRetN D σ H = D.rt .non H := propext ⟨fun h => h, fun h => h⟩
theorem s_ifS : tIfS t s1 s2 D σ H = t σ H fun b H1 => if b = true then s1 D σ H1 else s2 D σ H1 := propext ⟨fun h => h, fun h => h⟩
theorem s_asg {g : TG} : tAsg te g D σ H = te σ H fun x H1 => g x σ H1 D.nx := propext ⟨fun h => h, fun h => h⟩
theorem s_aug {ti : TIp} : tAug i te ti D σ H = ∃ x, σ[i]? = some (some x) ∧ te σ H fun y H1 => ti x y H1 fun z H2 => D.nx (σ.set i (some z)) H2 := propext ⟨fun h => h, fun h => h⟩
variable {N : L2.St → Hp → Prop}
theorem s_par {j : Nat} : tPar i j al D σ H = al σ H fun vs H1 => ∃ v w, vs = [v, w] ∧ D.nx ((σ.set i (some v)).set j (some w)) H1 := propext ⟨fun h => h, fun h => h⟩
theorem g_name : gName i v σ H N = N (σ.set i (some v)) H := propext ⟨fun h => h, fun h => h⟩
theorem g_tup {gs : TGs} {a : Addr} : gTup K n gs (.ref a) σ H N ↔ UnpK K a n H fun xs => gs xs σ H N := ⟨fun ⟨_, xs, e, h, z, q⟩ => by cases e; exact ⟨xs, h, z, q⟩, fun ⟨xs, h, z, q⟩ => ⟨a, xs, rfl, h, z, q⟩⟩
theorem g_nil : gNil [] σ H N ↔ N σ H := ⟨fun h => h.2, fun h => ⟨rfl, h⟩⟩
theorem g_cons {g : TG} {gs : TGs} {v : V} {vs : List V} : gCons g gs (v :: vs) σ H N ↔ g v σ H fun σ' H' => gs vs σ' H' N := ⟨fun ⟨_, _, e, q⟩ => by cases e; exact q, fun q => ⟨v, vs, rfl, q⟩⟩
theorem g_sub {st : TSet} : gSub ta tb st v σ H N = ta σ H fun o H1 => tb σ H1 fun i H2 => st o i v H2 fun H3 => N σ H3 := propext ⟨fun h => h, fun h => h⟩
theorem i_list {R : It → Hp → Prop} : iList K te σ H R = te σ H fun x H1 => ∃ a, x = .ref a ∧ (∃ xs, SqL K H1 a xs) ∧ R (Itl K a) H1 := propext ⟨fun h => h, fun h => h⟩
theorem i_tup {R : It → Hp → Prop} : iTup K te σ H R = te σ H fun x H1 => ∃ a, x = .ref a ∧ (∃ xs, SqT K H1 a xs) ∧ R (Itt K a) H1 := propext ⟨fun h => h, fun h => h⟩
theorem i_rng1 {R : It → Hp → Prop} : iRng1 al σ H R = al σ H fun vs H1 => ∃ j : Int, vs = [.int j] ∧ -(2 ^ 62) ≤ j ∧ j < 2 ^ 62 ∧ R (Itr 0 j.toNat) H1 := propext ⟨fun h => h, fun h => h⟩
theorem i_rng2 {R : It → Hp → Prop} : iRng2 al σ H R = al σ H fun vs H1 => ∃ i j : Int, vs = [.int i, .int j] ∧ (-(2 ^ 62) ≤ i ∧ i < 2 ^ 62 ∧ -(2 ^ 62) ≤ j ∧ j < 2 ^ 62) ∧ R (Itr i (j - i).toNat) H1 := propext ⟨fun h => h, fun h => h⟩
theorem i_enum {R : It → Hp → Prop} : iEnum K al σ H R = al σ H fun vs H1 => ∃ a xs, vs = [.ref a] ∧ SqL K H1 a xs ∧ R (Ite K a) H1 := propext ⟨fun h => h, fun h => h⟩
/-- a loop, kept whole -/
def LoopK (J : It) (g : TG) (tb : TS) (D : Ends) (σ : L2.St) (H1 : Hp) : Prop := ∃ W : Nat → Nat → L2.St → Hp → Prop, (∃ m, W 0 m σ H1) ∧ ∀ i m σ H, W i m σ H →
  (J.stop i H ∧ D.nx σ H) ∨ (J.go i H ∧ ∃ N : L2.St → Hp → Prop, (∀ σ' H', N σ' H' → ∃ m', m' < m ∧ W (i + 1) m' σ' H') ∧ ∀ x H', J.yld i H x H' → g x σ H' fun σ2 H2 => tb { D with nx := N, ct := N, bk := D.nx } σ2 H2)
theorem s_for {wi : TI} {g : TG} {tb : TS} : tFor wi g tb D σ H = wi σ H fun J H1 => LoopK J g tb D σ H1 := propext ⟨fun h => h, fun h => h⟩
/-- a comprehension, kept whole -/
def LcK (J : It) (g : TG) (tt : TT) (te : TE) (vs : List Nat) (σ : L2.St) (H1 : Hp) (Q : VK) : Prop := tLc (fun _ H R => R J H) g tt te vs σ H1 Q
theorem e_lc {wi : TI} {g : TG} {tt : TT} {vs : List Nat} : tLc wi g tt te vs σ H Q = wi σ H fun J H1 => LcK J g tt te vs σ H1 Q := propext ⟨fun h => h, fun h => h⟩
end

section
variable {X : Cx}
def rLen (K : PySem.W.Frag) : List V → Hp → VK → Prop := fun xs H Q => ∃ p ys, xs = [.ref p] ∧ (SqL K H p ys ∨ SqT K H p ys) ∧ Q (.int ys.length) H
theorem cr_len : CallR X (.builtin "len") (rLen X.K) := call_len_seq
theorem x_len {K : PySem.W.Frag} {p : Addr} {H : Hp} {Q : VK} : rLen K [.ref p] H Q ↔ LenK K p H fun n => Q (.int n) H := ⟨fun ⟨_, ys, e, h, q⟩ => by cases e; exact ⟨ys, h, q⟩, fun ⟨ys, h, q⟩ => ⟨p, ys, rfl, h, q⟩⟩
def rMx : List V → Hp → VK → Prop := fun xs H Q => ∃ i j, xs = [.int i, .int j] ∧ Q (.int (max i j)) H
def rMn : List V → Hp → VK → Prop := fun xs H Q => ∃ i j, xs = [.int i, .int j] ∧ Q (.int (min i j)) H
theorem mx_eq (i j : Int) : (if j > i then j else i) = max i j := by split <;> omega
theorem mn_eq (i j : Int) : (if j < i then j else i) = min i j := by split <;> omega
theorem CallR.as {f : Value} {r r' : List V → Hp → VK → Prop} (h : CallR X f r) (i : ∀ xs H Q, r' xs H Q → r xs H Q) : CallR X f r' := fun pins s σ H xs us Q I v q => h pins s σ H xs us Q I v (i xs H Q q)
theorem cr_max2 (hc : X.calm = true) : CallR X (.builtin "max") rMx := CallR.as (call_max2 hc) fun _ _ _ ⟨i, j, e, q⟩ => ⟨i, j, e, by rw [mx_eq]; exact q⟩
theorem cr_min2 (hc : X.calm = true) : CallR X (.builtin "min") rMn := CallR.as (call_min2 hc) fun _ _ _ ⟨i, j, e, q⟩ => ⟨i, j, e, by rw [mn_eq]; exact q⟩
theorem x_mx {i j : Int} {H : Hp} {Q : VK} : rMx [.int i, .int j] H Q ↔ Q (.int (max i j)) H := ⟨fun ⟨_, _, e, q⟩ => by cases e; exact q, fun q => ⟨i, j, rfl, q⟩⟩
theorem x_mn {i j : Int} {H : Hp} {Q : VK} : rMn [.int i, .int j] H Q ↔ Q (.int (min i j)) H := ⟨fun ⟨_, _, e, q⟩ => by cases e; exact q, fun q => ⟨i, j, rfl, q⟩⟩
theorem k_cx {C : CXT} {P : Program} {w : World} {K : PySem.W.Frag} {mg : Str → Option Value} {bs : Heap} {N : List Str} {qual : Str} {sc : Scope} {f : Addr} {cd : Value} {A : Around} {fr : List Env} {s : Shared} {H : Hp} {E : XK} :
    (cxOf C P w K mg bs N qual sc f cd A fr s H E).nox.K = K := rfl
theorem k_cx2 {C : CXT} {P : Program} {w : World} {K : PySem.W.Frag} {mg : Str → Option Value} {bs : Heap} {N : List Str} {qual : Str} {sc : Scope} {f : Addr} {cd : Value} {A : Around} {fr : List Env} {s : Shared} {H : Hp} {E : XK} :
    (cxOf C P w K mg bs N qual sc f cd A fr s H E).K = K := rfl
end
/-! ### isinstance(x, T), T a built-in class -/
def tyB (K : PySem.W.Frag) (H : Hp) (x : V) (t : String) : Prop := TyX K H x (.type t)
def rIs (K : PySem.W.Frag) : List V → Hp → VK → Prop := fun xs H Q => ∃ x n t b, xs = [x, .ty n] ∧ tyB K H x t ∧ kitB t n = some b ∧ Q (.bl b) H
theorem cr_is {X : Cx} : CallR X (.builtin "isinstance") (rIs X.K) := CallR.as call_isi fun _ _ _ ⟨x, n, _, b, e, ht, hb, q⟩ => ⟨x, .ty n, _, _, b, e, ClsV.ty n, ht, kit_ty hb, q⟩
section
variable {K : PySem.W.Frag} {H : Hp} {Q : VK}
theorem ty_int {i : Int} {t : String} (h : tyB K H (.int i) t) : t = "int" := by
  cases h with
  | base h => cases h; rfl
theorem ty_bl {i : Bool} {t : String} (h : tyB K H (.bl i) t) : t = "bool" := by
  cases h with
  | base h => cases h; rfl
theorem ty_non {t : String} (h : tyB K H .non t) : t = "NoneType" := by
  cases h with
  | base h => cases h; rfl
theorem ty_str {i : Str} {t : String} (h : tyB K H (.str i) t) : t = "str" := by
  cases h with
  | base h => cases h; rfl
theorem x_is {x : V} {t n : String} {b : Bool} (h1 : tyB K H x t) (h2 : ∀ u, tyB K H x u → u = t) (h3 : kitB t n = some b) : rIs K [x, .ty n] H Q ↔ Q (.bl b) H := by
  constructor
  · rintro ⟨_, _, u, c, e, hu, hc, q⟩
    cases e
    rw [h2 u hu, h3] at hc
    cases hc
    exact q
  · intro q
    exact ⟨x, n, t, b, rfl, h1, h3, q⟩
theorem x_is_int {i : Int} : rIs K [.int i, .ty "int"] H Q ↔ Q (.bl true) H := x_is (.base (.int i)) (fun _ => ty_int) (by decide +kernel)
theorem x_is_bi {i : Int} : rIs K [.int i, .ty "bool"] H Q ↔ Q (.bl false) H := x_is (.base (.int i)) (fun _ => ty_int) (by decide +kernel)
theorem x_is_bool {i : Bool} : rIs K [.bl i, .ty "int"] H Q ↔ Q (.bl true) H := x_is (.base (.bl i)) (fun _ => ty_bl) (by decide +kernel)
theorem x_is_bb {i : Bool} : rIs K [.bl i, .ty "bool"] H Q ↔ Q (.bl true) H := x_is (.base (.bl i)) (fun _ => ty_bl) (by decide +kernel)
theorem x_is_nb : rIs K [.non, .ty "bool"] H Q ↔ Q (.bl false) H := x_is (.base .non) (fun _ => ty_non) (by decide +kernel)
theorem x_is_ni : rIs K [.non, .ty "int"] H Q ↔ Q (.bl false) H := x_is (.base .non) (fun _ => ty_non) (by decide +kernel)
theorem x_is_sb {i : Str} : rIs K [.str i, .ty "bool"] H Q ↔ Q (.bl false) H := x_is (.base (.str i)) (fun _ => ty_str) (by decide +kernel)
theorem x_is_si {i : Str} : rIs K [.str i, .ty "int"] H Q ↔ Q (.bl false) H := x_is (.base (.str i)) (fun _ => ty_str) (by decide +kernel)
theorem x_is_ib {i : Str} : rIs K [.str i, .ty "str"] H Q ↔ Q (.bl true) H := x_is (.base (.str i)) (fun _ => ty_str) (by decide +kernel)
/-- isinstance of an object -/
def IsK (K : PySem.W.Frag) (a : Addr) (n : String) (H : Hp) (G : Bool → Prop) : Prop := ∃ t b, tyB K H (.ref a) t ∧ kitB t n = some b ∧ G b
theorem x_isR {a : Addr} {n : String} : rIs K [.ref a, .ty n] H Q ↔ IsK K a n H fun b => Q (.bl b) H := ⟨fun ⟨_, _, t, b, e, h1, h2, q⟩ => by cases e; exact ⟨t, b, h1, h2, q⟩, fun ⟨t, b, h1, h2, q⟩ => ⟨_, _, t, b, rfl, h1, h2, q⟩⟩
theorem IsK.tup {a : Addr} {n : String} {xs : List V} {b : Bool} {G : Bool → Prop} (h : H a = some (.tup xs)) (k : kitB "tuple" n = some b) (q : G b) : IsK K a n H G := ⟨_, b, .base (.tup h), k, q⟩
theorem IsK.lst {a : Addr} {n : String} {xs : List V} {b : Bool} {G : Bool → Prop} (h : H a = some (.lst xs)) (k : kitB "list" n = some b) (q : G b) : IsK K a n H G := ⟨_, b, .base (.lst h), k, q⟩
end
/-! ### instances -/
def FldK (K : PySem.W.Frag) (p : Addr) (f : Str) (H : Hp) (G : V → Prop) : Prop := ∃ C dx fs v, H p = some (.ins C dx fs) ∧ Cls K C ∧ NoAttr K C f ∧ fs.lookup f = some v ∧ G v
def StK (K : PySem.W.Frag) (p : Addr) (f : Str) (y : V) (H : Hp) (G : Hp → Prop) : Prop := ∃ C dx fs, H p = some (.ins C dx fs) ∧ Cls K C ∧ NoAttr K C f ∧ fs.length < 1000 ∧ G (upd H p (.ins C dx (putF f y fs)))
section
variable {K : PySem.W.Frag} {B H : Hp} {l l' : List (Addr × HO)} {p C dx : Addr} {fs fs' : List (Str × V)} {f : Str} {v : V} {σ : L2.St} {Q : VK} {D : Ends} {ta tv : TE}
theorem e_fld : tFld K ta f σ H Q ↔ ta σ H fun x H1 => ∃ a, x = .ref a ∧ FldK K a f H1 fun v => Q v H1 := Iff.of_eq (congrArg (ta σ H) (funext fun x => funext fun H1 => propext ⟨fun ⟨a, C, dx, fs, v, e, r⟩ => ⟨a, e, C, dx, fs, v, r⟩, fun ⟨a, e, C, dx, fs, v, r⟩ => ⟨a, C, dx, fs, v, e, r⟩⟩))
theorem s_fld : sFld K ta tv f D σ H ↔ tv σ H fun y H1 => ta σ H1 fun x H2 => ∃ a, x = .ref a ∧ StK K a f y H2 fun H3 => D.nx σ H3 := Iff.of_eq (congrArg (tv σ H) (funext fun y => funext fun H1 => congrArg (ta σ H1) (funext fun x => funext fun H2 => propext ⟨fun ⟨a, C, dx, fs, e, r⟩ => ⟨a, e, C, dx, fs, r⟩, fun ⟨a, e, C, dx, fs, r⟩ => ⟨a, C, dx, fs, e, r⟩⟩)))
theorem FldK.of {G : V → Prop} (L : Led B H l) (m : (p, HO.ins C dx fs) ∈ l) (c : Cls K C) (n : NoAttr K C f) (e : fs.lookup f = some v) (k : G v) : FldK K p f H G := ⟨C, dx, fs, v, L.at m, c, n, e, k⟩
theorem StK.of {G : Hp → Prop} (L : Led B H l) (m : (p, HO.ins C dx fs) ∈ l) (c : Cls K C) (n : NoAttr K C f) (e : putF f v fs = fs') (t : Put l p (.ins C dx fs') l') (k : ∀ H1, Led B H1 l' → G H1) (h : fs.length < 1000 := by first | decide | (simp only [List.length_cons, List.length_nil]; decide) | omega) : StK K p f v H G :=
  ⟨C, dx, fs, L.at m, c, n, h, by rw [e]; exact k _ (L.put t)⟩
/-- o.m(..) -/
def MtK (p C : Addr) (m : Str) (H : Hp) (G : Prop) : Prop := ∃ dx fs, H p = some (.ins C dx fs) ∧ fs.lookup m = none ∧ G
theorem e_MG {m : Str} {sp : Sp} {dvs : List V} {E : L2.St → XK} {t : TA} : tMG C m sp dvs E ta t σ H Q ↔ ta σ H fun x H1 => ∃ a, x = .ref a ∧ MtK a C m H1 (t σ H1 fun vs H2 => sp (x :: (vs ++ dvs)) H2 Q (E σ)) :=
  Iff.of_eq (congrArg (ta σ H) (funext fun x => funext fun H1 => propext ⟨fun ⟨a, dx, fs, e, r1, r2, r3⟩ => ⟨a, e, dx, fs, r1, r2, r3⟩, fun ⟨a, e, dx, fs, r1, r2, r3⟩ => ⟨a, dx, fs, e, r1, r2, r3⟩⟩))
theorem MtK.of {m : Str} {G : Prop} (L : Led B H l) (h : (p, HO.ins C dx fs) ∈ l) (e : fs.lookup m = none) (k : G) : MtK p C m H G := ⟨dx, fs, L.at h, e, k⟩
/-- C(..) -/
def MkK (C : Addr) (H : Hp) (G : Addr → Hp → Prop) : Prop := ∀ x dx, H x = none → H dx = none → dx ≠ x → G x (upd (upd H dx (.own x)) x (.ins C dx []))
theorem e_KG {sp : Sp} {dvs : List V} {E : L2.St → XK} {t : TA} : tKG C sp dvs E t σ H Q = t σ H fun vs H1 => MkK C H1 fun x H2 => sp (.ref x :: (vs ++ dvs)) H2 (fun v H3 => v = .non ∧ Q (.ref x) H3) (E σ) := propext ⟨fun h => h, fun h => h⟩
theorem MkK.of {G : Addr → Hp → Prop} (L : Led B H l) (k : ∀ x dx H1, Led B H1 ((x, .ins C dx []) :: l) → G x H1) : MkK C H G := fun x dx hx hd ne =>
  k x dx _ (((L.new hd).new (by rw [upd_ne ne.symm]; exact hx)).sel (.cons .hd (.skip .all)))
/-! ### lists again -/
def RptK (l : Addr) (n : Int) (H : Hp) (G : Addr → Hp → Prop) : Prop := ∃ xs, H l = some (.lst xs) ∧ -(2 ^ 63) ≤ n ∧ n < 2 ^ 63 ∧ xs.length * n.toNat ≤ sizeLine ∧ NewK (.lst (List.replicate n.toNat xs).flatten) H G
theorem x_rpt {a : Addr} {n : Int} : rRep (.ref a) (.int n) H Q ↔ RptK a n H fun p H1 => Q (.ref p) H1 := ⟨fun ⟨_, _, xs, e1, e2, h, h1, h2, h3, q⟩ => by cases e1; cases e2; exact ⟨xs, h, h1, h2, h3, q⟩, fun ⟨xs, h, h1, h2, h3, q⟩ => ⟨a, n, xs, rfl, rfl, h, h1, h2, h3, q⟩⟩
theorem flat_one {α : Type} (n : Nat) (x : α) : (List.replicate n [x]).flatten = List.replicate n x := by
  induction n with
  | zero => rfl
  | succ n ih => rw [List.replicate_succ, List.flatten_cons, ih, List.replicate_succ]; rfl
theorem RptK.of {a : Addr} {n : Nat} {G : Addr → Hp → Prop} (L : Led B H l) (h : (a, HO.lst [v]) ∈ l) (hn : n ≤ 100000) (k : ∀ p H1, Led B H1 ((p, .lst (List.replicate n v)) :: l) → G p H1) : RptK a (n : Int) H G :=
  ⟨[v], L.at h, by omega, by omega, Nat.le_trans (m := 100000) (by rw [Int.toNat_natCast]; simpa using hn) (by decide), by rw [Int.toNat_natCast, flat_one]; exact NewK.of L k⟩
def RemK (a : Addr) (n : Int) (H : Hp) (G : Hp → Prop) : Prop := ∃ (ns : List Int) (j : Nat), H a = some (.lst (ns.map V.int)) ∧ ns[j]? = some n ∧ (∀ m : Nat, m < j → ns[m]? ≠ some n) ∧ G (upd H a (.lst ((ns.eraseIdx j).map V.int)))
theorem x_rem {a : Addr} {n : Int} : rRemI (.ref a) [.int n] H Q ↔ RemK a n H fun H1 => Q .non H1 := ⟨fun ⟨_, ns, _, j, e1, e2, h, h1, h2, q⟩ => by cases e1; cases e2; exact ⟨ns, j, h, h1, h2, q⟩, fun ⟨ns, j, h, h1, h2, q⟩ => ⟨a, ns, n, j, rfl, rfl, h, h1, h2, q⟩⟩
theorem first_at {n : Int} : ∀ {ns : List Int}, n ∈ ns → ∃ j, ns[j]? = some n ∧ (∀ m : Nat, m < j → ns[m]? ≠ some n) ∧ ns.eraseIdx j = ns.erase n
  | [], h => (List.not_mem_nil h).elim
  | x :: r, h => by
    by_cases c : x = n
    · subst c
      exact ⟨0, rfl, fun m hm => absurd hm (Nat.not_lt_zero _), by rw [List.erase_cons_head]; rfl⟩
    · obtain ⟨j, h1, h2, h3⟩ := first_at ((List.mem_cons.mp h).resolve_left fun z => c z.symm)
      refine ⟨j + 1, h1, fun m hm => ?_, ?_⟩
      · cases m with
        | zero => intro z; exact c (Option.some.inj z)
        | succ m => exact h2 m (by omega)
      · rw [List.erase_cons_tail (by simpa using c), List.eraseIdx_cons_succ, h3]
theorem RemK.of {a : Addr} {n : Int} {ns : List Int} {G : Hp → Prop} (L : Led B H l) (h : (a, HO.lst (ns.map V.int)) ∈ l) (hm : n ∈ ns) (t : Put l a (.lst ((ns.erase n).map V.int)) l') (k : ∀ H1, Led B H1 l' → G H1) : RemK a n H G := by
  obtain ⟨j, h1, h2, h3⟩ := first_at hm
  exact ⟨ns, j, L.at h, h1, h2, by rw [h3]; exact k _ (L.put t)⟩
def MinK (K : PySem.W.Frag) (a : Addr) (H : Hp) (G : Int → Prop) : Prop := ∃ ns : List Int, SqL K H a (ns.map V.int) ∧ 0 < ns.length ∧ ∀ m, m ∈ ns → (∀ y, y ∈ ns → m ≤ y) → G m
theorem x_min {a : Addr} : rMin K [.ref a] H Q ↔ MinK K a H fun m => Q (.int m) H := ⟨fun ⟨_, ns, e, r⟩ => by cases e; exact ⟨ns, r⟩, fun ⟨ns, r⟩ => ⟨a, ns, rfl, r⟩⟩
theorem e_lrg1 {te : L2.St → Hp → (Int → Int → Hp → Prop) → Prop} : tLstRg te σ H Q = te σ H fun a b H1 => RgOk a b ∧ NewK (.lst (rgV a b)) H1 fun p H2 => Q (.ref p) H2 := propext ⟨fun h => h, fun h => h⟩
theorem e_rg1 {R : Int → Int → Hp → Prop} : tRg1 ta σ H R = ta σ H fun x H1 => ∃ n, x = .int n ∧ R 0 n H1 := propext ⟨fun h => h, fun h => h⟩
def rRev : V → List V → Hp → VK → Prop := rReverse
def RevK (a : Addr) (H : Hp) (G : Hp → Prop) : Prop := ∃ xs, H a = some (.lst xs) ∧ G (upd H a (.lst xs.reverse))
theorem x_rev {a : Addr} : rReverse (.ref a) [] H Q ↔ RevK a H fun H1 => Q .non H1 := ⟨fun ⟨_, xs, e, _, h, q⟩ => by cases e; exact ⟨xs, h, q⟩, fun ⟨xs, h, q⟩ => ⟨a, xs, rfl, rfl, h, q⟩⟩
theorem RevK.of {a : Addr} {xs : List V} {G : Hp → Prop} (L : Led B H l) (h : (a, HO.lst xs) ∈ l) (t : Put l a (.lst xs.reverse) l') (k : ∀ H1, Led B H1 l' → G H1) : RevK a H G := ⟨xs, L.at h, k _ (L.put t)⟩
theorem s_augS {to ti te : TE} {tget : V → V → Hp → VK → Prop} {tip : TIp} {tset : TSet} : tAugS to ti te tget tip tset D σ H = to σ H fun o H1 => ti σ H1 fun i H2 => tget o i H2 fun x H3 => te σ H3 fun y H4 => tip x y H4 fun z H5 => tset o i z H5 fun H6 => D.nx σ H6 := propext ⟨fun h => h, fun h => h⟩
theorem x_ip {g : Int → Int → Int} {i j : Int} : ipI g (.int i) (.int j) H Q ↔ Q (.int (g i j)) H := ⟨fun ⟨_, _, e1, e2, q⟩ => by cases e1; cases e2; exact q, fun q => ⟨i, j, rfl, rfl, q⟩⟩
theorem i_rng3 {al : TA} {R : It → Hp → Prop} : iRng3 al σ H R = al σ H fun vs H1 => ∃ (i j c : Int) (n : Nat), vs = [.int i, .int j, .int c] ∧ RgC i j c n ∧ R (Itc i c n) H1 := propext ⟨fun h => h, fun h => h⟩
end
theorem pget_list {X : Cx} : PGet X (rIxL X.K) := by
  intro pins s σ H x y v u Q I rx ry h
  obtain ⟨p, xs, i, z, rfl, rfl, hq, he, q⟩ := h
  cases rx
  obtain ⟨t, rfl⟩ := ry
  obtain ⟨its, r, pl, hz⟩ := I.list hq
  obtain ⟨j, h1, h2, h3, h4, h5⟩ := atI_get he
  obtain ⟨w, ew, rw'⟩ := r.get h2
  have hl := r.length
  have hn := line63
  have fin : EP X pins σ Q w s := ⟨z, H, I, rw', q⟩
  by_cases h0 : 0 ≤ i
  · have hj : i.toNat = j := by
      have h1' := h1
      rw [seqIndex_of h0 h5] at h1'
      exact Option.some.inj h1'
    exact wpAny_getItem_list pl.isList h0 (by omega) (by rw [hj]; simpa using ew) fin
  · have hj : (i + (its.toArray.size : Int)).toNat = j := by
      have h1' := h1
      rw [seqIndex_neg (by omega) h4] at h1'
      rw [List.size_toArray, ← hl]
      exact Option.some.inj h1'
    exact wpAny_getItem_list_neg pl.isList (by omega) (by rw [List.size_toArray] <;> omega) (by omega) (by rw [hj]; simpa using ew) fin
/-! ### loops, kept whole -/
section
variable {K : PySem.W.Frag} {g : TG} {tb : TS} {D : Ends} {σ : L2.St} {H : Hp} {a : Addr} {xs : List V} {lo : Int} {n : Nat}
theorem loop_list (Pv : Nat → L2.St → Hp → Prop) (h0 : Pv 0 σ H) (hl : ∀ i σ H, i ≤ xs.length → Pv i σ H → SqL K H a xs)
    (hs : ∀ i x σ H (N : L2.St → Hp → Prop), xs[i]? = some x → Pv i σ H → (∀ σ' H', Pv (i + 1) σ' H' → N σ' H') → g x σ H fun σ2 H2 => tb { D with nx := N, ct := N, bk := D.nx } σ2 H2) (hd : ∀ σ H, Pv xs.length σ H → D.nx σ H) : LoopK (Itl K a) g tb D σ H :=
  for_list Pv h0 hl (fun i x σ H e p => hs i x σ H _ e p fun _ _ z => z) hd
theorem loop_tup (Pv : Nat → L2.St → Hp → Prop) (h0 : Pv 0 σ H) (hl : ∀ i σ H, i ≤ xs.length → Pv i σ H → SqT K H a xs)
    (hs : ∀ i x σ H (N : L2.St → Hp → Prop), xs[i]? = some x → Pv i σ H → (∀ σ' H', Pv (i + 1) σ' H' → N σ' H') → g x σ H fun σ2 H2 => tb { D with nx := N, ct := N, bk := D.nx } σ2 H2) (hd : ∀ σ H, Pv xs.length σ H → D.nx σ H) : LoopK (Itt K a) g tb D σ H :=
  for_tup Pv h0 hl (fun i x σ H e p => hs i x σ H _ e p fun _ _ z => z) hd
theorem loop_range (Pv : Nat → L2.St → Hp → Prop) (h0 : Pv 0 σ H)
    (hs : ∀ i σ H (N : L2.St → Hp → Prop), i < n → Pv i σ H → (∀ σ' H', Pv (i + 1) σ' H' → N σ' H') → g (.int (lo + i)) σ H fun σ2 H2 => tb { D with nx := N, ct := N, bk := D.nx } σ2 H2) (hd : ∀ σ H, Pv n σ H → D.nx σ H) : LoopK (Itr lo n) g tb D σ H :=
  for_range Pv h0 (fun i σ H e p => hs i σ H _ e p fun _ _ z => z) hd
theorem loop_rangeC {c : Int} (Pv : Nat → L2.St → Hp → Prop) (h0 : Pv 0 σ H)
    (hs : ∀ i σ H (N : L2.St → Hp → Prop), i < n → Pv i σ H → (∀ σ' H', Pv (i + 1) σ' H' → N σ' H') → g (.int (lo + (i : Nat) * c)) σ H fun σ2 H2 => tb { D with nx := N, ct := N, bk := D.nx } σ2 H2) (hd : ∀ σ H, Pv n σ H → D.nx σ H) : LoopK (Itc lo c n) g tb D σ H :=
  for_rangeC Pv h0 (fun i σ H e p => hs i σ H _ e p fun _ _ z => z) hd
variable {tt : TT} {te : TE} {vs : List Nat} {Q : VK}
/-- what a turn of a comprehension does, N behind it -/
def TurnK (g : TG) (tt : TT) (te : TE) (vs : List Nat) (σ : L2.St) (p : Addr) (N : Hp → Prop) (x : V) (H : Hp) : Prop :=
  g x (wipe σ vs) H fun σ2 H2 => wipe σ2 vs = wipe σ vs ∧ tt σ2 H2 fun b H3 => if b = true then te σ2 H3 fun y H4 => AppK p y H4 N else N H3
theorem comp_gen {J : It} (n : Nat) (R : Nat → Addr → List V → Hp → Prop) (h0 : ∀ p, H p = none → R 0 p [] (upd H p (.lst [])))
    (hn : ∀ p acc H', R n p acc H' → J.stop n H' ∧ Q (.ref p) H')
    (hs : ∀ i p acc H', i < n → R i p acc H' → J.go i H' ∧ ∀ x H2, J.yld i H' x H2 → TurnK g tt te vs σ p (fun H3 => ∃ acc, R (i + 1) p acc H3) x H2) : LcK J g tt te vs σ H Q := by
  intro p hp
  refine ⟨fun i m H' => m = n - i ∧ i ≤ n ∧ ∃ acc, R i p acc H', ⟨n, rfl, Nat.zero_le _, [], h0 p hp⟩, ?_⟩
  rintro i m H' ⟨rfl, hi, acc, r⟩
  by_cases c : i < n
  · obtain ⟨r1, r2⟩ := hs i p acc H' c r
    exact Or.inr ⟨r1, fun H'' => ∃ acc, R (i + 1) p acc H'', fun H'' z => ⟨n - (i + 1), by omega, rfl, c, z⟩, fun x H2 y => r2 x H2 y⟩
  · have e : i = n := by omega
    subst e
    exact Or.inl (hn p acc H' r)
/-- over a list that stands -/
theorem comp_list (R : Nat → Addr → List V → Hp → Prop) (h0 : ∀ p, H p = none → R 0 p [] (upd H p (.lst []))) (hl : ∀ i p acc H', R i p acc H' → SqL K H' a xs)
    (hn : ∀ p acc H', R xs.length p acc H' → Q (.ref p) H') (hs : ∀ i p acc H' x (N : Hp → Prop), xs[i]? = some x → R i p acc H' → (∀ acc H3, R (i + 1) p acc H3 → N H3) → TurnK g tt te vs σ p N x H') : LcK (Itl K a) g tt te vs σ H Q := by
  refine comp_gen xs.length R h0 (fun p acc H' r => ⟨⟨xs, hl _ _ _ _ r, Nat.le_refl _⟩, hn p acc H' r⟩) fun i p acc H' hi r => ?_
  refine ⟨⟨xs, xs[i], hl _ _ _ _ r, List.getElem?_eq_getElem hi⟩, ?_⟩
  rintro x H2 ⟨rfl, hx⟩
  exact hs i p acc _ x _ (hx xs (hl _ _ _ _ r)) r fun acc H3 z => ⟨acc, z⟩
theorem comp_tup (R : Nat → Addr → List V → Hp → Prop) (h0 : ∀ p, H p = none → R 0 p [] (upd H p (.lst []))) (hl : ∀ i p acc H', R i p acc H' → SqT K H' a xs)
    (hn : ∀ p acc H', R xs.length p acc H' → Q (.ref p) H') (hs : ∀ i p acc H' x (N : Hp → Prop), xs[i]? = some x → R i p acc H' → (∀ acc H3, R (i + 1) p acc H3 → N H3) → TurnK g tt te vs σ p N x H') : LcK (Itt K a) g tt te vs σ H Q := by
  refine comp_gen xs.length R h0 (fun p acc H' r => ⟨⟨xs, hl _ _ _ _ r, Nat.le_refl _⟩, hn p acc H' r⟩) fun i p acc H' hi r => ?_
  refine ⟨⟨xs, xs[i], hl _ _ _ _ r, List.getElem?_eq_getElem hi⟩, ?_⟩
  rintro x H2 ⟨rfl, hx⟩
  exact hs i p acc _ x _ (hx xs (hl _ _ _ _ r)) r fun acc H3 z => ⟨acc, z⟩
theorem comp_range (R : Nat → Addr → List V → Hp → Prop) (h0 : ∀ p, H p = none → R 0 p [] (upd H p (.lst [])))
    (hn : ∀ p acc H', R n p acc H' → Q (.ref p) H') (hs : ∀ i p acc H' (N : Hp → Prop), i < n → R i p acc H' → (∀ acc H3, R (i + 1) p acc H3 → N H3) → TurnK g tt te vs σ p N (.int (lo + i)) H') : LcK (Itr lo n) g tt te vs σ H Q := by
  refine comp_gen n R h0 (fun p acc H' r => ⟨Nat.le_refl _, hn p acc H' r⟩) fun i p acc H' hi r => ⟨hi, ?_⟩
  rintro x H2 ⟨rfl, rfl⟩
  exact hs i p acc _ _ hi r fun acc H3 z => ⟨acc, z⟩
/-- over enumerate of a list that stands -/
theorem comp_enum (R : Nat → Addr → List V → Hp → Prop) (h0 : ∀ p, H p = none → R 0 p [] (upd H p (.lst []))) (hl : ∀ i p acc H', R i p acc H' → SqL K H' a xs)
    (hn : ∀ p acc H', R xs.length p acc H' → Q (.ref p) H')
    (hs : ∀ i p acc H' x (N : Hp → Prop), xs[i]? = some x → R i p acc H' → (∀ acc H3, R (i + 1) p acc H3 → N H3) → NewK (.tup [.int (i : Nat), x]) H' fun t H2 => TurnK g tt te vs σ p N (.ref t) H2) : LcK (Ite K a) g tt te vs σ H Q := by
  refine comp_gen xs.length R h0 (fun p acc H' r => ⟨⟨xs, hl _ _ _ _ r, Nat.le_refl _⟩, hn p acc H' r⟩) fun i p acc H' hi r => ?_
  refine ⟨⟨xs, xs[i], hl _ _ _ _ r, List.getElem?_eq_getElem hi⟩, ?_⟩
  rintro v H2 ⟨t, x, rfl, ht, rfl, hx⟩
  exact hs i p acc _ x _ (hx xs (hl _ _ _ _ r)) r (fun acc H3 z => ⟨acc, z⟩) t ht
end

/-! ### small facts -/
theorem NeD.of {K : PySem.W.Frag} {H : Hp} {x y : V} {d e : PyData} {Q : VK} (h1 : Dp K H x d) (h2 : Dp K H y e) (s1 : SeqAt.shaped d = true) (s2 : SeqAt.shaped e = true) (q : Q (.bl (!PyData.eqv d e)) H) : rNeD K x y H Q := ⟨d, e, h1, h2, s1, s2, q⟩
theorem EqD.of {K : PySem.W.Frag} {H : Hp} {x y : V} {d e : PyData} {Q : VK} (h1 : Dp K H x d) (h2 : Dp K H y e) (s1 : SeqAt.shaped d = true) (s2 : SeqAt.shaped e = true) (q : Q (.bl (PyData.eqv d e)) H) : rEqD K x y H Q := ⟨d, e, h1, h2, s1, s2, q⟩
theorem RepK.of {K : PySem.W.Frag} {H : Hp} {x : V} {d : PyData} {n k : Nat} {G : Str → Prop} (h : Dp K H x d) (w : Shw n k d) (h1 : n ≤ 16000000) (h2 : k ≤ 60) (q : G d.shown) : RepK K x H G := ⟨d, h, w.up h1 h2, q⟩
theorem RepK.int {K : PySem.W.Frag} {H : Hp} {i : Int} {G : Str → Prop} (k : Nat) (h : i.natAbs < 2 ^ k) (q : G (PyData.int i).shown) (h0 : 0 < k := by decide) (h1 : k ≤ 1920 := by decide) : RepK K (.int i) H G := RepK.of (Dp.int i) (Shw.int h0 h1 h) (by omega) (by decide) q
theorem RepK.bl {K : PySem.W.Frag} {H : Hp} {b : Bool} {G : Str → Prop} (q : G (PyData.bool b).shown) : RepK K (.bl b) H G := RepK.of (Dp.bl b) (Shw.bl b) (by decide) (by decide) q
theorem canLayAll_all : ∀ ds : List PyData, (∀ d ∈ ds, d.canLay0 = true) → PyData.canLayAll0 ds = true
  | [], _ => rfl
  | d :: r, h => by
    rw [PyData.canLayAll0, h d List.mem_cons_self, canLayAll_all r fun e he => h e (List.mem_cons_of_mem _ he)]; rfl
/-- data that == takes -/
structure Eqd (k : Nat) (d : PyData) : Prop where
  c : d.canLay0 = true
  p : d.depth ≤ k
theorem Eqd.lst {k : Nat} {ds : List PyData} (h : ∀ d ∈ ds, Eqd k d) : Eqd (k + 1) (.list ds) := ⟨by rw [PyData.canLay0]; exact canLayAll_all ds fun d hd => (h d hd).c, by
  simp only [PyData.depth]
  have := depthAll_le ds fun d hd => (h d hd).p
  omega⟩
theorem Eqd.tup {k : Nat} {ds : List PyData} (h : ∀ d ∈ ds, Eqd k d) : Eqd (k + 1) (.tuple ds) := ⟨by rw [PyData.canLay0]; exact canLayAll_all ds fun d hd => (h d hd).c, by
  simp only [PyData.depth]
  have := depthAll_le ds fun d hd => (h d hd).p
  omega⟩
theorem Eqd.int (i : Int) : Eqd 1 (.int i) := ⟨by rw [PyData.canLay0], by simp [PyData.depth]⟩
theorem Eqd.str (i : Str) (h : PyData.strOk i = true) : Eqd 1 (.str i) := ⟨by rw [PyData.canLay0]; exact h, by simp [PyData.depth]⟩
theorem Eqd.bl (i : Bool) : Eqd 1 (.bool i) := ⟨by rw [PyData.canLay0], by simp [PyData.depth]⟩
theorem Eqd.non : Eqd 1 .none := ⟨by rw [PyData.canLay0], by simp [PyData.depth]⟩
theorem Eqd.sh {k : Nat} {d : PyData} (h : Eqd k d) (hk : k ≤ 64) : SeqAt.shaped d = true := by
  unfold SeqAt.shaped
  rw [h.c, Bool.true_and]
  exact decide_eq_true (Nat.le_trans h.p hk)
theorem eqv_nil (ds : List PyData) : PyData.eqv (.list ds) (.list []) = ds.isEmpty := by
  cases ds with
  | nil => exact rfl
  | cons d r => exact rfl
theorem EqD.nil {K : PySem.W.Frag} {H : Hp} {a b : Addr} {xs : List V} {ds : List PyData} {Q : VK} {k : Nat} (h : SqL K H a xs) (e : DpAll K H xs ds) (g : ∀ d ∈ ds, Eqd k d) (hk : k ≤ 60) (h2 : SqL K H b []) (q : Q (.bl ds.isEmpty) H) : rEqD K (.ref a) (.ref b) H Q :=
  EqD.of (.lst h e) (.lst h2 .nil) ((Eqd.lst g).sh (by omega)) ((Eqd.lst (k := 1) (ds := []) (fun _ z => (List.not_mem_nil z).elim)).sh (by decide)) (by rw [eqv_nil]; exact q)
theorem NeD.nil {K : PySem.W.Frag} {H : Hp} {a b : Addr} {xs : List V} {ds : List PyData} {Q : VK} {k : Nat} (h : SqL K H a xs) (e : DpAll K H xs ds) (g : ∀ d ∈ ds, Eqd k d) (hk : k ≤ 60) (h2 : SqL K H b []) (q : Q (.bl (!ds.isEmpty)) H) : rNeD K (.ref a) (.ref b) H Q :=
  NeD.of (.lst h e) (.lst h2 .nil) ((Eqd.lst g).sh (by omega)) ((Eqd.lst (k := 1) (ds := []) (fun _ z => (List.not_mem_nil z).elim)).sh (by decide)) (by rw [eqv_nil]; exact q)
theorem tyL {K : PySem.W.Frag} {H : Hp} {p : Addr} {xs : List V} (h : SqL K H p xs) : tyV K "list" (.ref p) H := Or.inl ⟨rfl, _, h⟩
theorem tri_even (t : Int) : t * (t + 1) % 2 = 0 := by
  rw [Int.mul_emod]
  have h : t % 2 = 0 ∨ t % 2 = 1 := by omega
  rcases h with h | h
  · rw [h, Int.zero_mul]; rfl
  · have e : (t + 1) % 2 = 0 := by omega
    rw [e, Int.mul_zero]; rfl
theorem eqv_refl_nil : PyData.eqv (.list []) (.list []) = true := by first | rfl | simp [PyData.eqv, PyData.eqvAll] | decide +kernel
theorem sc_ii {i j : Int} : scal (.int i) (.int j) = true ↔ True := iff_true_intro rfl
theorem sc_ss {i j : Str} : scal (.str i) (.str j) = true ↔ True := iff_true_intro rfl
theorem sc_bb {i j : Bool} : scal (.bl i) (.bl j) = true ↔ True := iff_true_intro rfl
theorem sc_nn : scal .non .non = true ↔ True := iff_true_intro rfl
theorem sc_ns {j : Str} : scal .non (.str j) = true ↔ True := iff_true_intro rfl
theorem sc_sn {j : Str} : scal (.str j) .non = true ↔ True := iff_true_intro rfl
theorem sc_ni {j : Int} : scal .non (.int j) = true ↔ True := iff_true_intro rfl
theorem sc_in {j : Int} : scal (.int j) .non = true ↔ True := iff_true_intro rfl
theorem tri (t : Int) : (t + 1) * (t + 1 + 1) / 2 = t * (t + 1) / 2 + (t + 1) := by
  have e : (t + 1) * (t + 1 + 1) = t * (t + 1) + 2 * (t + 1) := by
    rw [Int.mul_add (t + 1) (t + 1) 1, Int.add_mul t 1 (t + 1)]
    omega
  rw [e]
  omega
theorem atI_in {α : Type} {xs : List α} {i : Int} (h0 : 0 ≤ i) (h : i < xs.length) : atI xs i = some (xs[i.toNat]'(by omega)) := by
  unfold atI ixN
  rw [if_pos h0, if_pos h]
  show xs[i.toNat]? = _
  exact List.getElem?_eq_getElem _
theorem atI_map {ns : List Int} {i : Int} (h0 : 0 ≤ i) (h : i < ns.length) : ∃ n, n ∈ ns ∧ atI (ns.map V.int) i = some (.int n) := by
  have h2 : i < ((ns.map V.int).length : Nat) := by rw [List.length_map]; exact h
  refine ⟨ns[i.toNat]'(by omega), List.getElem_mem _, ?_⟩
  rw [atI_in h0 h2, List.getElem_map]
theorem two_pow (n : Nat) : (2 : Int) ^ n = ((2 ^ n : Nat) : Int) := by
  rw [Int.natCast_pow]; rfl
theorem abs_lt {i : Int} {n : Nat} (h0 : 0 ≤ i) (h : i < 2 ^ n) : i.natAbs < 2 ^ n := by
  rw [two_pow] at h
  omega
theorem pow_bits {i : Int} {n m : Nat} (hn : 0 < n) (h0 : 0 ≤ i) (h : i < 2 ^ n) (hm : n * m ≤ 2 ^ 27) : 0 ≤ (m : Int) ∧ (Builtin.Int.intBits i : Int) * (m : Int) ≤ 2 ^ 27 := by
  have h2 := bits_le hn (abs_lt h0 h)
  refine ⟨by omega, ?_⟩
  have h3 : Builtin.Int.intBits i * m ≤ 2 ^ 27 := Nat.le_trans (Nat.mul_le_mul_right m h2) hm
  have h4 : ((Builtin.Int.intBits i * m : Nat) : Int) ≤ ((2 ^ 27 : Nat) : Int) := Int.ofNat_le.mpr h3
  rw [Int.natCast_mul] at h4
  exact h4
theorem mul_w {i j : Int} {n : Nat} (hn : 0 < n) (h0 : 0 ≤ i) (h : i < 2 ^ n) (h1 : 0 ≤ j) (h2 : j < 2 ^ n) (hm : n + n ≤ 1000000) : CMulW i j := wide_mul (a := n) (b := n) (abs_lt h0 h) (abs_lt h1 h2) hn hn hm
theorem div_w {i j : Int} {n : Nat} (hn : 0 < n) (h0 : 0 < j) (h : j < 2 ^ n) (hm : n ≤ 9000) : CDivW i j := wide_div h0 (b := n) (abs_lt (by omega) h) hn hm
end Vg


set_option Elab.async false
set_option linter.all false
set_option maxRecDepth 100000
set_option maxHeartbeats 2000000
namespace Vg
open PySem PySem.Spec PyProof.Rows L2

/-! ### data of any kind, dicts within -/
def keyD : Key → PyData
  | .inl i => .int i
  | .inr x => .str x
mutual
inductive Dq (K : PySem.W.Frag) (H : Hp) : V → PyData → Prop
  | non : Dq K H .non .none
  | bl (b : Bool) : Dq K H (.bl b) (.bool b)
  | int (i : Int) : Dq K H (.int i) (.int i)
  | str (x : Str) : Dq K H (.str x) (.str x)
  | lst {a : Addr} {xs : List V} {ds : List PyData} : SqL K H a xs → DqAll K H xs ds → Dq K H (.ref a) (.list ds)
  | tup {a : Addr} {xs : List V} {ds : List PyData} : SqT K H a xs → DqAll K H xs ds → Dq K H (.ref a) (.tuple ds)
  | dct {a : Addr} {kvs : List (Key × V)} {ps : List (PyData × PyData)} : H a = some (.dK kvs) → ps.map (·.1) = kvs.map (fun kv => keyD kv.1) → DqAll K H (kvs.map (·.2)) (ps.map (·.2)) → Dq K H (.ref a) (.dict ps)
inductive DqAll (K : PySem.W.Frag) (H : Hp) : List V → List PyData → Prop
  | nil : DqAll K H [] []
  | cons {v : V} {vs : List V} {d : PyData} {ds : List PyData} : Dq K H v d → DqAll K H vs ds → DqAll K H (v :: vs) (d :: ds)
end
/-- sys.modules stands -/
def SM (bs : Heap) : Prop := ∃ mm, bs.Ns sysModules mm
section
variable {X : Cx} {pins : List (Addr × Obj)} {σ : L2.St} {H : Hp} {s : Shared}
theorem SM.ne (m : SM X.base) (I : L2.Inv X pins σ H s) {a : Addr} {o : Obj} {its : Array Value} {n : Nat} (h : s.heap.get? a = some o) (hd : o.data = .seq its n) : sysModules ≠ a := by
  intro e
  obtain ⟨mm, ob, es, ep, h1, h2, _⟩ := m
  have h3 := I.bk _ _ h1
  rw [e, h] at h3
  cases h3
  rw [hd] at h2
  cases h2
theorem keys_reads {P : Program} {w : World} {h : Heap} : ∀ {es : List DictEntry} {vs : List (Key × Value)}, Pairs (mixKind P w) es vs → ReadsAll h (es.map (·.key)) (vs.map fun kv => keyD kv.1) []
  | _, _, .nil => .nil
  | _, _, .cons (e := e) (kv := kv) h1 h2 r => by
    have ih := keys_reads (h := h) r
    rcases keyIs_shape (show keyIs kv.1 e.key = true from h1) with ⟨i, t, e1, e2⟩ | ⟨x, t, e1, e2⟩
    · rw [List.map_cons, List.map_cons, e2, e1]
      exact ReadsAll.cons (Reads.int i t) ih
    · rw [List.map_cons, List.map_cons, e2, e1]
      exact ReadsAll.cons (Reads.str x t) ih
theorem vals_of_pairs {P : Program} {w : World} : ∀ {es : List DictEntry} {vs : List (Key × Value)} {kvs : List (Key × V)}, Pairs (mixKind P w) es vs → KV kvs vs → Vals (kvs.map (·.2)) (es.map (·.val)) ∧ kvs.map (fun kv => keyD kv.1) = vs.map (fun kv => keyD kv.1)
  | _, _, _, .nil, .nil => ⟨.nil, rfl⟩
  | _, _, _, .cons h1 h2 r, .cons p q => by
    obtain ⟨i1, i2⟩ := vals_of_pairs r q
    refine ⟨.cons (by show L2.RelV _ (DictEntry.val _); rw [h2]; exact p.2) i1, ?_⟩
    rw [List.map_cons, List.map_cons, i2, p.1]
theorem size_snd : ∀ ps : List (PyData × PyData), sizeOf (ps.map (·.2)) ≤ sizeOf ps
  | [] => Nat.le_refl _
  | (k, v) :: r => by
    have := size_snd r
    simp only [List.map_cons, List.cons.sizeOf_spec, Prod.mk.sizeOf_spec]
    omega
mutual
theorem Dq.reads (m : SM X.base) (I : L2.Inv X pins σ H s) : ∀ (d : PyData) (v : V) (u : Value), Dq X.K H v d → RelV v u → ∃ as, Reads s.heap u d as ∧ sysModules ∉ as
  | .none, _, _, h, r => by
    cases h
    cases r
    exact ⟨_, Reads.none, List.not_mem_nil⟩
  | .bool b, _, _, h, r => by
    cases h
    cases r
    exact ⟨_, Reads.bool b, List.not_mem_nil⟩
  | .int i, _, _, h, r => by
    cases h
    obtain ⟨t, rfl⟩ := r
    exact ⟨_, Reads.int i t, List.not_mem_nil⟩
  | .str x, _, _, h, r => by
    cases h
    obtain ⟨t, rfl⟩ := r
    exact ⟨_, Reads.str x t, List.not_mem_nil⟩
  | .list ds, _, _, h, r => by
    cases h with
    | lst hs ha =>
      cases r
      obtain ⟨its, rv, ⟨o, n, ho, hc, _, hd⟩, _⟩ := I.list hs
      obtain ⟨as, hr, hn⟩ := DqAll.reads m I ds _ its ha rv
      exact ⟨_, Reads.list ho hc hd hr, fun z => (List.mem_cons.mp z).elim (m.ne I ho hd) hn⟩
  | .tuple ds, _, _, h, r => by
    cases h with
    | tup hs ha =>
      cases r
      obtain ⟨its, rv, ⟨o, ho, hc, n, hd⟩, _⟩ := I.tuple hs
      obtain ⟨as, hr, hn⟩ := DqAll.reads m I ds _ its ha rv
      exact ⟨_, Reads.tuple ho hc hd hr, hn⟩
  | .dict ps, _, _, h, r => by
    cases h with
    | dct hd hk ha =>
      cases r
      obtain ⟨_, lo, vs, kv, o, es, ep, ho, ex, hdat, _, pr, _⟩ := I.hok _ _ hd
      obtain ⟨v1, v2⟩ := vals_of_pairs pr kv
      obtain ⟨as, hr, hn⟩ := DqAll.reads m I (ps.map (·.2)) _ _ ha v1
      have hkeys := keys_reads (h := s.heap) pr
      rw [← v2, ← hk] at hkeys
      refine ⟨_, Reads.dict ho ex.1 hdat hkeys hr, fun z => ?_⟩
      rcases List.mem_cons.mp z with z | z
      · exact (beq_eq_false_iff_ne.mp lo) z.symm
      · exact hn z
termination_by d => sizeOf d
decreasing_by
  all_goals first
  | (simp only [PyData.dict.sizeOf_spec]; have := size_snd ps; omega)
  | (simp only [PyData.list.sizeOf_spec]; omega)
  | (simp only [PyData.tuple.sizeOf_spec]; omega)
theorem DqAll.reads (m : SM X.base) (I : L2.Inv X pins σ H s) : ∀ (ds : List PyData) (vs : List V) (us : List Value), DqAll X.K H vs ds → Vals vs us → ∃ as, ReadsAll s.heap us ds as ∧ sysModules ∉ as
  | [], _, _, h, r => by
    cases h
    cases r
    exact ⟨_, ReadsAll.nil, List.not_mem_nil⟩
  | d :: ds, _, _, h, r => by
    cases h with
    | cons h1 h2 =>
      cases r with
      | cons r1 r2 =>
        obtain ⟨as, q1, n1⟩ := Dq.reads m I d _ _ h1 r1
        obtain ⟨bs, q2, n2⟩ := DqAll.reads m I ds _ _ h2 r2
        exact ⟨_, ReadsAll.cons q1 q2, fun z => (List.mem_append.mp z).elim n1 n2⟩
termination_by ds => sizeOf ds
decreasing_by all_goals (simp only [List.cons.sizeOf_spec]; omega)
end
end
mutual
theorem Dq.of {K : PySem.W.Frag} {H : Hp} : ∀ {v : V} {d : PyData}, Dp K H v d → Dq K H v d
  | _, _, .non => .non
  | _, _, .bl b => .bl b
  | _, _, .int i => .int i
  | _, _, .str x => .str x
  | _, _, .lst h a => .lst h (DqAll.of a)
  | _, _, .tup h a => .tup h (DqAll.of a)
theorem DqAll.of {K : PySem.W.Frag} {H : Hp} : ∀ {v : List V} {d : List PyData}, DpAll K H v d → DqAll K H v d
  | _, _, .nil => .nil
  | _, _, .cons h r => .cons (Dq.of h) (DqAll.of r)
end
mutual
theorem Dq.mono {K : PySem.W.Frag} {H H' : Hp} (s : Same H H') : ∀ {v : V} {d : PyData}, Dq K H v d → Dq K H' v d
  | _, _, .non => .non
  | _, _, .bl b => .bl b
  | _, _, .int i => .int i
  | _, _, .str x => .str x
  | _, _, .lst h a => .lst (s.seq h) (DqAll.mono s a)
  | _, _, .tup (a := p) (xs := xs) h a => .tup (by
      rcases h with (h | ⟨o, h⟩) | h
      · exact Or.inl (Or.inl (s _ _ h))
      · exact Or.inl (Or.inr ⟨o, s _ _ h⟩)
      · exact Or.inr h) (DqAll.mono s a)
  | _, _, .dct h k a => .dct (s _ _ h) k (DqAll.mono s a)
theorem DqAll.mono {K : PySem.W.Frag} {H H' : Hp} (s : Same H H') : ∀ {v : List V} {d : List PyData}, DqAll K H v d → DqAll K H' v d
  | _, _, .nil => .nil
  | _, _, .cons h r => .cons (Dq.mono s h) (DqAll.mono s r)
end
/-- as Shw, dicts within -/
structure Shq (n k : Nat) (d : PyData) : Prop where
  sh : d.showable = true
  dp : d.depth ≤ k
  sz : d.shown.length ≤ n
theorem Shw.q {n k : Nat} {d : PyData} (h : Shw n k d) : Shq n k d := ⟨h.sh, h.dp, h.sz⟩
theorem Shq.up {n k m j : Nat} {d : PyData} (h : Shq n k d) (h1 : n ≤ m) (h2 : k ≤ j) : Shq m j d := ⟨h.sh, Nat.le_trans h.dp h2, Nat.le_trans h.sz h1⟩
theorem Shq.lst {n k : Nat} {ds : List PyData} (h : ∀ d ∈ ds, Shq n k d) : Shq (ds.length * (n + 2) + 2) (k + 1) (.list ds) := by
  refine ⟨?_, ?_, ?_⟩
  · rw [PyData.showable]
    exact showableAll_all ds fun d hd => (h d hd).sh
  · simp only [PyData.depth]
    have := depthAll_le ds fun d hd => (h d hd).dp
    omega
  · rw [PyData.shown, shownAll_map]
    refine Nat.le_trans (listText_le _) ?_
    have := lt_one (n := n) (ds.map PyData.shown) (by
      intro t ht
      obtain ⟨d, hd, rfl⟩ := List.mem_map.mp ht
      exact (h d hd).sz)
    rw [List.length_map] at this
    omega
theorem Shq.tup {n k : Nat} {ds : List PyData} (h : ∀ d ∈ ds, Shq n k d) : Shq (ds.length * (n + 2) + 2) (k + 1) (.tuple ds) := by
  refine ⟨?_, ?_, ?_⟩
  · rw [PyData.showable]
    exact showableAll_all ds fun d hd => (h d hd).sh
  · simp only [PyData.depth]
    have := depthAll_le ds fun d hd => (h d hd).dp
    omega
  · rw [PyData.shown, shownAll_map]
    refine Nat.le_trans (fmt_text _) ?_
    have := lt_one (n := n) (ds.map PyData.shown) (by
      intro t ht
      obtain ⟨d, hd, rfl⟩ := List.mem_map.mp ht
      exact (h d hd).sz)
    rw [List.length_map] at this
    omega
/-! ### repr of these -/
def RepQ (K : PySem.W.Frag) (x : V) (H : Hp) (G : Str → Prop) : Prop := ∃ d, Dq K H x d ∧ Shq 16000000 60 d ∧ G d.shown
def rReprQ (K : PySem.W.Frag) : List V → Hp → VK → Prop := fun xs H Q => ∃ x, xs = [x] ∧ RepQ K x H fun t => Q (.str t) H
theorem x_reprQ {K : PySem.W.Frag} {x : V} {H : Hp} {Q : VK} : rReprQ K [x] H Q ↔ RepQ K x H fun t => Q (.str t) H := ⟨fun ⟨_, e, q⟩ => by cases e; exact q, fun q => ⟨x, rfl, q⟩⟩
theorem call_reprQ {X : Cx} {n : Nat} (g : X.A.guards = some []) (r : Room n X.A) (m : SM X.base) : CallR X (.builtin "repr") (rReprQ X.K) := by
  intro pins s σ H xs us Q I rv h
  obtain ⟨x, rfl, d, hd, sw, q⟩ := h
  obtain ⟨u, rfl, ru⟩ := vals1 rv
  have hz : d.shown.length ≤ sizeLine := Nat.le_trans sw.sz (by decide)
  have hu := r.units
  obtain ⟨as, rd, hno⟩ := Dq.reads m I _ _ _ hd ru
  have rest : ∀ a, u = Value.ref a → wpAny (model X.prog X.w) X.A (call (.builtin "repr") [u]) (EP X pins σ Q) X.xe s := by
    rintro a rfl
    refine repr_of_reads' rd sw.sh (fun _ => hno) g (by have := sw.dp; omega) (fun _ _ z => z) (fun h' u tk hk => ?_) hz
    exact ⟨.str _, H, I.call' (s' := { s with heap := h', toks := tk }) (ch := []) rfl (Un.kept hk) (I.hok.kept hk) I.bare (fun b z => (List.not_mem_nil z).elim), ⟨u, rfl⟩, q⟩
  cases hd with
  | non =>
    cases ru
    rw [PyData.shown] at q
    exact PySem.P.repr_of_none ⟨.str _, H, I.tok _, ⟨_, rfl⟩, q⟩
  | bl b =>
    cases ru
    rw [PyData.shown] at q
    exact PySem.P.repr_of_bool ⟨.str _, H, I.tok _, ⟨_, rfl⟩, q⟩
  | int i =>
    obtain ⟨t, rfl⟩ := ru
    have hs := sw.sh
    rw [PyData.showable] at hs
    rw [PyData.shown] at q
    exact PySem.P.repr_of_int (of_decide_eq_true hs) ⟨.str _, H, I.tok _, ⟨_, rfl⟩, q⟩
  | str y =>
    obtain ⟨t, rfl⟩ := ru
    rw [PyData.shown] at hz q
    exact PySem.P.repr_of_str ⟨.str _, H, I.tok _, ⟨_, rfl⟩, q⟩ hz
  | lst hs ha => exact rest _ ru
  | tup hs ha => exact rest _ ru
  | dct hs hk ha => exact rest _ ru
/-! ### == of two lists of other lengths; list.count of flat things -/
def LenNe (K : PySem.W.Frag) (a b : Addr) (H : Hp) : Prop := ∃ xs ys : List V, SqL K H a xs ∧ SqL K H b ys ∧ xs.length ≠ ys.length
def rEqL (K : PySem.W.Frag) : R2 := fun x y H Q => rEqD K x y H Q ∨ ∃ a b, x = .ref a ∧ y = .ref b ∧ LenNe K a b H ∧ Q (.bl false) H
theorem op_eqL {X : Cx} (hu : X.A.units + 64 < cLine) : OpR X (compareOp .Eq) (rEqL X.K) := by
  intro pins s σ H x y v u Q I rx ry h
  rcases h with h | ⟨a, b, rfl, rfl, ⟨xs, ys, h1, h2, ne⟩, q⟩
  · exact op_eqD hu pins s σ H x y v u Q I rx ry h
  · cases rx
    cases ry
    obtain ⟨i1, r1, p1, _⟩ := I.list h1
    obtain ⟨i2, r2, p2, _⟩ := I.list h2
    refine SeqAt.eq_list_lengthsAt p1.isList p2.isList ?_ (by omega) ⟨.bl _, H, I, rfl, q⟩
    rw [bne_iff_ne, List.size_toArray, List.size_toArray, ← r1.length, ← r2.length]
    exact ne
def rCnt (K : PySem.W.Frag) : V → List V → Hp → VK → Prop := fun x vs H Q => ∃ (p : Addr) (xs : List V) (y : V), x = .ref p ∧ vs = [y] ∧ SqL K H p xs ∧ flatV y = true ∧ xs.all flatV = true ∧ Q (.int (xs.countP fun z => eqV z y : Nat)) H
theorem countP_eqU {y : V} : ∀ {xs : List V} {us : List Value}, Vals xs us → xs.all flatV = true → us.countP (eqU y) = xs.countP fun z => eqV z y
  | _, _, .nil, _ => rfl
  | _, _, .cons r rr, h => by
    rw [List.all_cons, Bool.and_eq_true] at h
    rw [List.countP_cons, List.countP_cons, countP_eqU rr h.2, eqU_of r h.1]
theorem mt_count {X : Cx} : MtR X "list.count" (rCnt X.K) := by
  intro pins s σ H x xs v us Q I rx rxs h
  obtain ⟨p, zs, y, rfl, rfl, hs, fy, fz, q⟩ := h
  cases rx
  obtain ⟨u, rfl, ru⟩ := rxs.one
  obtain ⟨its, rv, ⟨⟨cls, dd, data, sl⟩, n, ho, hc, hdn, hd⟩, hlen⟩ := I.list hs
  simp only at hc hd
  subst hc hd
  refine call_meets PySem.F.slot_list_count ⟨_, ho, rfl⟩ PySem.F.entry_list_count (PySem.F.args_list_count_2 _ _)
    (SeqAt.list_countAt p its.toArray n dd sl u (eqU y)) ⟨ho, fun z hz => mem_eqAt ru fy rv fz z (by simpa using hz), ?_⟩
  refine ⟨.int (zs.countP fun z => eqV z y : Nat), H, I.tok _, ⟨s.toks, ?_⟩, q⟩
  show Value.int ((its.toArray.toList.countP (eqU y) : Nat) : Int) s.toks = _
  rw [show its.toArray.toList = its from rfl, countP_eqU rv fz]
/-! ### forms -/
theorem pe_low {X : Cx} {e : Expr} {t t' : TE} (h : PE X e t) (i : ∀ σ H Q, t' σ H Q → t σ H Q) : PE X e t' := ⟨fun pins s σ H Q I q => h.run pins s σ H Q I (i _ _ _ q)⟩
def CntK (K : PySem.W.Frag) (y : V) (p : Addr) (H : Hp) (G : Int → Prop) : Prop := ∃ xs, SqL K H p xs ∧ flatV y = true ∧ xs.all flatV = true ∧ G (xs.countP fun z => eqV z y : Nat)
def RvLK (K : PySem.W.Frag) (a : Addr) (H : Hp) (G : Addr → Hp → Prop) : Prop := ∃ xs, SqL K H a xs ∧ NewK (.lst xs.reverse) H G
def TupK (K : PySem.W.Frag) (a : Addr) (H : Hp) (G : Addr → Hp → Prop) : Prop := ∃ xs, SqL K H a xs ∧ NewK (.tup xs) H G
def rTupL (K : PySem.W.Frag) : List V → Hp → VK → Prop := fun xs H Q => ∃ p, xs = [.ref p] ∧ TupK K p H fun r H1 => Q (.ref r) H1
theorem cr_tupL {X : Cx} : CallR X (.type "tuple") (rTupL X.K) := CallR.as call_tuple_of fun _ _ _ ⟨p, e, ys, h, q⟩ => ⟨p, ys, e, Or.inl ⟨h, q⟩⟩
def tD1 (s : Str) (v : V) : TE := fun _ H Q => NewK (.dK [(.inr s, v)]) H fun p H1 => Q (.ref p) H1
section
variable {K : PySem.W.Frag} {H : Hp} {Q : VK} {σ : L2.St} {te : TE}
theorem x_cnt {p : Addr} {y : V} : rCnt K (.ref p) [y] H Q ↔ CntK K y p H fun n => Q (.int n) H := ⟨fun ⟨_, xs, _, e, e2, h, f1, f2, q⟩ => by cases e; cases e2; exact ⟨xs, h, f1, f2, q⟩, fun ⟨xs, h, f1, f2, q⟩ => ⟨p, xs, y, rfl, rfl, h, f1, f2, q⟩⟩
theorem e_revL : tRevL K te σ H Q ↔ te σ H fun x H1 => ∃ a, x = .ref a ∧ RvLK K a H1 fun p H2 => Q (.ref p) H2 := Iff.of_eq (congrArg (te σ H) (funext fun x => funext fun H1 => propext ⟨fun ⟨a, xs, e, h, q⟩ => ⟨a, e, xs, h, q⟩, fun ⟨a, e, xs, h, q⟩ => ⟨a, xs, e, h, q⟩⟩))
theorem x_tupL {p : Addr} : rTupL K [.ref p] H Q ↔ TupK K p H fun r H1 => Q (.ref r) H1 := ⟨fun ⟨_, e, q⟩ => by cases e; exact q, fun q => ⟨p, rfl, q⟩⟩
theorem e_dn : tDNewK σ H Q = NewK (.dK []) H fun p H2 => Q (.ref p) H2 := propext ⟨fun h => h, fun h => h⟩
theorem e_d1 {s : Str} {v : V} : tD1 s v σ H Q = NewK (.dK [(.inr s, v)]) H fun p H1 => Q (.ref p) H1 := propext ⟨fun h => h, fun h => h⟩
end
theorem upd_upd {H : Hp} {p : Addr} {o o' : HO} : upd (upd H p o) p o' = upd H p o' := by
  funext a
  by_cases c : a = p
  · rw [c, upd_same, upd_same]
  · rw [upd_ne c, upd_ne c, upd_ne c]
theorem pe_d1 {X : Cx} {pos : Pos} {k e : Expr} {s : Str} {v : V} (hk : PE X k (tC (.str s))) (he : PE X e (tC v)) : PE X (.Dict [some k] [e] pos) (tD1 s v) := by
  refine pe_low (pe_disp (pps_cons hk he pps_nil) rfl rfl (List.cons_ne_nil _ _) (by show 1 ≤ 15; decide)) fun σ H Q q p hp => ?_
  refine ⟨upd_same, [(.inr s, v)], rfl, (by show 1 ≤ 15; decide), ?_⟩
  have := q p hp
  rw [show mergeK [] [(Sum.inr s, v)] = [(Sum.inr s, v)] from rfl, upd_upd]
  exact this
section
variable {K : PySem.W.Frag} {H : Hp} {Q : VK}
theorem x_isI_list {x : Int} : rIs K [.int x, .ty "list"] H Q ↔ Q (.bl false) H := x_is (.base (.int x)) (fun _ => ty_int) (by decide +kernel)
theorem x_isI_str {x : Int} : rIs K [.int x, .ty "str"] H Q ↔ Q (.bl false) H := x_is (.base (.int x)) (fun _ => ty_int) (by decide +kernel)
theorem x_isI_dict {x : Int} : rIs K [.int x, .ty "dict"] H Q ↔ Q (.bl false) H := x_is (.base (.int x)) (fun _ => ty_int) (by decide +kernel)
theorem x_isI_tuple {x : Int} : rIs K [.int x, .ty "tuple"] H Q ↔ Q (.bl false) H := x_is (.base (.int x)) (fun _ => ty_int) (by decide +kernel)
theorem x_isB_list {x : Bool} : rIs K [.bl x, .ty "list"] H Q ↔ Q (.bl false) H := x_is (.base (.bl x)) (fun _ => ty_bl) (by decide +kernel)
theorem x_isB_str {x : Bool} : rIs K [.bl x, .ty "str"] H Q ↔ Q (.bl false) H := x_is (.base (.bl x)) (fun _ => ty_bl) (by decide +kernel)
theorem x_isB_dict {x : Bool} : rIs K [.bl x, .ty "dict"] H Q ↔ Q (.bl false) H := x_is (.base (.bl x)) (fun _ => ty_bl) (by decide +kernel)
theorem x_isB_tuple {x : Bool} : rIs K [.bl x, .ty "tuple"] H Q ↔ Q (.bl false) H := x_is (.base (.bl x)) (fun _ => ty_bl) (by decide +kernel)
theorem x_isN_list : rIs K [.non, .ty "list"] H Q ↔ Q (.bl false) H := x_is (.base .non) (fun _ => ty_non) (by decide +kernel)
theorem x_isN_str : rIs K [.non, .ty "str"] H Q ↔ Q (.bl false) H := x_is (.base .non) (fun _ => ty_non) (by decide +kernel)
theorem x_isN_dict : rIs K [.non, .ty "dict"] H Q ↔ Q (.bl false) H := x_is (.base .non) (fun _ => ty_non) (by decide +kernel)
theorem x_isN_tuple : rIs K [.non, .ty "tuple"] H Q ↔ Q (.bl false) H := x_is (.base .non) (fun _ => ty_non) (by decide +kernel)
theorem x_isS_list {x : Str} : rIs K [.str x, .ty "list"] H Q ↔ Q (.bl false) H := x_is (.base (.str x)) (fun _ => ty_str) (by decide +kernel)
theorem x_isS_dict {x : Str} : rIs K [.str x, .ty "dict"] H Q ↔ Q (.bl false) H := x_is (.base (.str x)) (fun _ => ty_str) (by decide +kernel)
theorem x_isS_tuple {x : Str} : rIs K [.str x, .ty "tuple"] H Q ↔ Q (.bl false) H := x_is (.base (.str x)) (fun _ => ty_str) (by decide +kernel)
theorem IsK.lstL {a : Addr} {n : String} {xs : List V} {b : Bool} {G : Bool → Prop} (h : SqL K H a xs) (k : kitB "list" n = some b) (q : G b) : IsK K a n H G := by
  rcases h with (h | ⟨o, h⟩) | ⟨o, its, m, h, hc, _⟩
  · exact ⟨_, b, .base (.lst h), k, q⟩
  · exact ⟨_, b, .base (.frz h), k, q⟩
  · exact ⟨_, b, .kList h hc, k, q⟩
theorem IsK.dK {a : Addr} {n : String} {kvs : List (Key × V)} {b : Bool} {G : Bool → Prop} (h : H a = some (.dK kvs)) (k : kitB "dict" n = some b) (q : G b) : IsK K a n H G := ⟨_, b, .base (.dK h), k, q⟩
theorem EqL0 {a b : Addr} {xs : List V} (h : SqL K H a xs) (h2 : SqL K H b []) (q : Q (.bl xs.isEmpty) H) : rEqL K (.ref a) (.ref b) H Q := by
  cases xs with
  | nil => exact Or.inl (EqD.nil (k := 1) h .nil (fun _ z => (List.not_mem_nil z).elim) (by decide) h2 q)
  | cons x r => exact Or.inr ⟨a, b, rfl, rfl, ⟨_, _, h, h2, by simp⟩, q⟩
end
/-! ### how long a list's text is -/
def Wt (ds : List PyData) : Nat := piled (ds.map PyData.shown)
theorem piled_app (a b : List Str) : piled (a ++ b) = piled a + piled b := by
  induction a with
  | nil => simp [piled]
  | cons x r ih => unfold piled at *; simp only [List.cons_append, List.map_cons, List.sum_cons] at *; omega
theorem Wt.nil : Wt [] = 0 := rfl
theorem Wt.cons (d : PyData) (ds : List PyData) : Wt (d :: ds) = d.shown.length + 2 + Wt ds := by unfold Wt piled; simp only [List.map_cons, List.sum_cons]
theorem Wt.app (a b : List PyData) : Wt (a ++ b) = Wt a + Wt b := by unfold Wt; rw [List.map_append, piled_app]
theorem Wt.take (ds : List PyData) (n : Nat) : Wt (ds.take n) ≤ Wt ds := by
  have := Wt.app (ds.take n) (ds.drop n)
  rw [List.take_append_drop] at this
  omega
theorem Wt.drop (ds : List PyData) (n : Nat) : Wt (ds.drop n) ≤ Wt ds := by
  have := Wt.app (ds.take n) (ds.drop n)
  rw [List.take_append_drop] at this
  omega
theorem Wt.rev (ds : List PyData) : Wt ds.reverse = Wt ds := by
  induction ds with
  | nil => rfl
  | cons d r ih => rw [List.reverse_cons, Wt.app, ih, Wt.cons, Wt.cons, Wt.nil]; omega
structure Shd (k : Nat) (d : PyData) : Prop where
  sh : d.showable = true
  dp : d.depth ≤ k
theorem Shd.lst {k : Nat} {ds : List PyData} (h : ∀ d ∈ ds, Shd k d) : Shq (Wt ds + 2) (k + 1) (.list ds) := by
  refine ⟨?_, ?_, ?_⟩
  · rw [PyData.showable]
    exact showableAll_all ds fun d hd => (h d hd).sh
  · simp only [PyData.depth]
    have := depthAll_le ds fun d hd => (h d hd).dp
    omega
  · rw [PyData.shown, shownAll_map]
    exact listText_le _
theorem Shd.tup {k : Nat} {ds : List PyData} (h : ∀ d ∈ ds, Shd k d) : Shq (Wt ds + 2) (k + 1) (.tuple ds) := by
  refine ⟨?_, ?_, ?_⟩
  · rw [PyData.showable]
    exact showableAll_all ds fun d hd => (h d hd).sh
  · simp only [PyData.depth]
    have := depthAll_le ds fun d hd => (h d hd).dp
    omega
  · rw [PyData.shown, shownAll_map]
    exact fmt_text _
theorem Shq.d {n k : Nat} {d : PyData} (h : Shq n k d) : Shd k d := ⟨h.sh, h.dp⟩
theorem Shd.up {k j : Nat} {d : PyData} (h : Shd k d) (h2 : k ≤ j) : Shd j d := ⟨h.sh, Nat.le_trans h.dp h2⟩
section
variable {K : PySem.W.Frag} {H : Hp}
theorem DqAll.app : ∀ {xs ys : List V} {ds es : List PyData}, DqAll K H xs ds → DqAll K H ys es → DqAll K H (xs ++ ys) (ds ++ es)
  | _, _, _, _, .nil, h => h
  | _, _, _, _, .cons h r, h2 => .cons h (DqAll.app r h2)
theorem DqAll.take : ∀ {xs : List V} {ds : List PyData} (n : Nat), DqAll K H xs ds → DqAll K H (xs.take n) (ds.take n)
  | _, _, 0, _ => .nil
  | _, _, n + 1, .nil => .nil
  | _, _, n + 1, .cons h r => .cons h (DqAll.take n r)
theorem DqAll.drop : ∀ {xs : List V} {ds : List PyData} (n : Nat), DqAll K H xs ds → DqAll K H (xs.drop n) (ds.drop n)
  | _, _, 0, h => h
  | _, _, n + 1, .nil => .nil
  | _, _, n + 1, .cons h r => DqAll.drop n r
theorem DqAll.rev : ∀ {xs : List V} {ds : List PyData}, DqAll K H xs ds → DqAll K H xs.reverse ds.reverse
  | _, _, .nil => .nil
  | _, _, .cons h r => by
    rw [List.reverse_cons, List.reverse_cons]
    exact (DqAll.rev r).app (.cons h .nil)
theorem DqAll.len : ∀ {xs : List V} {ds : List PyData}, DqAll K H xs ds → xs.length = ds.length
  | _, _, .nil => rfl
  | _, _, .cons h r => by rw [List.length_cons, List.length_cons, DqAll.len r]
theorem DqAll.at : ∀ {xs : List V} {ds : List PyData} {i : Nat} {x : V}, DqAll K H xs ds → xs[i]? = some x → ∃ d, ds[i]? = some d ∧ Dq K H x d
  | _, _, 0, _, .cons h r, e => by cases e; exact ⟨_, rfl, h⟩
  | _, _, i + 1, _, .cons h r, e => DqAll.at (i := i) r e
end
/-- all that is owned goes to the base -/
theorem Led.sinkAll {H : Hp} : ∀ {l : List (Addr × HO)} {B : Hp}, Led B H l → ∃ B', Same B B' ∧ (∀ e ∈ l, B' e.1 = some e.2) ∧ Led B' H []
  | [], B, L => ⟨B, Same.refl B, fun e he => (List.not_mem_nil he).elim, L⟩
  | (p, o) :: l, B, L => by
    obtain ⟨B1, s1, h1, L1⟩ := L.sink
    obtain ⟨B2, s2, h2, L2⟩ := Led.sinkAll L1
    refine ⟨B2, s1.trans s2, fun e he => ?_, L2⟩
    rcases List.mem_cons.mp he with z | z
    · rw [z]; exact s2 _ _ h1
    · exact h2 e z
/-! ### lists whose text is short -/
def DW (K : PySem.W.Frag) (H : Hp) (m W k : Nat) (xs : List V) : Prop := ∃ ds, DqAll K H xs ds ∧ Wt ds ≤ W ∧ (∀ d ∈ ds, Shd k d) ∧ xs.length ≤ m
section
variable {K : PySem.W.Frag} {H H' : Hp} {m W k m2 W2 k2 : Nat} {xs ys : List V}
theorem DW.mono (s : Same H H') (h : DW K H m W k xs) : DW K H' m W k xs := by
  obtain ⟨ds, h1, h2⟩ := h
  exact ⟨ds, h1.mono s, h2⟩
theorem DW.up (h : DW K H m W k xs) (h1 : m ≤ m2) (h2 : W ≤ W2) (h3 : k ≤ k2) : DW K H m2 W2 k2 xs := by
  obtain ⟨ds, q1, q2, q3, q4⟩ := h
  exact ⟨ds, q1, by omega, fun d hd => (q3 d hd).up h3, by omega⟩
theorem DW.nil : DW K H 0 0 k [] := ⟨[], .nil, Nat.le_refl _, fun d hd => (List.not_mem_nil hd).elim, Nat.le_refl _⟩
theorem DW.one {v : V} {d : PyData} {n : Nat} (h : Dq K H v d) (w : Shq n k d) : DW K H 1 (n + 2) k [v] :=
  ⟨[d], .cons h .nil, by rw [Wt.cons, Wt.nil]; have := w.sz; omega, fun e he => by rw [List.mem_singleton.mp he]; exact w.d, Nat.le_refl _⟩
theorem DW.app (h : DW K H m W k xs) (h2 : DW K H m2 W2 k ys) : DW K H (m + m2) (W + W2) k (xs ++ ys) := by
  obtain ⟨ds, q1, q2, q3, q4⟩ := h
  obtain ⟨es, r1, r2, r3, r4⟩ := h2
  exact ⟨ds ++ es, q1.app r1, by rw [Wt.app]; omega, fun d hd => (List.mem_append.mp hd).elim (q3 d) (r3 d), by rw [List.length_append]; omega⟩
theorem DW.rev (h : DW K H m W k xs) : DW K H m W k xs.reverse := by
  obtain ⟨ds, q1, q2, q3, q4⟩ := h
  exact ⟨ds.reverse, q1.rev, by rw [Wt.rev]; exact q2, fun d hd => q3 d (List.mem_reverse.mp hd), by rw [List.length_reverse]; exact q4⟩
theorem DW.cut {lo hi : Option Int} (h : DW K H m W k xs) : DW K H m W k (cutV xs lo hi) := by
  obtain ⟨ds, q1, q2, q3, q4⟩ := h
  unfold cutV
  refine ⟨_, (q1.drop _).take _, Nat.le_trans (Wt.take _ _) (Nat.le_trans (Wt.drop _ _) q2), fun d hd => q3 d (List.mem_of_mem_drop (List.mem_of_mem_take hd)), ?_⟩
  rw [List.length_take, List.length_drop]
  omega
theorem DW.at {i : Nat} {x : V} (h : DW K H m W k xs) (e : xs[i]? = some x) : ∃ d, Dq K H x d ∧ Shq W k d := by
  obtain ⟨ds, q1, q2, q3, q4⟩ := h
  obtain ⟨d, hd, r⟩ := q1.at e
  have hm := List.mem_of_getElem? hd
  refine ⟨d, r, (q3 d hm).sh, (q3 d hm).dp, ?_⟩
  have : ∀ es : List PyData, d ∈ es → d.shown.length ≤ Wt es := by
    intro es he
    induction es with
    | nil => cases he
    | cons e r ih =>
      rw [Wt.cons]
      rcases List.mem_cons.mp he with z | z
      · rw [z]; omega
      · have := ih z; omega
  exact Nat.le_trans (this ds hm) q2
theorem DW.lst {p : Addr} (h : DW K H m W k xs) (hp : SqL K H p xs) : ∃ d, Dq K H (.ref p) d ∧ Shq (W + 2) (k + 1) d := by
  obtain ⟨ds, q1, q2, q3, q4⟩ := h
  exact ⟨_, .lst hp q1, (Shd.lst q3).up (by omega) (Nat.le_refl _)⟩
theorem DW.tup {p : Addr} (h : DW K H m W k xs) (hp : SqT K H p xs) : ∃ d, Dq K H (.ref p) d ∧ Shq (W + 2) (k + 1) d := by
  obtain ⟨ds, q1, q2, q3, q4⟩ := h
  exact ⟨_, .tup hp q1, (Shd.tup q3).up (by omega) (Nat.le_refl _)⟩
def isS : V → Bool
  | .str _ => true
  | _ => false
theorem Dq.isStr {v : V} {d : PyData} {Q : VK} (h : Dq K H v d) (q : Q (.bl (isS v)) H) : rIs K [v, .ty "str"] H Q := by
  cases h with
  | non => exact x_isN_str.mpr q
  | bl b => exact x_isB_str.mpr q
  | int i => exact x_isI_str.mpr q
  | str s => exact x_is_ib.mpr q
  | lst h _ => exact x_isR.mpr (IsK.lstL h (show kitB _ "str" = some false by decide +kernel) q)
  | tup h _ =>
    rcases h with (h | ⟨o, h⟩) | ⟨o, its, n, h, hc, _⟩
    · exact x_isR.mpr ⟨_, _, .base (.tup h), (show kitB _ "str" = some false by decide +kernel), q⟩
    · exact x_isR.mpr ⟨_, _, .fTuple h, (show kitB _ "str" = some false by decide +kernel), q⟩
    · exact x_isR.mpr ⟨_, _, .kTuple h hc, (show kitB _ "str" = some false by decide +kernel), q⟩
  | dct h _ _ => exact x_isR.mpr (IsK.dK h (show kitB _ "str" = some false by decide +kernel) q)
end
/-! ### dict(pairs), str(n), int(flag) -/
def DctK (K : PySem.W.Frag) (a : Addr) (H : Hp) (G : Addr → Hp → Prop) : Prop := ∃ ps kvs, SqL K H a (List.map V.ref ps) ∧ Paired (fun p (kv : Key × V) => SqT K H p [kV kv.1, kv.2]) ps kvs ∧ NewK (.dK (mergeK [] kvs)) H G
def rDctP (K : PySem.W.Frag) : List V → Hp → VK → Prop := fun xs H Q => ∃ a, xs = [.ref a] ∧ DctK K a H fun p H1 => Q (.ref p) H1
theorem cr_dctP {X : Cx} (hc : X.calm = true) : CallR X (.type "dict") (rDctP X.K) := CallR.as (call_dictP hc) fun _ _ _ ⟨a, e, ps, kvs, h1, h2, q⟩ => ⟨a, ps, kvs, e, h1, h2, q⟩
def rStrI : List V → Hp → VK → Prop := fun xs H Q => ∃ i : Int, xs = [.int i] ∧ i.natAbs.log2 < 1920 ∧ Q (.str (Str.ofString (toString i))) H
theorem cr_strI {X : Cx} : CallR X (.type "str") rStrI := call_str_int
def rIntB : List V → Hp → VK → Prop := fun xs H Q => ∃ k, xs = [.bl k] ∧ Q (.int (if k = true then 1 else 0)) H
theorem cr_intB {X : Cx} : CallR X (.type "int") rIntB := CallR.as call_int1 fun _ _ _ h => Or.inr h
section
variable {K : PySem.W.Frag} {H : Hp} {Q : VK}
theorem x_dctP {a : Addr} : rDctP K [.ref a] H Q ↔ DctK K a H fun p H1 => Q (.ref p) H1 := ⟨fun ⟨_, e, q⟩ => by cases e; exact q, fun q => ⟨a, rfl, q⟩⟩
theorem x_strI {i : Int} : rStrI [.int i] H Q ↔ i.natAbs.log2 < 1920 ∧ Q (.str (Str.ofString (toString i))) H := ⟨fun ⟨_, e, h, q⟩ => by cases e; exact ⟨h, q⟩, fun ⟨h, q⟩ => ⟨i, rfl, h, q⟩⟩
theorem x_intB {k : Bool} : rIntB [.bl k] H Q ↔ Q (.int (if k = true then 1 else 0)) H := ⟨fun ⟨_, e, q⟩ => by cases e; exact q, fun q => ⟨k, rfl, q⟩⟩
end
def KinK (H : Hp) (a : Addr) (y : V) (G : Bool → Prop) : Prop := ∃ o, DGet H a y o ∧ G o.isSome
section
variable {H : Hp} {Q : VK} {σ : L2.St} {ty td : TE}
theorem e_din : tDIn ty td σ H Q ↔ ty σ H fun y H1 => td σ H1 fun x H2 => ∃ a, x = .ref a ∧ KinK H2 a y fun b => Q (.bl b) H2 := ⟨fun h => (iff_of_eq (congrArg (ty σ H) (funext fun y => funext fun H1 => congrArg (td σ H1) (funext fun x => funext fun H2 => propext ⟨fun ⟨a, o, e, d, q⟩ => ⟨a, e, o, d, q⟩, fun ⟨a, e, o, d, q⟩ => ⟨a, o, e, d, q⟩⟩)))).mp h, fun h => (iff_of_eq (congrArg (ty σ H) (funext fun y => funext fun H1 => congrArg (td σ H1) (funext fun x => funext fun H2 => propext ⟨fun ⟨a, o, e, d, q⟩ => ⟨a, e, o, d, q⟩, fun ⟨a, e, o, d, q⟩ => ⟨a, o, e, d, q⟩⟩)))).mpr h⟩
theorem e_dnin : tDNotIn ty td σ H Q ↔ ty σ H fun y H1 => td σ H1 fun x H2 => ∃ a, x = .ref a ∧ KinK H2 a y fun b => Q (.bl !b) H2 := ⟨fun h => (iff_of_eq (congrArg (ty σ H) (funext fun y => funext fun H1 => congrArg (td σ H1) (funext fun x => funext fun H2 => propext ⟨fun ⟨a, o, e, d, q⟩ => ⟨a, e, o, d, q⟩, fun ⟨a, e, o, d, q⟩ => ⟨a, o, e, d, q⟩⟩)))).mp h, fun h => (iff_of_eq (congrArg (ty σ H) (funext fun y => funext fun H1 => congrArg (td σ H1) (funext fun x => funext fun H2 => propext ⟨fun ⟨a, o, e, d, q⟩ => ⟨a, e, o, d, q⟩, fun ⟨a, e, o, d, q⟩ => ⟨a, o, e, d, q⟩⟩)))).mpr h⟩
end
theorem KinK.str {H : Hp} {a : Addr} {s : Str} {kvs : List (Key × V)} {G : Bool → Prop} (h : H a = some (.dK kvs)) (q : G (valV kvs (Sum.inr s)).isSome) : KinK H a (.str s) G := ⟨_, DGet.k (k := Sum.inr s) h, q⟩
end Vg


set_option Elab.async false
set_option linter.all false
set_option maxRecDepth 100000
set_option maxHeartbeats 2000000
namespace Vg
open PySem PySem.Spec PyProof.Rows L2

/-! ### dicts: d[k], d[k] = v, k in d -/
def DGetK (H : Hp) (a : Addr) (y : V) (G : V → Prop) : Prop := ∃ v, DGet H a y (some v) ∧ G v
def DPutK (H : Hp) (a : Addr) (y v : V) (G : Hp → Prop) : Prop := ∃ H4, DPut H a y v H4 ∧ G H4
/-- an entry of the ledger is replaced, wherever it stands -/
def putL (l : List (Addr × HO)) (p : Addr) (o : HO) : List (Addr × HO) := l.map fun e => if e.1 = p then (p, o) else e
section
variable {K : PySem.W.Frag} {B H : Hp} {l l' : List (Addr × HO)} {p : Addr} {o o' : HO} {σ : L2.St} {Q : VK} {D : Ends} {td ty tv tx : TE}
theorem e_dget : tDGet td ty σ H Q = td σ H fun x H1 => ty σ H1 fun y H2 => ∃ a, x = .ref a ∧ DGetK H2 a y fun v => Q v H2 :=
  congrArg (td σ H) (funext fun x => funext fun H1 => congrArg (ty σ H1) (funext fun y => funext fun H2 => propext ⟨fun ⟨a, v, e, h, q⟩ => ⟨a, e, v, h, q⟩, fun ⟨a, e, v, h, q⟩ => ⟨a, v, e, h, q⟩⟩))
theorem e_dget2 : tDGet2 td ty tx σ H Q = td σ H fun x H1 => ∃ a, x = .ref a ∧ IsD H1 a ∧ ty σ H1 fun y H2 => tx σ H2 fun z H3 => ∃ o, DGet H3 a y o ∧ Q (o.getD z) H3 := propext ⟨fun h => h, fun h => h⟩
theorem s_dput : sDPut td ty tv D σ H = tv σ H fun v H1 => td σ H1 fun x H2 => ty σ H2 fun y H3 => ∃ a, x = .ref a ∧ DPutK H3 a y v fun H4 => D.nx σ H4 :=
  congrArg (tv σ H) (funext fun v => funext fun H1 => congrArg (td σ H1) (funext fun x => funext fun H2 => congrArg (ty σ H2) (funext fun y => funext fun H3 => propext ⟨fun ⟨a, H4, e, h, q⟩ => ⟨a, e, H4, h, q⟩, fun ⟨a, e, H4, h, q⟩ => ⟨a, H4, e, h, q⟩⟩)))
theorem e_dnT : tDNewT σ H Q = NewK (.dT []) H fun p H2 => Q (.ref p) H2 := propext ⟨fun h => h, fun h => h⟩
theorem putL_not (h : p ∉ l.map (·.1)) : putL l p o = l := by
  induction l with
  | nil => rfl
  | cons e r ih =>
    rw [List.map_cons, List.mem_cons, not_or] at h
    show (if e.1 = p then (p, o) else e) :: putL r p o = _
    rw [ih h.2, if_neg fun z => h.1 z.symm]
theorem putL_app (a b : List (Addr × HO)) : putL (a ++ b) p o = putL a p o ++ putL b p o := List.map_append
theorem putL_cons (e : Addr × HO) (b : List (Addr × HO)) : putL (e :: b) p o = (if e.1 = p then (p, o) else e) :: putL b p o := rfl
theorem putL_put (nd : (l.map (·.1)).Nodup) (h : (p, o) ∈ l) : Put l p o' (putL l p o') := by
  induction l with
  | nil => cases h
  | cons e r ih =>
    rw [List.map_cons] at nd
    obtain ⟨n1, n2⟩ := List.nodup_cons.mp nd
    rw [putL_cons]
    rcases List.mem_cons.mp h with z | z
    · rw [← z]
      dsimp only
      rw [if_pos rfl, putL_not (by rw [← z] at n1; exact n1)]
      exact .hd
    · rw [if_neg fun c => n1 (by rw [c]; exact List.mem_map_of_mem (f := (·.1)) z)]
      exact .tl (ih n2 z)
theorem putL_same (nd : (l.map (·.1)).Nodup) (h : (p, o) ∈ l) : putL l p o = l := by
  induction l with
  | nil => rfl
  | cons e r ih =>
    rw [List.map_cons] at nd
    obtain ⟨n1, n2⟩ := List.nodup_cons.mp nd
    rw [putL_cons]
    rcases List.mem_cons.mp h with z | z
    · rw [← z]
      dsimp only
      rw [if_pos rfl, putL_not (by rw [← z] at n1; exact n1)]
    · rw [if_neg fun c => n1 (by rw [c]; exact List.mem_map_of_mem (f := (·.1)) z), ih n2 z]
theorem Led.putL (L : Led B H l) (h : (p, o) ∈ l) : Led B (upd H p o') (putL l p o') := L.put (putL_put L.nd h)
theorem StK.ofM {C dx : Addr} {fs fs' : List (Str × V)} {f : Str} {v : V} {G : Hp → Prop} (L : Led B H l) (m : (p, HO.ins C dx fs) ∈ l) (c : Cls K C) (n : NoAttr K C f) (e : putF f v fs = fs') (k : ∀ H1, Led B H1 (Vg.putL l p (.ins C dx fs')) → G H1) (h : fs.length < 1000 := by first | decide | (simp only [List.length_cons, List.length_nil]; decide) | omega) : StK K p f v H G :=
  ⟨C, dx, fs, L.at m, c, n, h, by rw [e]; exact k _ (L.putL m)⟩
theorem DGetK.k {k : Key} {v : V} {kvs : List (Key × V)} {G : V → Prop} (L : Led B H l) (m : (p, HO.dK kvs) ∈ l) (e : valV kvs k = some v) (q : G v) : DGetK H p (kV k) G := ⟨v, by rw [← e]; exact DGet.k (L.at m), q⟩
theorem DGetK.s {k : Str} {v : V} {kvs : List (Key × V)} {G : V → Prop} (L : Led B H l) (m : (p, HO.dK kvs) ∈ l) (e : valV kvs (.inr k) = some v) (q : G v) : DGetK H p (.str k) G := DGetK.k (k := .inr k) L m e q
theorem DGetK.t {b : Addr} {k : List Key} {v : V} {kvs : List (List Key × V)} {G : V → Prop} (L : Led B H l) (m : (p, HO.dT kvs) ∈ l) (hb : H b = some (.tup (k.map kV))) (e : valV kvs k = some v) (q : G v) : DGetK H p (.ref b) G := ⟨v, by rw [← e]; exact DGet.t (L.at m) hb, q⟩
theorem DPutK.k {k : Key} {v : V} {kvs : List (Key × V)} {G : Hp → Prop} (L : Led B H l) (m : (p, HO.dK kvs) ∈ l) (hl : kvs.length < sizeLine) (t : Put l p (.dK (putK kvs k v)) l') (q : ∀ H1, Led B H1 l' → G H1) : DPutK H p (kV k) v G := ⟨_, DPut.k (L.at m) hl, q _ (L.put t)⟩
theorem DPutK.t {b : Addr} {k : List Key} {v : V} {kvs : List (List Key × V)} {G : Hp → Prop} (L : Led B H l) (m : (p, HO.dT kvs) ∈ l) (hb : H b = some (.tup (k.map kV))) (hl : kvs.length < sizeLine) (t : Put l p (.dT (putK kvs k v)) l') (q : ∀ H1, Led B H1 l' → G H1) : DPutK H p (.ref b) v G := ⟨_, DPut.t (L.at m) hb hl, q _ (L.put t)⟩
theorem KinK.t {b : Addr} {k : List Key} {kvs : List (List Key × V)} {G : Bool → Prop} (L : Led B H l) (m : (p, HO.dT kvs) ∈ l) (hb : H b = some (.tup (k.map kV))) (q : G (valV kvs k).isSome) : KinK H p (.ref b) G := ⟨_, DGet.t (L.at m) hb, q⟩
/-- an entry of the ledger goes to the base -/
theorem Led.sinkM (L : Led B H l) (h : Pick l (p, o) l') : ∃ B', Same B B' ∧ B' p = some o ∧ Led B' H l' := (L.sel (.cons h .all)).sink
end
/-! ### a display of pairs -/
def DoneK (p : Addr) (ps : List (V × V)) (H : Hp) (G : Hp → Prop) : Prop := H p = some (.dK []) ∧ ∃ kvs : List (Key × V), ps = kvs.map (fun kv => (kV kv.1, kv.2)) ∧ kvs.length ≤ 15 ∧ G (upd H p (.dK (mergeK [] kvs)))
section
variable {B H : Hp} {l l' : List (Addr × HO)} {p : Addr} {σ : L2.St} {Q : VK} {trs : List (TE × TE)} {PQ : List (V × V) → Hp → Prop} {tk tv : TE}
theorem e_disp : tDisp trs σ H Q = NewK (.dK []) H fun p H1 => tPairs trs σ H1 fun ps H2 => DoneK p ps H2 fun H3 => Q (.ref p) H3 := propext ⟨fun h => h, fun h => h⟩
theorem tp_nil : tPairs [] σ H PQ = PQ [] H := propext ⟨fun h => h, fun h => h⟩
theorem tp_cons : tPairs ((tk, tv) :: trs) σ H PQ = tk σ H fun x H1 => tv σ H1 fun y H2 => tPairs trs σ H2 fun ps H3 => PQ ((x, y) :: ps) H3 := propext ⟨fun h => h, fun h => h⟩
theorem DoneK.of {ps : List (V × V)} {G : Hp → Prop} (kvs : List (Key × V)) (L : Led B H l) (m : (p, HO.dK []) ∈ l) (e : ps = kvs.map (fun kv => (kV kv.1, kv.2))) (h15 : kvs.length ≤ 15) (t : Put l p (.dK (mergeK [] kvs)) l') (k : ∀ H1, Led B H1 l' → G H1) : DoneK p ps H G :=
  ⟨L.at m, kvs, e, h15, k _ (L.put t)⟩
theorem Led.perm (L : Led B H l) (h : l.Perm l') : Led B H l' := ⟨L.sm, (h.map (·.1)).nodup_iff.mp L.nd, fun e he => L.fr e (h.mem_iff.mpr he), fun e he => L.hs e (h.mem_iff.mpr he)⟩
end
/-! ### sorted of pairs of ints -/
def SrtPK (K : PySem.W.Frag) (a : Addr) (H : Hp) (G : Addr → Hp → Prop) : Prop := ∃ xs, SqL K H a xs ∧ (∀ x ∈ xs, ∃ t i j, x = V.ref t ∧ H t = some (.tup [.int i, .int j])) ∧ ∀ ys : List V, ys.Perm xs → NewK (.lst ys) H G
theorem x_sortedP {K : PySem.W.Frag} {a : Addr} {H : Hp} {Q : VK} : rSortedP K [.ref a] H Q ↔ SrtPK K a H fun p H1 => Q (.ref p) H1 :=
  ⟨fun ⟨_, xs, e, h1, h2, q⟩ => by cases e; exact ⟨xs, h1, h2, fun ys hp p hn => q ys p hp hn⟩, fun ⟨xs, h1, h2, q⟩ => ⟨a, xs, rfl, h1, h2, fun ys p hp hn => q ys hp p hn⟩⟩
/-! ### zip in a comprehension -/
section
variable {K : PySem.W.Frag} {g : TG} {D : Ends} {σ : L2.St} {H : Hp} {a b : Addr} {xs ys : List V} {tt : TT} {te : TE} {vs : List Nat} {Q : VK}
theorem i_zip {al : TA} {R : It → Hp → Prop} : iZip K al σ H R = al σ H fun vs H1 => ∃ a b xs ys, vs = [.ref a, .ref b] ∧ SqL K H1 a xs ∧ SqL K H1 b ys ∧ R (Itz K a b) H1 := propext ⟨fun h => h, fun h => h⟩
theorem comp_zip (hl : xs.length = ys.length) (R : Nat → Addr → List V → Hp → Prop) (h0 : ∀ p, H p = none → R 0 p [] (upd H p (.lst []))) (hq : ∀ i p acc H', R i p acc H' → SqL K H' a xs ∧ SqL K H' b ys)
    (hn : ∀ p acc H', R xs.length p acc H' → Q (.ref p) H')
    (hs : ∀ i p acc H' x y (N : Hp → Prop), xs[i]? = some x → ys[i]? = some y → R i p acc H' → (∀ acc H3, R (i + 1) p acc H3 → N H3) → NewK (.tup [x, y]) H' fun t H2 => TurnK g tt te vs σ p N (.ref t) H2) : LcK (Itz K a b) g tt te vs σ H Q := by
  refine comp_gen xs.length R h0 (fun p acc H' r => ⟨?_, hn p acc H' r⟩) fun i p acc H' hi r => ?_
  · obtain ⟨q1, q2⟩ := hq _ _ _ _ r
    exact ⟨xs, ys, q1, q2, Or.inl (Nat.le_refl _)⟩
  · obtain ⟨q1, q2⟩ := hq _ _ _ _ r
    have hi2 : i < ys.length := by omega
    refine ⟨⟨xs, ys, _, _, q1, q2, List.getElem?_eq_getElem hi, List.getElem?_eq_getElem hi2⟩, ?_⟩
    rintro v H2 ⟨T, x, y, rfl, hT, rfl, f1, f2⟩
    exact hs i p acc _ x y _ (f1 xs q1) (f2 ys q2) r (fun acc H3 z => ⟨acc, z⟩) T hT
end
end Vg


set_option Elab.async false
set_option linter.all false
set_option maxRecDepth 100000
set_option maxHeartbeats 2000000
namespace Vg
open PySem PySem.Spec PyProof.Rows L2
/-! ### math.isqrt -/
def IsRoot (n s : Nat) : Prop := s * s ≤ n ∧ n < (s + 1) * (s + 1)
theorem root8 : ∀ n, n < 8 → IsRoot n (Float64.rootBelow8 n) := by
  unfold IsRoot
  decide
theorem sq_lt {a b : Nat} (h : a * a < b * b) : a < b := by
  apply Classical.byContradiction
  intro z
  have z : b ≤ a := by omega
  exact absurd (Nat.mul_le_mul z z) (by omega)
/-- one step of halving -/
theorem root_step {n t r s : Nat} (ht : 2 ≤ t) (hs : IsRoot n s) (h1 : (r * t) * (r * t) ≤ n) (h2 : n < ((r + 1) * t) * ((r + 1) * t)) (h3 : t < 2 * (r + 1)) (h4 : t ≤ s) :
    (if ((r + 1) * t + n / ((r + 1) * t)) / 2 * (((r + 1) * t + n / ((r + 1) * t)) / 2) > n then ((r + 1) * t + n / ((r + 1) * t)) / 2 - 1 else ((r + 1) * t + n / ((r + 1) * t)) / 2) = s := by
  obtain ⟨s1, s2⟩ := hs
  have a1 : r * t ≤ s := Nat.le_of_lt_succ (sq_lt (Nat.lt_of_le_of_lt h1 s2))
  have a2 : s < (r + 1) * t := sq_lt (Nat.lt_of_le_of_lt s1 h2)
  have a3 : (r + 1) * t = r * t + t := Nat.succ_mul r t
  generalize hx : (r + 1) * t = x at *
  have xpos : 0 < x := by omega
  have hq1 : n / x * x ≤ n := Nat.div_mul_le_self n x
  have hq2 : n < (n / x + 1) * x := by rw [Nat.succ_mul]; have := Nat.div_add_mod n x; have := Nat.mod_lt n xpos; have := Nat.mul_comm x (n / x); omega
  generalize hq : n / x = q at *
  -- from below
  have lo : 2 * s ≤ x + q := by
    apply Classical.byContradiction
    intro z
    -- q + 1 ≤ 2 s - x, so n < x (2 s - x) ≤ s * s
    obtain ⟨d, hd⟩ : ∃ d, x = s + d := ⟨x - s, by omega⟩
    have hqd : q + 1 + d ≤ s := by omega
    obtain ⟨e, he⟩ : ∃ e, s = q + 1 + d + e := ⟨s - (q + 1 + d), by omega⟩
    have k1 : (q + 1) * x = (q + 1) * s + (q + 1) * d := by rw [hd, Nat.mul_add]
    have k2 : s * s = (q + 1) * s + (d + e) * s := by
      have : s * s = (q + 1 + d + e) * s := by rw [← he]
      rw [this, Nat.add_assoc, Nat.add_mul]
    have k3 : (d + e) * s = d * s + e * s := Nat.add_mul d e s
    have k4 : d * (q + 1) ≤ d * s := Nat.mul_le_mul_left d (by omega)
    have k5 : (q + 1) * d = d * (q + 1) := Nat.mul_comm _ _
    omega
  -- from above
  have hi : x + q ≤ 2 * s + 3 := by
    apply Classical.byContradiction
    intro z
    obtain ⟨d, hd⟩ : ∃ d, x = s + 1 + d := ⟨x - (s + 1), by omega⟩
    have hdt : d + 1 ≤ t := by omega
    -- q ≥ s + 3 - d
    by_cases c : d ≤ s + 3
    · obtain ⟨e, he⟩ : ∃ e, s + 3 = d + e := ⟨s + 3 - d, by omega⟩
      have hqe : e ≤ q := by omega
      have k1 : e * x ≤ q * x := Nat.mul_le_mul_right x hqe
      -- e * (s + 1 + d) ≤ n < (s+1)*(s+1), with e = s + 3 - d
      have k2 : e * x = e * (s + 1) + e * d := by rw [hd, Nat.mul_add]
      have k3 : (s + 3) * (s + 1) = d * (s + 1) + e * (s + 1) := by rw [he, Nat.add_mul]
      have k4 : (s + 3) * (s + 1) = (s + 1) * (s + 1) + 2 * (s + 1) := by rw [show s + 3 = s + 1 + 2 by omega, Nat.add_mul]
      have k5 : d * (s + 3) = d * d + d * e := by rw [he, Nat.mul_add]
      have k6 : d * (s + 3) = d * (s + 1) + d * 2 := by rw [show s + 3 = s + 1 + 2 by omega, Nat.mul_add]
      have k7 : e * d = d * e := Nat.mul_comm _ _
      -- so 2 (s + 1) + 2 d < d * d
      have k8 : 2 * (s + 1) + 2 * d < d * d := by omega
      -- but d + 1 ≤ t, and t * t ≤ 2 * (r * t) + ..
      have k9 : d * d + d ≤ d * t := by
        have := Nat.mul_le_mul_left d hdt
        rw [Nat.mul_add, Nat.mul_one] at this
        exact this
      have k10 : d * t ≤ t * t := Nat.mul_le_mul_right t (by omega)
      have k11 : (t + 1) * t ≤ 2 * (r + 1) * t := Nat.mul_le_mul_right t (by omega)
      have k12 : (t + 1) * t = t * t + t := Nat.succ_mul t t
      have k13 : 2 * (r + 1) * t = 2 * (r * t) + 2 * t := by rw [Nat.mul_assoc, Nat.add_mul, Nat.mul_add, Nat.one_mul]
      -- d*d ≤ d*t - d ≤ t*t - t - ..
      have k14 : (d + 1) * (d + 1) ≤ t * t := Nat.mul_le_mul hdt hdt
      have k15 : (d + 1) * (d + 1) = d * d + 2 * d + 1 := by rw [Nat.mul_add, Nat.add_mul]; omega
      omega
    · omega
  have y1 : s ≤ (x + q) / 2 := by omega
  have y2 : (x + q) / 2 ≤ s + 1 := by omega
  rcases Nat.lt_or_ge ((x + q) / 2) (s + 1) with c | c
  · have e : (x + q) / 2 = s := by omega
    rw [e, if_neg (by omega)]
  · have e : (x + q) / 2 = s + 1 := by omega
    rw [e, if_pos s2]
    rfl
theorem root_exists (n : Nat) : ∃ s, IsRoot n s := by
  induction n with
  | zero => exact ⟨0, by unfold IsRoot; decide⟩
  | succ n ih =>
    obtain ⟨s, h1, h2⟩ := ih
    by_cases c : n + 1 < (s + 1) * (s + 1)
    · exact ⟨s, by omega, c⟩
    · refine ⟨s + 1, by omega, ?_⟩
      have : (s + 1) * (s + 1) < (s + 1 + 1) * (s + 1 + 1) := Nat.mul_lt_mul'' (by omega) (by omega)
      omega
theorem root_halves : ∀ (l n : Nat), n.log2 ≤ l → IsRoot n (Float64.rootByHalves l n)
  | 0, n, h => by
    have : n < 8 := by
      by_cases c : n = 0
      · omega
      · have := (Nat.log2_lt c).mp (Nat.lt_succ_of_le h)
        omega
    exact root8 n this
  | l + 1, n, h => by
    rw [Float64.rootByHalves]
    by_cases c : n < 8
    · rw [if_pos c]
      exact root8 n c
    · rw [if_neg c]
      have n0 : n ≠ 0 := by omega
      obtain ⟨g, hg⟩ : ∃ g, g = n.log2 := ⟨_, rfl⟩
      have g1 : 2 ^ g ≤ n := by rw [hg]; exact Nat.log2_self_le n0
      have g2 : n < 2 ^ (g + 1) := by rw [hg]; exact Nat.lt_log2_self
      have g3 : 3 ≤ g := by
        apply Classical.byContradiction
        intro z
        have : 2 ^ (g + 1) ≤ 2 ^ 3 := Nat.pow_le_pow_right (by decide) (by omega)
        omega
      rw [← hg]
      obtain ⟨k, hk⟩ : ∃ k, k = (g + 1) / 4 := ⟨_, rfl⟩
      rw [← hk]
      have k1 : 1 ≤ k := by omega
      have k2 : 4 * k ≤ g + 1 := by omega
      have e4 : (4 : Nat) ^ k = 2 ^ k * 2 ^ k := by rw [← Nat.mul_pow]
      have m1 : (n / 4 ^ k).log2 ≤ l := by
        by_cases z : n / 4 ^ k = 0
        · rw [z]
          exact Nat.zero_le _
        · have q : n / 4 ^ k < 2 ^ g := by
            have : n / 4 ^ k ≤ n / 4 := Nat.div_le_div_left (by have : 4 ^ 1 ≤ 4 ^ k := Nat.pow_le_pow_right (by decide) k1; omega) (by decide)
            have : 2 ^ (g + 1) = 2 * 2 ^ g := by rw [Nat.pow_succ, Nat.mul_comm]
            omega
          have := (Nat.log2_lt z).mpr q
          omega
      obtain ⟨s, hs⟩ := root_exists n
      have ir := root_halves l (n / 4 ^ k) m1
      obtain ⟨r, hr⟩ : ∃ r, r = Float64.rootByHalves l (n / 4 ^ k) := ⟨_, rfl⟩
      rw [← hr] at ir
      obtain ⟨r1, r2⟩ := ir
      have p4 : 0 < 4 ^ k := Nat.pow_pos (by decide)
      have d1 : n / 4 ^ k * 4 ^ k ≤ n := Nat.div_mul_le_self _ _
      have d2 : n < (n / 4 ^ k + 1) * 4 ^ k := by
        have := Nat.div_add_mod n (4 ^ k)
        have := Nat.mod_lt n p4
        rw [Nat.succ_mul, Nat.mul_comm (n / 4 ^ k)]
        omega
      have t2 : 2 ≤ 2 ^ k := by
        have : 2 ^ 1 ≤ 2 ^ k := Nat.pow_le_pow_right (by decide) k1
        omega
      have u1 : (r * 2 ^ k) * (r * 2 ^ k) ≤ n := by
        have e : (r * 2 ^ k) * (r * 2 ^ k) = r * r * 4 ^ k := by rw [e4, Nat.mul_mul_mul_comm]
        rw [e]
        exact Nat.le_trans (Nat.mul_le_mul_right _ r1) d1
      have u2 : n < ((r + 1) * 2 ^ k) * ((r + 1) * 2 ^ k) := by
        have e : ((r + 1) * 2 ^ k) * ((r + 1) * 2 ^ k) = (r + 1) * (r + 1) * 4 ^ k := by rw [e4, Nat.mul_mul_mul_comm]
        rw [e]
        exact Nat.lt_of_lt_of_le d2 (Nat.mul_le_mul_right _ r2)
      have u3 : 2 ^ k < 2 * (r + 1) := by
        apply Classical.byContradiction
        intro z
        have z : 2 * (r + 1) ≤ 2 ^ k := by omega
        have w1 := Nat.mul_le_mul z z
        have w2 : 2 * (r + 1) * (2 * (r + 1)) = 4 * ((r + 1) * (r + 1)) := by rw [Nat.mul_mul_mul_comm]
        -- n < (r+1)^2 4^k, so 4 n < 4^k 4^k = 2 ^ (4 k) ≤ 2 ^ (g + 1) ≤ 2 n
        have w3 : 4 * n < (4 * ((r + 1) * (r + 1))) * 4 ^ k := by
          have e : ((r + 1) * 2 ^ k) * ((r + 1) * 2 ^ k) = (r + 1) * (r + 1) * 4 ^ k := by rw [e4, Nat.mul_mul_mul_comm]
          rw [e] at u2
          rw [Nat.mul_assoc]
          omega
        have w4 : (4 * ((r + 1) * (r + 1))) * 4 ^ k ≤ (2 ^ k * 2 ^ k) * 4 ^ k := Nat.mul_le_mul_right _ (by omega)
        have w5 : (2 ^ k * 2 ^ k) * 4 ^ k = 2 ^ (4 * k) := by
          rw [e4, ← Nat.pow_add, ← Nat.pow_add]
          congr 1
          omega
        have w6 : 2 ^ (4 * k) ≤ 2 ^ (g + 1) := Nat.pow_le_pow_right (by decide) k2
        have w7 : 2 ^ (g + 1) = 2 * 2 ^ g := by rw [Nat.pow_succ, Nat.mul_comm]
        omega
      have u4 : 2 ^ k ≤ s := by
        apply Nat.le_of_lt_succ
        apply sq_lt
        refine Nat.lt_of_le_of_lt ?_ hs.2
        rw [← Nat.pow_add]
        exact Nat.le_trans (Nat.pow_le_pow_right (by decide) (by omega)) g1
      have fin := root_step t2 hs u1 u2 u3 u4
      rw [hr] at fin
      refine Eq.mpr (congrArg (IsRoot n) ?_) hs
      exact fin
theorem isqrt_root (n : Nat) : IsRoot n (Float64.isqrt n) := root_halves _ n (Nat.le_refl _)
/-- isqrt(n) -/
def rRoot : List V → Hp → VK → Prop := fun xs H Q => ∃ n : Int, xs = [.int n] ∧ 0 ≤ n ∧ n < 2 ^ 200 ∧ ∀ s : Nat, IsRoot n.toNat s → Q (.int s) H
theorem cr_isqrt {X : Cx} : CallR X (.builtin "math.isqrt") rRoot := by
  intro pins s σ H xs us Q I rv h
  obtain ⟨n, rfl, h0, h1, q⟩ := h
  obtain ⟨u, rfl, t, rfl⟩ := vals1 rv
  have hl : n.toNat.log2 < 200 := by
    have := PySem.Flt.log2_lt_of (show 0 < 200 by decide) (abs_lt h0 h1)
    have e : n.toNat = n.natAbs := by omega
    rw [e]
    exact this
  have G := PySem.W.mg_run_isqrt n t (by omega) (by omega) (by omega)
  exact call_function_meets PySem.W.MGF.kind_isqrt PySem.W.MGF.plain_isqrt PySem.W.MGF.entry_isqrt (PySem.W.MGF.args_isqrt _) G.meets ⟨.int _, H, I.tok _, ⟨_, rfl⟩, q _ (isqrt_root _)⟩
end Vg


set_option Elab.async false
set_option linter.all false
set_option maxRecDepth 100000
set_option maxHeartbeats 2000000
namespace Vg
open PySem PySem.Spec PyProof.Rows L2

/-! ### texts: join, split, isdigit, isascii, int, s[i], s * n -/
def rJoinS (K : PySem.W.Frag) : V → List V → Hp → VK → Prop := fun x xs H Q => ∃ a p, ∃ ys : List Str, x = .str a ∧ xs = [.ref p] ∧ (SqL K H p (ys.map V.str) ∨ SqT K H p (ys.map V.str)) ∧ (ys.map (·.length)).sum + ys.length * a.length ≤ 16777216 ∧ Q (.str (Txt.join a ys)) H
def JoinK (K : PySem.W.Frag) (a : Str) (p : Addr) (H : Hp) (G : Str → Prop) : Prop := ∃ ys : List Str, (SqL K H p (ys.map V.str) ∨ SqT K H p (ys.map V.str)) ∧ (ys.map (·.length)).sum + ys.length * a.length ≤ 16777216 ∧ G (Txt.join a ys)
def rSplitS : V → List V → Hp → VK → Prop := fun x xs H Q => ∃ a b, x = .str a ∧ xs = [.str b] ∧ (b.length == 0) = false ∧ a.length + 2 ≤ sizeLine ∧ rNewStrs (Txt.split a b) H Q
def SplitK (a b : Str) (H : Hp) (G : Addr → Hp → Prop) : Prop := (b.length == 0) = false ∧ a.length + 2 ≤ sizeLine ∧ NewK (.lst ((Txt.split a b).map V.str)) H G
def rAsciiS : V → List V → Hp → VK → Prop := fun x xs H Q => ∃ a, x = .str a ∧ xs = [] ∧ True ∧ Q (.bl (Txt.isascii a)) H
def rDigitS : V → List V → Hp → VK → Prop := fun x xs H Q => ∃ a, x = .str a ∧ xs = [] ∧ True ∧ Q (.bl (Txt.isdigit a)) H
def rIntS : List V → Hp → VK → Prop := fun xs H Q => ∃ a n, xs = [.str a] ∧ PySem.intText? a = some n ∧ a.length ≤ 640 ∧ Q (.int n) H
def IntSK (a : Str) (G : Int → Prop) : Prop := ∃ n, PySem.intText? a = some n ∧ a.length ≤ 640 ∧ G n
def rLenS : List V → Hp → VK → Prop := fun xs H Q => ∃ z : Str, xs = [.str z] ∧ z.length ≤ sizeLine ∧ Q (.int z.length) H
def rMulS : R2 := fun x y H Q => ∃ a n, x = .str a ∧ y = .int n ∧ MulOk a n ∧ Q (.str (Txt.mul a n)) H
def IxSK (z : Str) (i : Int) (G : V → Prop) : Prop := z.length ≤ sizeLine ∧ ∃ c, atI z.cps.toList i = some c ∧ G (.str ⟨#[c]⟩)
section
variable {X : Cx} {K : PySem.W.Frag} {H : Hp} {Q : VK} {a b : Str} {p : Addr} {i : Int}
theorem mt_joinS : MtR X "str.join" (rJoinS X.K) := mt_join
theorem mt_splitS : MtR X "str.split" rSplitS := mt_split
theorem mt_asciiS : MtR X "str.isascii" rAsciiS := mt_isascii
theorem mt_digitS : MtR X "str.isdigit" rDigitS := mt_isdigit
theorem cr_intS : CallR X (.type "int") rIntS := call_int_str
theorem cr_lenS : CallR X (.builtin "len") rLenS := call_len_str
theorem op_mulS : OpR X (binaryOp .Mult) rMulS := by
  intro pins s σ H x y v u Q I rx ry h
  obtain ⟨a, n, rfl, rfl, hok, q⟩ := h
  obtain ⟨t, rfl⟩ := rx
  obtain ⟨t', rfl⟩ := ry
  exact SB.mul hok fun t2 k => ⟨.str (Txt.mul a n), H, I.tok _, ⟨t2, rfl⟩, q⟩
theorem x_joinS : rJoinS K (.str a) [.ref p] H Q ↔ JoinK K a p H fun t => Q (.str t) H := ⟨fun ⟨_, _, ys, e1, e2, h1, h2, q⟩ => by cases e1; cases e2; exact ⟨ys, h1, h2, q⟩, fun ⟨ys, h1, h2, q⟩ => ⟨a, p, ys, rfl, rfl, h1, h2, q⟩⟩
theorem x_splitS : rSplitS (.str a) [.str b] H Q ↔ SplitK a b H fun p H1 => Q (.ref p) H1 := ⟨fun ⟨_, _, e1, e2, h1, h2, q⟩ => by cases e1; cases e2; exact ⟨h1, h2, q⟩, fun ⟨h1, h2, q⟩ => ⟨a, b, rfl, rfl, h1, h2, q⟩⟩
theorem x_asciiS : rAsciiS (.str a) [] H Q ↔ Q (.bl (Txt.isascii a)) H := ⟨fun ⟨_, e, _, _, q⟩ => by cases e; exact q, fun q => ⟨a, rfl, rfl, trivial, q⟩⟩
theorem x_digitS : rDigitS (.str a) [] H Q ↔ Q (.bl (Txt.isdigit a)) H := ⟨fun ⟨_, e, _, _, q⟩ => by cases e; exact q, fun q => ⟨a, rfl, rfl, trivial, q⟩⟩
theorem x_intS : rIntS [.str a] H Q ↔ IntSK a fun n => Q (.int n) H := ⟨fun ⟨_, n, e, h1, h2, q⟩ => by cases e; exact ⟨n, h1, h2, q⟩, fun ⟨n, h1, h2, q⟩ => ⟨a, n, rfl, h1, h2, q⟩⟩
theorem x_lenS : rLenS [.str a] H Q ↔ a.length ≤ sizeLine ∧ Q (.int a.length) H := ⟨fun ⟨_, e, h, q⟩ => by cases e; exact ⟨h, q⟩, fun ⟨h, q⟩ => ⟨a, rfl, h, q⟩⟩
theorem x_mulS : rMulS (.str a) (.int i) H Q ↔ MulOk a i ∧ Q (.str (Txt.mul a i)) H := ⟨fun ⟨_, _, e1, e2, h, q⟩ => by cases e1; cases e2; exact ⟨h, q⟩, fun ⟨h, q⟩ => ⟨a, i, rfl, rfl, h, q⟩⟩
theorem x_ixS : rIxS (.str a) (.int i) H Q ↔ IxSK a i fun v => Q v H := ⟨fun ⟨_, _, c, e1, e2, h1, h2, q⟩ => by cases e1; cases e2; exact ⟨h1, c, h2, q⟩, fun ⟨h1, c, h2, q⟩ => ⟨a, i, c, rfl, rfl, h1, h2, q⟩⟩
theorem ty_S : tyV K "str" (.str a) H ↔ True := iff_true_intro rfl
end
/-! ### numbers as texts -/
def nT (n : Nat) : Str := Str.ofString (toString (n : Int))
def txt (sep : Str) (ms : List Nat) : Str := Txt.join sep (ms.map nT)
theorem nT_tl (n : Nat) : TL.tl (nT n) = TL.numL n := TL.tl_num n
theorem nT_len {n k : Nat} (hk : 0 < k) (h : n < 10 ^ k) : (nT n).length ≤ k := by
  rw [TL.len_tl, nT_tl]
  exact TL.numL_len hk h
theorem nT_int {n : Nat} (h : n < 10 ^ 600) : intText? (nT n) = some (n : Int) := TL.int_num (Nat.le_trans (TL.numL_len (by decide) h) (by decide))
theorem nT_digits (n : Nat) : ∀ c ∈ TL.tl (nT n), 48 ≤ c ∧ c ≤ 57 := fun c hc => by
  rw [nT_tl] at hc
  exact TL.numL_digits n c hc
theorem nT_ne (n : Nat) : TL.tl (nT n) ≠ [] := by rw [nT_tl]; exact TL.numL_ne n
/-- the first sign is 0 only in 0 itself -/
theorem nT_head (n : Nat) : (TL.numL n).head? = some 48 → n = 0 := by
  induction n using Nat.strongRecOn with
  | _ n ih =>
    intro h
    by_cases c : n < 10
    · rw [TL.numL_lt c] at h
      simp only [List.head?_cons, Option.some.injEq] at h
      omega
    · rw [TL.numL_step (by omega)] at h
      have hne := TL.numL_ne (n / 10)
      cases hq : TL.numL (n / 10) with
      | nil => exact absurd hq hne
      | cons d r =>
        rw [hq] at h
        have : n / 10 = 0 := ih (n / 10) (by omega) (by rw [hq]; exact h)
        omega
theorem isdigit_nT (n : Nat) : Txt.isdigit (nT n) = true := by
  unfold Txt.isdigit
  rw [Bool.and_eq_true]
  constructor
  · rw [decide_eq_true_eq]
    have := nT_ne n
    rw [TL.len_tl]
    exact List.length_pos_iff.mpr this
  · rw [← Array.all_toList, List.all_eq_true]
    intro c hc
    have h := nT_digits n c hc
    have : ∀ c, 48 ≤ c → c ≤ 57 → Unicode.isDigit c = true := by
      intro c h1 h2
      obtain rfl | rfl | rfl | rfl | rfl | rfl | rfl | rfl | rfl | rfl : c = 48 ∨ c = 49 ∨ c = 50 ∨ c = 51 ∨ c = 52 ∨ c = 53 ∨ c = 54 ∨ c = 55 ∨ c = 56 ∨ c = 57 := by omega
      all_goals decide +kernel
    exact this c h.1 h.2
theorem isascii_nT (n : Nat) : Txt.isascii (nT n) = true := by
  unfold Txt.isascii
  rw [← Array.all_toList, List.all_eq_true]
  intro c hc
  have h := nT_digits n c hc
  exact decide_eq_true (by omega)
theorem txt_split {sep : Str} {s : Nat} (es : TL.tl sep = [s]) (hs : s < 48) (hk : sep.cps.all (· < 256) = true) {ms : List Nat} (hne : ms ≠ []) : Txt.split (txt sep ms) sep = ms.map nT :=
  TL.split_join es hk (fun e => hne (List.map_eq_nil_iff.mp e)) fun p hp => by
    obtain ⟨n, _, rfl⟩ := List.mem_map.mp hp
    exact fun z => by have := nT_digits n s z; omega
theorem joinL_mem {y : List Nat} {c : Nat} : ∀ {parts : List (List Nat)}, c ∈ TL.joinL y parts → c ∈ y ∨ ∃ p ∈ parts, c ∈ p
  | [], h => by cases h
  | [p], h => Or.inr ⟨p, List.mem_singleton.mpr rfl, h⟩
  | p :: q :: r, h => by
    rcases List.mem_append.mp (show c ∈ p ++ (y ++ TL.joinL y (q :: r)) from h) with z | z
    · exact Or.inr ⟨p, List.mem_cons_self, z⟩
    · rcases List.mem_append.mp z with z | z
      · exact Or.inl z
      · rcases joinL_mem z with z | ⟨p2, h1, h2⟩
        · exact Or.inl z
        · exact Or.inr ⟨p2, List.mem_cons_of_mem _ h1, h2⟩
theorem joinL_len {y : List Nat} {k : Nat} : ∀ {parts : List (List Nat)}, (∀ p ∈ parts, p.length ≤ k) → (TL.joinL y parts).length ≤ parts.length * (k + y.length)
  | [], _ => Nat.zero_le _
  | [p], h => by
    have := h p (List.mem_singleton.mpr rfl)
    show p.length ≤ 1 * _
    omega
  | p :: q :: r, h => by
    have h1 := h p List.mem_cons_self
    have ih := joinL_len (y := y) (parts := q :: r) fun z hz => h z (List.mem_cons_of_mem _ hz)
    show (p ++ (y ++ TL.joinL y (q :: r))).length ≤ ((q :: r).length + 1) * _
    rw [List.length_append, List.length_append, Nat.succ_mul]
    omega
theorem txt_tl (sep : Str) (ms : List Nat) : TL.tl (txt sep ms) = TL.joinL (TL.tl sep) (ms.map fun n => TL.numL n) := by
  unfold txt
  rw [TL.join_eq, TL.tl_join, List.map_map]
  congr 1
  exact List.map_congr_left fun n _ => nT_tl n
theorem txt_len {sep : Str} {ms : List Nat} {k : Nat} (hk : 0 < k) (h : ∀ m ∈ ms, m < 10 ^ k) : (txt sep ms).length ≤ ms.length * (k + sep.length) := by
  rw [TL.len_tl, txt_tl, TL.len_tl sep]
  have := joinL_len (y := TL.tl sep) (k := k) (parts := ms.map fun n => TL.numL n) fun p hp => by
    obtain ⟨n, hn, rfl⟩ := List.mem_map.mp hp
    exact TL.numL_len hk (h n hn)
  rw [List.length_map] at this
  exact this
theorem txt_cps {sep : Str} {ms : List Nat} (hs : ∀ c ∈ TL.tl sep, c < 16 ^ 8) : ∀ c ∈ (txt sep ms).cps.toList, c < 16 ^ 8 := fun c hc => by
  have hc : c ∈ TL.tl (txt sep ms) := hc
  rw [txt_tl] at hc
  rcases joinL_mem hc with z | ⟨p, hp, z⟩
  · exact hs c z
  · obtain ⟨n, _, rfl⟩ := List.mem_map.mp hp
    have := TL.numL_digits n c z
    have e : (16 : Nat) ^ 8 = 4294967296 := by decide
    omega
end Vg


set_option Elab.async false
set_option linter.all false
set_option maxRecDepth 100000
set_option maxHeartbeats 2000000
namespace Vg
open PySem PySem.Spec PyProof.Rows L2

theorem Led.subl {B H : Hp} {l l' : List (Addr × HO)} (L : Led B H l) (h : l'.Sublist l) : Led B H l' := ⟨L.sm, L.nd.sublist (h.map _), fun e he => L.fr e (h.subset he), fun e he => L.hs e (h.subset he)⟩
/-! ### a program's def by the plain promise; a law's def that calls it -/
theorem Fg.of {P : Program} {w : World} {K : PySem.W.Frag} {mg : Str → Option Value} {bs : Heap} {C : CXT} {n : Nat} {f : Addr} {fd : FuncData} {ps : List Str} {sp : Sp} (F : FnOk P w K mg bs C n f fd ps sp) : Fg P w K mg bs C n f fd ps sp :=
  ⟨F.len, fun A fr s H gs us vs Q E _ r e b v q => F.run A fr s H gs us vs Q E r e b v q⟩
section
variable {σ : L2.St} {H : Hp} {Q : VK} {sp : Sp} {dvs : List V} {E : XK} {t : TA} {ta : TE} {C : Addr} {m : Str}
theorem e_call : tCall sp dvs E t σ H Q = t σ H fun vs H1 => sp (vs ++ dvs) H1 Q E := propext ⟨fun h => h, fun h => h⟩
theorem e_meth : tMeth C m sp dvs E ta t σ H Q ↔ ta σ H fun x H1 => ∃ a, x = .ref a ∧ MtK a C m H1 (t σ H1 fun vs H2 => sp (x :: (vs ++ dvs)) H2 Q E) :=
  Iff.of_eq (congrArg (ta σ H) (funext fun x => funext fun H1 => propext ⟨fun ⟨a, dx, fs, e, r1, r2, r3⟩ => ⟨a, e, dx, fs, r1, r2, r3⟩, fun ⟨a, e, dx, fs, r1, r2, r3⟩ => ⟨a, dx, fs, e, r1, r2, r3⟩⟩))
theorem e_methR : tMethR C m sp E ta t σ H Q ↔ ta σ H fun x H1 => ∃ a, x = .ref a ∧ MtK a C m H1 (t σ H1 fun vs H2 => sp (x :: vs) H2 Q E) :=
  Iff.of_eq (congrArg (ta σ H) (funext fun x => funext fun H1 => propext ⟨fun ⟨a, dx, fs, e, r1, r2, r3⟩ => ⟨a, e, dx, fs, r1, r2, r3⟩, fun ⟨a, e, dx, fs, r1, r2, r3⟩ => ⟨a, dx, fs, e, r1, r2, r3⟩⟩))
theorem e_make : tMake C sp dvs E t σ H Q = t σ H fun vs H1 => MkK C H1 fun x H2 => sp (.ref x :: (vs ++ dvs)) H2 (fun v H3 => v = .non ∧ Q (.ref x) H3) E := propext ⟨fun h => h, fun h => h⟩
/-- o.f, a property -/
def PropK (a C : Addr) (H : Hp) (G : Prop) : Prop := ∃ dx fs, H a = some (.ins C dx fs) ∧ G
theorem e_prop : tProp C sp dvs E ta σ H Q ↔ ta σ H fun x H1 => ∃ a, x = .ref a ∧ PropK a C H1 (sp (.ref a :: dvs) H1 Q E) :=
  Iff.of_eq (congrArg (ta σ H) (funext fun x => funext fun H1 => propext ⟨fun ⟨a, dx, fs, e, r1, r2⟩ => ⟨a, e, dx, fs, r1, r2⟩, fun ⟨a, e, dx, fs, r1, r2⟩ => ⟨a, dx, fs, e, r1, r2⟩⟩))
theorem PropK.of {B : Hp} {l : List (Addr × HO)} {a dx : Addr} {fs : List (Str × V)} {G : Prop} (L : Led B H l) (h : (a, HO.ins C dx fs) ∈ l) (k : G) : PropK a C H G := ⟨dx, fs, L.at h, k⟩
end
/-- a def with *args, called: the first n are named, what is left over is a new tuple -/
def starSp (n : Nat) (sp : Sp) : Sp := fun vs H Q E => ∃ ws rest, vs = ws ++ rest ∧ ws.length = n ∧ rest.length ≤ sizeLine ∧ ∀ p, H p = none → sp (ws ++ [V.ref p]) (upd H p (.tup rest)) Q E
theorem starSp.of {n : Nat} {sp : Sp} {H : Hp} {Q : VK} {E : XK} (ws rest : List V) (h1 : ws.length = n) (h2 : rest.length ≤ sizeLine) (h : NewK (.tup rest) H fun p H1 => sp (ws ++ [V.ref p]) H1 Q E) : starSp n sp (ws ++ rest) H Q E := ⟨ws, rest, rfl, h1, h2, h⟩
theorem nox_of {X : Cx} {b : List Stmt} {D : Ends} {σ : L2.St} {H : Hp} (h : ∃ t, PSs X.nox b t ∧ t D σ H) : ∃ t, PSs X b t ∧ t D σ H := by
  obtain ⟨t, h1, h2⟩ := h
  exact ⟨t, h1.nox, h2⟩
/-- list(x) -/
def ListOfK (K : PySem.W.Frag) (p : Addr) (H : Hp) (G : Addr → Hp → Prop) : Prop := ∃ xs, (SqL K H p xs ∨ SqT K H p xs) ∧ NewK (.lst xs) H G
def rListOf (K : PySem.W.Frag) : List V → Hp → VK → Prop := fun xs H Q => ∃ p, xs = [.ref p] ∧ ListOfK K p H fun l H1 => Q (.ref l) H1
theorem cr_listOf {X : Cx} : CallR X (.type "list") (rListOf X.K) := CallR.as call_list_of fun _ _ _ ⟨p, e, ys, h, q⟩ => ⟨p, ys, e, h, q⟩
theorem x_listOf {K : PySem.W.Frag} {p : Addr} {H : Hp} {Q : VK} : rListOf K [.ref p] H Q ↔ ListOfK K p H fun l H1 => Q (.ref l) H1 := ⟨fun ⟨_, e, q⟩ => by cases e; exact q, fun q => ⟨p, rfl, q⟩⟩
/-! ### len(o), o of an own class with __len__ -/
def rLenO (C : Addr) (sp : Sp) : List V → Hp → VK → Prop := fun xs H Q => ∃ a, xs = [.ref a] ∧ PropK a C H (sp [.ref a] H (fun v H' => ∃ n : Nat, v = .int (n : Int) ∧ n < 2 ^ 62 ∧ Q (.int (n : Int)) H') E0)
theorem cr_lenO {X : Cx} {k : Nat} {C f : Addr} {fd : FuncData} {sp : Sp} (F : FnOk X.prog X.w X.K X.mg X.base CX0 k f fd ["self"] sp) (hr : Room (k + 1) X.A) (hb : Binds X.K fd ["self"] [])
    (hf : PySem.W.findIn X.K (.ref C) "__len__" = some (some (.ref f))) (ht : PySem.W.typeIn X.K (.ref f) = some (.type "function")) : CallR X (.builtin "len") (rLenO C sp) := by
  intro pins s σ H xs us Q I rv h
  obtain ⟨a, rfl, dx, fs, ha, hsp⟩ := h
  obtain ⟨u, rfl, ru⟩ := vals1 rv
  obtain rfl : u = Value.ref a := ru
  obtain ⟨mA, O, _⟩ := ins_get I.hok ha
  obtain ⟨od, J, _⟩ := O.look
  have sp1 : PySem.W.Looks (model X.prog X.w) s.heap (specialOf (.ref a) "__len__") (some (.ref f)) := J.type.andThen (PySem.W.looks_findIn I.kIn hf)
  refine Calls.call_function_entry kind_len plain_len entry_len (args_len1 _) ?_
  unfold Builtin.«len»
  refine wpAny_bind (m := oneArg "len" _) (wpAny_pure ?_)
  refine wpAny_bind (m := callSpecial? (.ref a) (PySem.Str.ofString "__len__")) ?_
  unfold callSpecial?
  refine wpAny_bind (sp1.here ?_)
  refine wpAny_holding (wpAny_bind ((PySem.W.bind_fn I.kIn (.ref a) ht).here (wpAny_bind ?_)))
  have hl : [Value.ref a].length = (["self"] : List Str).length := rfl
  have e1 := I.env0.in1
  refine wpAny_call (codeAny_mono (F.run X.A.in1 X.stack s H ⟨[.ref a], []⟩ [.ref a] [.ref a] _ E0 hr.in1 e1 (by simpa using hb s [.ref a] I.kIn (by simpa using hl)) (.cons rfl .nil) hsp) fun r s' hq => ?_)
  cases r with
  | error er => exact False.elim hq
  | ok fl =>
    cases fl with
    | ret w =>
      obtain ⟨z, H', I', rz, n, ez, hn, q⟩ := I.after hq
      subst ez
      obtain ⟨t, rfl⟩ := rz
      refine wpAny_pure ?_
      refine wpAny_bind (wpAny_holding (wpAny_pure ?_))
      refine wpAny_bind (wpAny_letGo ?_)
      show wpAny _ _ (if ((n : Nat) : Int) < 0 then _ else _) _ _ _
      rw [if_neg (by omega)]
      show wpAny _ _ (if ((n : Nat) : Int) ≥ 2 ^ 63 then _ else _) _ _ _
      rw [if_neg (by omega)]
      exact wpAny_bind (wpAny_mkInt (wpAny_pure ⟨_, rfl, ⟨.int (n : Int), H', I'.tok _, ⟨_, rfl⟩, q⟩⟩))
    | next => exact False.elim hq
    | brk => exact False.elim hq
    | cont => exact False.elim hq
theorem x_lenO {C a : Addr} {sp : Sp} {H : Hp} {Q : VK} : rLenO C sp [.ref a] H Q ↔ PropK a C H (sp [.ref a] H (fun v H' => ∃ n : Nat, v = .int (n : Int) ∧ n < 2 ^ 62 ∧ Q (.int (n : Int)) H') E0) := ⟨fun ⟨_, e, q⟩ => by cases e; exact q, fun q => ⟨a, rfl, q⟩⟩
end Vg


set_option Elab.async false
set_option linter.all false
set_option maxRecDepth 100000
set_option maxHeartbeats 2000000
namespace Vg
open PySem PySem.Spec PyProof.Rows L2

/-! ### what a call lets out -/
theorem passT {X : Cx} {W : WX} {E : XK} (tk : Takes X W) (h : ∀ cls d σ H, E cls d H → W cls d σ H) : Passes (L2.CX X.prog X.w) X E := fun _ σ _ _ _ _ I c => tk _ _ (XE.of_call I (fun cls d H' z => h cls d σ H' z) c)
theorem passLA {X : Cx} {σ : L2.St} : PassesAt (L2.CX X.prog X.w) X σ E0 := fun _ _ _ _ _ _ c => by
  obtain ⟨_, _, _, _, _, _, _, _, _, _, _, _, z⟩ := c
  exact z.elim
/-- o.m() by a positional promise -/
theorem pe_methR0 {X : Cx} {CX : CXT} {k : Nat} {C f : Addr} {m : Str} {sp : Sp} {E : XK} {o : Expr} {ta : TE} {apos pos : Pos} {pl : Sem Bool} (ho : PE X o ta) (c : Cls X.K C) (hm : Meth X.K C m f)
    (F : FnR X.prog X.w X.K X.mg X.base CX k f sp) (r : Room k X.A) (hx : Passes CX X E)
    (ht : eval (.Call (.Attribute o m apos) [] [] pos) X.env = (do
      let ov ← eval o X.env
      standAt apos.atName
      let (f, first) ← holding [ov] (getMethod ov m pl)
      callWith pos f first (backTo pos (starEach [] X.env)) (backToKw pos (keywordEach [] X.env))) := by rfl) :
    PE X (.Call (.Attribute o m apos) [] [] pos) (tMethR C m sp E ta tNil) := by
  refine ⟨fun pins s σ H Q I h => ?_⟩
  refine PySem.W.methodCall_KW (pl := pl) (thn (ho.run pins s σ H _ I h) ?_) ht
  rintro u s1 ⟨y, H1, J, ry, a, dx, fs, ey, ea, l, q⟩
  subst ey
  obtain rfl : u = Value.ref a := ry
  exact getmeth_ok J ea c hm l (PySem.W.callWith_K0 (first := [.ref a]) J.kIn hm.kp (wpAny_call (run_fnR (us := [.ref a]) (vs := [.ref a]) F r hx J (.cons rfl .nil) q)))
/-! ### caught -/
theorem wAs.of {K : PySem.W.Frag} {C c : Addr} {i : Nat} {ts : Addr → Value → Option Addr → TS} {Wout : WX} {D : Ends} {dd : Option Addr} {σ : L2.St} {H : Hp} (e : PySem.W.exmOne K (.ref C) (.ref c) = some true)
    (h : ∀ a, H a = none → ts a (.ref C) dd { nx := fun σ' H' => D.nx (σ'.set i none) H', rt := D.rt, bk := fun σ' H' => D.bk (σ'.set i none) H', ct := fun σ' H' => D.ct (σ'.set i none) H' } (σ.set i (some (.ref a))) H) : wAs K (.ref c) i ts Wout D (.ref C) dd σ H :=
  ⟨true, e, fun _ a ha => h a ha, fun z => Bool.noConfusion z⟩
theorem exm_up {K : PySem.W.Frag} {C D : Addr} (h1 : PySem.W.subIn K (.ref D) (.type "BaseException") = some true) (h2 : PySem.W.hasDictIn K D = true) (h3 : PySem.W.typeIn K (.ref D) = some (.type "type")) (h4 : PySem.W.subIn K (.ref C) (.ref D) = some true) : PySem.W.exmOne K (.ref C) (.ref D) = some true := PySem.W.exm_ref h1 h2 h3 h4
theorem s_par3 {i j k : Nat} {al : TA} {D : Ends} {σ : L2.St} {H : Hp} : tPar3 i j k al D σ H = al σ H fun vs H1 => ∃ u v w, vs = [u, v, w] ∧ D.nx (((σ.set i (some u)).set j (some v)).set k (some w)) H1 := propext ⟨fun h => h, fun h => h⟩
/-! ### constants of a class -/
structure ICon (K : PySem.W.Frag) (C : Addr) (f : Str) (u : Value) : Prop where
  ic : PySem.W.isClsIn K C = true
  pg : PySem.W.plainGet K C Str.empty = true
  fd : PySem.W.findIn K (.ref C) f = some (some u)
  sp : PySem.W.specialIn K u "__get__" = some none
  cp : PySem.W.copiedNames.contains f = false
  hi : PySem.W.handedIn u = true
theorem find_icon {K : PySem.W.Frag} {C : Addr} {f : Str} {u : Value} {od : Obj} (k : ICon K C f u) (hl : PySem.W.lookIn f od = some none) : PySem.W.findObj K C (some od) f = some (.value u) := by
  obtain ⟨cd, hcd⟩ := Option.isSome_iff_exists.mp (show (PySem.W.clsIn K C).isSome = true from k.ic)
  have own0 : PySem.W.ownOf cd (some od) f = some none := by
    unfold PySem.W.ownOf
    split
    · exact hl
    · rfl
  unfold PySem.W.findObj
  rw [hcd, Option.bind_some, k.fd, Option.bind_some]
  simp only [k.sp, Option.bind_some, own0, k.cp, Bool.false_and, Bool.false_eq_true, if_false, k.hi, if_true]
/-- o.f, a constant number of o's class -/
def tIcon (C : Addr) (f : Str) (i : Int) (ta : TE) : TE := fun σ H Q => ta σ H fun x H1 => ∃ a dx fs, x = .ref a ∧ H1 a = some (.ins C dx fs) ∧ fs.lookup f = none ∧ Q (.int i) H1
theorem pe_icon {X : Cx} {C : Addr} {f : Str} {i : Int} {e : Expr} {ta : TE} {pos : Pos} (he : PE X e ta) (k : ∃ t, ICon X.K C f (.int i t)) (hb : attributeBase e f X.env (eval e X.env) = eval e X.env := by rfl) : PE X (.Attribute e f pos) (tIcon C f i ta) := by
  obtain ⟨t, k⟩ := k
  refine ⟨fun pins s σ H Q I h => ?_⟩
  refine attr_of hb (thn (he.run pins s σ H _ I h) ?_)
  rintro u s1 ⟨y, H1, J, ry, a, dx, fs, ey, ea, l, q⟩
  subst ey
  obtain rfl : u = Value.ref a := ry
  obtain ⟨mA, O, rr, _⟩ := ins_get J.hok ea
  obtain ⟨od, I2, hl⟩ := O.look
  have hn : mA f = none := RelO.none_of (by rw [← l]; exact rr f)
  exact PySem.W.get_value J.kIn I2 (PySem.W.plainGet_of k.pg).1 (find_icon k (by rw [hl f, hn])) k.hi ⟨.int i, H1, J.tok _, ⟨t, rfl⟩, q⟩
theorem e_icon {C : Addr} {f : Str} {i : Int} {ta : TE} {σ : L2.St} {H : Hp} {Q : VK} : tIcon C f i ta σ H Q ↔ ta σ H fun x H1 => ∃ a, x = .ref a ∧ MtK a C f H1 (Q (.int i) H1) :=
  Iff.of_eq (congrArg (ta σ H) (funext fun x => funext fun H1 => propext ⟨fun ⟨a, dx, fs, e, r⟩ => ⟨a, e, dx, fs, r⟩, fun ⟨a, e, dx, fs, r⟩ => ⟨a, dx, fs, e, r⟩⟩))
def CValK (K : PySem.W.Frag) (C : Addr) (f : Str) (G : V → Prop) : Prop := ∃ mc v u, ClX.CRead K C mc ∧ ClX.CVal K C mc f v u ∧ G v
theorem e_cval {K : PySem.W.Frag} {f : Str} {ta : TE} {σ : L2.St} {H : Hp} {Q : VK} : ClX.tCVal K ta f σ H Q ↔ ta σ H fun x H1 => ∃ a, x = .ref a ∧ CValK K a f fun v => Q v H1 :=
  Iff.of_eq (congrArg (ta σ H) (funext fun x => funext fun H1 => propext ⟨fun ⟨a, mc, v, u, e, r⟩ => ⟨a, e, mc, v, u, r⟩, fun ⟨a, e, mc, v, u, r⟩ => ⟨a, mc, v, u, e, r⟩⟩))
theorem CValK.of {K : PySem.W.Frag} {C : Addr} {f : Str} {i : Int} {G : V → Prop} (r : ClX.CRead K C (.type "type")) (c : ∃ t, ClX.CVal K C (.type "type") f (.int i) (.int i t)) (g : G (.int i)) : CValK K C f G := let ⟨t, c⟩ := c; ⟨_, _, _, r, c, g⟩
/-! ### f-strings -/
def FmtK (x : V) (G : Str → Prop) : Prop := (∃ y : Str, x = .str y ∧ y.length ≤ sizeLine ∧ G y) ∨ ∃ i : Int, x = .int i ∧ i.natAbs.log2 < 1920 ∧ G (toString i)
theorem e_fmt {te : TE} {σ : L2.St} {H : Hp} {Q : VK} : tFmt te σ H Q = te σ H fun x H1 => FmtK x fun t => Q (.str t) H1 := propext ⟨fun h => h, fun h => h⟩
theorem FmtK.int {i : Int} {G : Str → Prop} (h : i.natAbs < 2 ^ 1900) (g : G (toString i)) : FmtK (.int i) G := Or.inr ⟨i, rfl, by
  by_cases z : i.natAbs = 0
  · rw [z]; decide
  · exact Nat.lt_of_lt_of_le ((Nat.log2_lt z).mpr h) (by decide), g⟩
def JoK (acc : Str) (x : V) (G : Str → Prop) : Prop := ∃ y : Str, x = .str y ∧ (acc ++ y).length ≤ sizeLine ∧ G (acc ++ y)
theorem e_jo {ts : List TE} {te : TE} {acc : Str} {σ : L2.St} {H : Hp} {Q : Str → Hp → Prop} : tJs (te :: ts) acc σ H Q = te σ H fun x H1 => JoK acc x fun t => tJs ts t σ H1 Q := propext ⟨fun h => h, fun h => h⟩
theorem e_jo0 {acc : Str} {σ : L2.St} {H : Hp} {Q : Str → Hp → Prop} : tJs [] acc σ H Q = Q acc H := propext ⟨fun h => h, fun h => h⟩
theorem JoK.of {acc y : Str} {G : Str → Prop} (h : acc.length + y.length ≤ 100000) (g : G (acc ++ y)) : JoK acc (.str y) G := ⟨y, rfl, Nat.le_trans (by rw [strLen_append]; exact h) (by decide), g⟩
end Vg


set_option Elab.async false
set_option linter.all false
set_option maxRecDepth 100000
set_option maxHeartbeats 2000000
namespace Vg
open PySem PySem.Spec PyProof.Rows L2

/-! ### an exception that is kept behind its except suite -/
def ErO (cls : Value) (d : Option Addr) (a : Addr) : HO := .ext fun h => ∃ (oe : Obj) (vs : Array Value), h.get? a = some oe ∧ Zc cls d oe ∧ oe.data = .fields vs
section
variable {X : Cx} {pins : List (Addr × Obj)} {σ : L2.St} {H : Hp} {s : Shared}
theorem Inv.adopt {a : Addr} {oe : Obj} {vs : Array Value} {cls : Value} {d : Option Addr} (J : Inv X pins σ H s) (g : s.heap.get? a = some oe) (z : Zc cls d oe) (hd : oe.data = .fields vs) (na : H a = none) (n0 : X.s_0.heap.get? a = none)
    (nL : a ≠ X.env.locals) (np : ∀ p ∈ X.pn ++ pins, p.1 ≠ a) : Inv X pins σ (upd H a (ErO cls d a)) s := by
  have un1 : Un X.fs X.ex H (upd H a (ErO cls d a)) X.s_0.heap X.s_0.heap := ⟨fun _ _ h _ _ _ => h, fun _ o h _ _ _ => ⟨o.slots, h⟩, fun b o h n _ => by rw [upd_ne (fun e => by rw [e, n0] at h; cases h)]; exact n, fun _ o h _ => ⟨o, h⟩,
    fun b xs h => by rw [upd_ne (fun e => by rw [e, na] at h; cases h)]; exact h, fun b o u h => by rw [upd_ne (fun e => by rw [e, na] at h; cases h)]; exact h, fun b ps h => ⟨#[], by rw [upd_ne (fun e => by rw [e, na] at h; cases h), h]; simp⟩⟩
  have cel : ∀ x c, X.env.cells.lookup x = some c → c ≠ a := fun x c hc e => by
    obtain ⟨v, o, ho, hv⟩ := J.cell x c hc
    rw [e, g] at ho
    cases ho
    rw [hd] at hv
    cases hv
  refine ⟨J.ok, J.os, J.bare, ⟨J.base.keep, J.base.slot, fun b o h n hx => ?_, J.base.there, fun b xs h => ?_, fun b o u h => ?_, fun b ps h => ?_⟩, J.loc, J.cell, ?_, fun x c hc => ?_, fun p hp => ?_, fun b u e => ?_, J.len⟩
  · rw [upd_ne (fun e => by rw [e, n0] at h; cases h)]
    exact J.base.free b o h n hx
  · have h2 := J.base.tups b xs h
    rw [upd_ne (fun e => by rw [e, na] at h2; cases h2)]
    exact h2
  · have h2 := J.base.frzs b o u h
    rw [upd_ne (fun e => by rw [e, na] at h2; cases h2)]
    exact h2
  · obtain ⟨more, h2⟩ := J.base.tbls b ps h
    exact ⟨more, by rw [upd_ne (fun e => by rw [e, na] at h2; cases h2)]; exact h2⟩
  · rw [upd_ne nL.symm]
    exact J.free
  · rw [upd_ne (cel x c hc)]
    exact J.freeC x c hc
  · obtain ⟨p1, p2, p3⟩ := J.pin p hp
    exact ⟨p1, by rw [upd_ne (np p hp)]; exact p2, p3⟩
  · by_cases hb : b = a
    · subst hb
      rw [upd_same] at e
      cases e
      exact ⟨⟨oe, vs, g, z, hd⟩, ⟨oe, g⟩, fun h1 h2 ⟨o, w, k1, k2⟩ hk => ⟨o, w, hk o k1, k2⟩⟩
    · rw [upd_ne hb] at e
      exact (J.hok b u e).stay (fun _ _ _ h => h) (fun c h => by rw [upd_ne (fun e => by rw [e, na] at h; cases h)]; exact h) fun c xs h => by rw [upd_ne (fun e => by rw [e, na] at h; cases h)]; exact h
end
/-- what the clause wishes: behind the suite the exception at a is tracked -/
def wKeep (K : PySem.W.Frag) (c : Value) (i : Nat) (ts : Addr → Value → Option Addr → TS) (Wo : WX) (D : Ends) : WX := fun cls d σ H =>
  ∃ b, PySem.W.exmOne K cls c = some b ∧ (b = true → ∀ a, H a = none → ts a cls d { nx := fun τ G => D.nx (τ.set i none) (upd G a (ErO cls d a)), rt := fun v G => D.rt v (upd G a (ErO cls d a)), bk := fun τ G => D.bk (τ.set i none) (upd G a (ErO cls d a)), ct := fun τ G => D.ct (τ.set i none) (upd G a (ErO cls d a)) } (σ.set i (some (.ref a))) H) ∧
    (b = false → Wo cls d σ H)
section
variable {X : Cx} {x n : Str} {c : Value} {i : Nat} {body more : List Stmt} {b1 : Stmt} {np p1 p2 : Pos} {tb : WX → TS} {ts : Addr → Value → Option Addr → TS} {Wo : WX}
theorem ps_try_keep (hst : X.stack = X.env :: X.outer) (hfr : X.env.frame = some X.env.locals) (nd : X.N.Nodup) (ni : X.N[i]? = some n) (nl : X.env.kindOf n = some .local) (hc : Names X x c) (hex : X.ex = []) (out : Takes X Wo)
    (hb : ∀ (W : WX) (pn : List (Addr × Obj)) (xe : Value → Shared → Prop), Takes (X.tr pn xe) W → PassesOwn (model X.prog X.w) X.A X.env xe → PSs (X.tr pn xe) body (tb W))
    (hs : ∀ (a : Addr) (oe : Obj) (cls : Value) (d : Option Addr) (pn : List (Addr × Obj)), Zc cls d oe → (∃ vs, oe.data = .fields vs) → PSs (X.suite a ((a, oe) :: pn)) (b1 :: more) (ts a cls d)) :
    PS X (.Try body [.ExceptHandler (some (.Name x np)) (some n) (b1 :: more) p2] [] [] p1) (fun D σ H => tb (wKeep X.K c i ts Wo D) D σ H) := by
  refine ⟨fun pins s σ H D J0 h0 => ?_⟩
  have ok := J0.ok
  have fr2 : X.A.frames = some (X.env :: X.outer) := ok.frames.trans (congrArg some hst)
  have loc : Loc X.env.scope n := .inl nl
  let xh : Value → Shared → Prop := fun e t1 => wpAny (model X.prog X.w) X.A (noteFrame e X.env) (fun _ t2 => wpAny (model X.prog X.w) X.A (setFlight e none) (fun _ t3 => wpAny (model X.prog X.w) X.A (handleBy e X.env [.ExceptHandler (some (.Name x np)) (some n) (b1 :: more) p2]) (SP X pins D) X.xe t3) X.xe t2) X.xe t1
  have catch_ : Takes (X.tr (X.pn ++ pins) xh) (wKeep X.K c i ts Wo D) := by
    rintro u t ⟨a, G, t0, pins', τ, H1, cls, d, rfl, J', nb, up, sky, na, os, ag, b, hb1, yes, no⟩
    have J : Inv X pins τ H1 t0 := J'.ofTry ok
    have sky2 : Sky G (X.env :: X.outer) a (Zc cls d) X.env.locals t.heap := hst ▸ sky
    show wpAny _ _ (noteFrame (.ref a) X.env) _ _ t
    refine Sky.land Zc.steady fr2 hfr sky2 fun h3 fl3 up3 => ?_
    have J3 : Inv X pins τ H1 { t with heap := h3 } := J.landed nb fl3.1 (up.trans up3) os ag
    obtain ⟨oe3, vs3, he3, hz3, hd3⟩ := fl3.there
    have aF : a ∉ frs (X.env :: X.outer) := fun hm => by
      obtain ⟨_, o', e', hn⟩ := fl3.2.2.1.mem hm
      rw [he3] at e'
      cases e'
      exact hn _ hd3
    have aL : a ≠ X.env.locals := fun e => aF (List.mem_filterMap.mpr ⟨X.env, List.mem_cons_self, by rw [hfr, e]⟩)
    have aO : a ∉ X.fs := fun hm => by
      obtain ⟨e, he, q⟩ := List.mem_filterMap.mp hm
      exact aF (List.mem_filterMap.mpr ⟨e, List.mem_cons_of_mem _ he, q⟩)
    have a0 : t0.heap.get? a = none := by
      cases e : t0.heap.get? a with
      | none => rfl
      | some o =>
        have k := nb a o e (by rw [hst]; exact aF)
        rw [fl3.2.1] at k
        cases k
    have a1 : X.s_0.heap.get? a = none := by
      cases e : X.s_0.heap.get? a with
      | none => rfl
      | some o =>
        obtain ⟨o', k⟩ := J.base.there a o e (fun hx => by rw [hex] at hx; cases hx)
        rw [a0] at k
        cases k
    have aP : ∀ p ∈ X.pn ++ pins, p.1 ≠ a := fun p hp e => by
      have k := (J.pin p hp).1
      rw [e, a0] at k
      cases k
    have S3 := J3.suite he3 hd3 na aL aO
    refine wpAny_handleBy_cons (codeAny_handlers_test ?_) (by intro q; cases q)
    have l1 : PySem.W.Looks (model X.prog X.w) h3 (typeOf (.ref a)) cls := fun A Q E s k q => wpAny_typeOf_ref (k _ _ he3) (by rw [hz3.1]; exact q)
    have l2 := PySem.W.exm_one (M := model X.prog X.w) J3.kIn l1 hb1
    have tst : ∀ {Q : Value → Shared → Prop} {E : Value → Shared → Prop}, Q c { t with heap := h3 } → wpAny (model X.prog X.w) (X.A.mark (some (.ref a))) (eval (.Name x np) X.env) Q E { t with heap := h3 } := by
      intro Q E q
      obtain ⟨g1, g2, m1 | ⟨m1, m2, m3⟩⟩ := hc
      · exact ld_glob (X := X.suite a ((a, oe3) :: (X.pn ++ pins))) S3 g1 m1 q g2
      · exact ld_blt (X := X.suite a ((a, oe3) :: (X.pn ++ pins))) S3 g1 m1 m2 q m3 g2
    refine tst (l2.here ?_)
    cases b with
    | true =>
      refine codeAny_handlers_suite_as (HandSPX.lands_againZ fl3 fun h4 fl4 up4 => ?_)
      have J4 : Inv X pins τ H1 { t with heap := h4 } := J.landed nb fl4.1 ((up.trans up3).trans up4) os ag
      obtain ⟨oe4, vs4, he4, hz4, hd4⟩ := fl4.there
      have S4 := J4.suite he4 hd4 na aL aO
      refine store_ok (X := X.suite a ((a, oe4) :: (X.pn ++ pins))) (v := .ref a) S4 nd ni loc rfl (fun s5 S5 => ?_) (.inr nl)
      refine wpAny_mono ((hs a oe4 cls d (X.pn ++ pins) hz4 ⟨_, hd4⟩).run [] s5 _ H1 _ S5 (yes rfl a na)) (fun fl s6 q6 => ?_) (fun _ _ z => z.elim)
      have last : ∀ {τ6 : L2.St} {H6 : Hp} {Q : Shared → Prop}, Inv (X.suite a ((a, oe4) :: (X.pn ++ pins))) [] τ6 H6 s6 → (∀ s7, Inv X pins (τ6.set i none) (upd H6 a (ErO cls d a)) s7 → Q s7) →
          wpAny (model X.prog X.w) X.A (do bindName X.env n .none; unbindBehindTheSuite X.env n p2) (fun _ s7 => Q s7) X.xe s6 := by
        intro τ6 H6 Q S6 hq
        obtain ⟨k1, k2, _⟩ := S6.pin (a, oe4) (by simp)
        exact gone_ok (Inv.adopt (S6.unsuite ok) k1 hz4 hd4 k2 a1 aL aP) nd ni nl hq
      cases fl with
      | next => obtain ⟨τ6, H6, S6, q⟩ := q6; exact last S6 fun s7 J7 => ⟨_, _, J7, q⟩
      | brk => obtain ⟨τ6, H6, S6, q⟩ := q6; exact last S6 fun s7 J7 => ⟨_, _, J7, q⟩
      | cont => obtain ⟨τ6, H6, S6, q⟩ := q6; exact last S6 fun s7 J7 => ⟨_, _, J7, q⟩
      | ret w => obtain ⟨v6, τ6, H6, S6, r6, q⟩ := q6; exact last S6 fun s7 J7 => ⟨_, _, _, J7, r6, q⟩
    | false =>
      refine wpAny_handleBy_nil ?_
      obtain ⟨_, _, _, oe, vs, T, oT, ts', he, hz, hd, h1, hr⟩ := id fl3
      unfold PySem.passOn
      refine wpAny_bind (wpAny_field he hd h1 ?_)
      rw [if_neg (show ¬ ((Value.ref T == Value.none) = true) from by simp)]
      have fly : wpAny (model X.prog X.w) X.A (setFlight (.ref a) X.env.frame) (fun _ t4 => wpAny (model X.prog X.w) X.A (throw (.ref a) : Sem Flow) (SP X pins D) X.xe t4) X.xe { t with heap := h3 } := by
        rw [hfr]
        exact HandSPX.setFlight_upZ fl3 fun h4 hh4 up4 => wpAny_throw (out _ _ ⟨a, G, t0, pins, τ, H1, cls, d, rfl, J, nb, (up.trans up3).trans up4, .inr (.inr (hst ▸ hh4)), na, os, ag, no rfl⟩)
      first
        | exact wpAny_bind (wpAny_pure (wpAny_bind fly))
        | exact wpAny_bind fly
  refine wpAny_Try_except (wpAny_mono ((hb (wKeep X.K c i ts Wo D) (X.pn ++ pins) xh catch_ PassesOwn.looking).run [] s σ H D (J0.toTry _) h0) (fun fl s1 q1 => ?_) (fun e s1 he => he))
  cases fl with
  | next => obtain ⟨τ, H1, J1, q⟩ := q1; exact wpAny_execs_nil ⟨τ, H1, J1.ofTry ok, q⟩
  | brk => obtain ⟨τ, H1, J1, q⟩ := q1; exact ⟨τ, H1, J1.ofTry ok, q⟩
  | cont => obtain ⟨τ, H1, J1, q⟩ := q1; exact ⟨τ, H1, J1.ofTry ok, q⟩
  | ret u => obtain ⟨v, τ, H1, J1, r, q⟩ := q1; exact ⟨v, τ, H1, J1.ofTry ok, r, q⟩
end
theorem wKeep.of {K : PySem.W.Frag} {C c : Addr} {i : Nat} {ts : Addr → Value → Option Addr → TS} {Wo : WX} {D : Ends} {dd : Option Addr} {σ : L2.St} {H : Hp} (e : PySem.W.exmOne K (.ref C) (.ref c) = some true)
    (h : ∀ a, H a = none → ts a (.ref C) dd { nx := fun τ G => D.nx (τ.set i none) (upd G a (ErO (.ref C) dd a)), rt := fun v G => D.rt v (upd G a (ErO (.ref C) dd a)), bk := fun τ G => D.bk (τ.set i none) (upd G a (ErO (.ref C) dd a)), ct := fun τ G => D.ct (τ.set i none) (upd G a (ErO (.ref C) dd a)) } (σ.set i (some (.ref a))) H) : wKeep K (.ref c) i ts Wo D (.ref C) dd σ H :=
  ⟨true, e, fun _ a ha => h a ha, fun z => Bool.noConfusion z⟩
/-! ### a list unpacked -/
def UnlK (K : PySem.W.Frag) (p : Addr) (n : Nat) (H : Hp) (G : List V → Prop) : Prop := ∃ xs, SqL K H p xs ∧ xs.length = n ∧ G xs
theorem g_unl {K : PySem.W.Frag} {n : Nat} {gs : TGs} {a : Addr} {σ : L2.St} {H : Hp} {N : L2.St → Hp → Prop} : gUnl K n gs (.ref a) σ H N ↔ UnlK K a n H fun xs => gs xs σ H N := ⟨fun ⟨_, xs, e, h, z, q⟩ => by cases e; exact ⟨xs, h, z, q⟩, fun ⟨xs, h, z, q⟩ => ⟨a, xs, rfl, h, z, q⟩⟩
theorem UnlK.of {K : PySem.W.Frag} {p : Addr} {n : Nat} {H : Hp} {xs : List V} {G : List V → Prop} (h : SqL K H p xs) (e : xs.length = n) (g : G xs) : UnlK K p n H G := ⟨xs, h, e, g⟩
/-! ### classmethods; a class in a local name -/
theorem fnR_of {P : Program} {w : World} {K : PySem.W.Frag} {mg : Str → Option Value} {bs : Heap} {C : CXT} {k : Nat} {f : Addr} {fd : FuncData} {ps : List Str} {sp : Sp} (F : FnOk P w K mg bs C k f fd ps sp) (b : Binds K fd ps []) : FnR P w K mg bs C k f sp := fun A fr s H us vs Q E r e0 v q => by
  have hl : (us ++ []).length = ps.length := by rw [List.append_nil, ← v.length]; exact F.len _ _ _ _ q
  have kx : K.In s.heap := e0.mod.kin.keeps fun c o z => (e0.bs c o z).1
  have h := b s us kx hl
  rw [List.append_nil] at h
  exact F.run A fr s H ⟨us, []⟩ us vs Q E r e0 h v q
theorem e_cmeth {C : Addr} {sp : Sp} {E : XK} {ta : TE} {t : TA} {σ : L2.St} {H : Hp} {Q : VK} : ClX.tCMeth C sp E ta t σ H Q = ta σ H fun x H1 => x = .ref C ∧ t σ H1 fun vs H2 => sp (.ref C :: vs) H2 Q E := propext ⟨fun h => h, fun h => h⟩
def tMakeV (i : Nat) (C : Addr) (sp : Sp) (E : XK) (t : TA) : TE := fun σ H Q => σ[i]? = some (some (.ref C)) ∧ t σ H fun vs H1 => MkK C H1 fun x H2 => sp (.ref x :: vs) H2 (fun v H3 => v = .non ∧ Q (.ref x) H3) E
theorem e_makeV {i : Nat} {C : Addr} {sp : Sp} {E : XK} {t : TA} {σ : L2.St} {H : Hp} {Q : VK} : tMakeV i C sp E t σ H Q = (σ[i]? = some (some (.ref C)) ∧ t σ H fun vs H1 => MkK C H1 fun x H2 => sp (.ref x :: vs) H2 (fun v H3 => v = .non ∧ Q (.ref x) H3) E) := propext ⟨fun h => h, fun h => h⟩
theorem pe_makeV {X : Cx} {CX : CXT} {k i : Nat} {C f : Addr} {fd : FuncData} {ps : List Str} {sp : Sp} {E : XK} {x : Str} {e : Expr} {es : List Expr} {t : TA} {p pos : Pos} (M : Mk X.K C f) (F : FnOk X.prog X.w X.K X.mg X.base CX k f fd ps sp) (r : Room (k + 1) X.A) (b : Binds X.K fd ps []) (hx : Passes CX X E)
    (hN : X.N[i]? = some x) (hv : Vis X.env.scope x) (ha : PA X (e :: es) t) (h1 : (x == ("__debug__" : Str)) = false := by decide) (h2 : (x == ("__classdict__" : Str)) = false := by decide)
    (he : starEach (e :: es) X.env = (false, eval e X.env) :: starEach es X.env := by rfl) (hp : (backTo pos (starEach es X.env)).any (·.1) = false := by rfl) : PE X (.Call (.Name x p) (e :: es) [] pos) (tMakeV i C sp E t) := by
  refine ⟨fun pins s σ H Q J h => ?_⟩
  obtain ⟨hs, h⟩ := h
  refine wpAny_Call_Name_kw (thn ((pe_var (pos := p) (i := i) hN hv h1 h2).run pins s σ H (fun v H1 => v = .ref C ∧ H1 = H) J ⟨.ref C, hs, rfl, rfl⟩) ?_)
  rintro u s1 ⟨v, H1, J1, rv, rfl, rfl⟩
  cases rv
  refine PySem.W.callWith_K (h₀ := X.base) J.ok.mod.kin M.kp (thn (ha.run pos pins s1 σ _ _ J1 h) ?_) he hp
  rintro us s2 ⟨vs, H2, J2, rs, q⟩
  exact ⟨J2.kIn, run_make M F r b .nil hx J2 rs fun y dx n1 n2 n3 => by rw [List.append_nil]; exact q y dx n1 n2 n3⟩
/-! ### isinstance of a kept exception -/
def rIsX (K : PySem.W.Frag) : List V → Hp → VK → Prop := fun xs H Q => ∃ (D a : Addr) (c : V) (cv : Value) (b : Bool), xs = [.ref a, c] ∧ H a = some (ErO (.ref D) none a) ∧ ExcC K D ∧ (∀ u, RelV c u → u = cv) ∧ PySem.W.kitOne K (.ref D) cv = some b ∧ Q (.bl b) H
theorem cr_isX {X : Cx} : CallR X (.builtin "isinstance") (rIsX X.K) := by
  intro pins s σ H xs us Q J r h
  obtain ⟨D, a, c, cv, b, rfl, ha, C, hcv, e, q⟩ := h
  obtain ⟨⟨oe, vs, hg, hz, hd⟩, _, _⟩ := J.hok a _ ha
  cases r with
  | cons rx rr =>
    cases rr with
    | cons rt rr =>
      cases rr
      cases rx
      have ec := hcv _ rt
      subst ec
      have I2 : PySem.W.InstAt s.heap a oe D none := by
        obtain ⟨oc, od, oda, osl⟩ := oe
        obtain ⟨k1, k2⟩ := hz
        dsimp only at k1 k2 hd
        subst k1 k2 hd
        exact ⟨hg, rfl, rfl, trivial⟩
      exact PySem.W.kia_one (PySem.W.handS_kitx_exc C.hg C.hk C.hs C.hd C.ha C.hn C.ht C.hm) J.kIn I2 e (fun z => nomatch z) fun tk => ⟨.bl b, H, J.kept (t' := tk) fun _ _ z => z, rfl, q⟩
/-- of a class of the text, of a built-in one -/
def IsXK (K : PySem.W.Frag) (a : Addr) (c : Value) (H : Hp) (G : Bool → Prop) : Prop := ∃ D b, H a = some (ErO (.ref D) none a) ∧ ExcC K D ∧ PySem.W.kitOne K (.ref D) c = some b ∧ G b
theorem x_isX {K : PySem.W.Frag} {a C : Addr} {H : Hp} {Q : VK} : rIsX K [.ref a, .ref C] H Q ↔ IsXK K a (.ref C) H fun b => Q (.bl b) H :=
  ⟨fun ⟨D, a', c, cv, b, e, h1, h2, h3, h4, q⟩ => by cases e; have e2 := h3 (.ref C) rfl; subst e2; exact ⟨D, b, h1, h2, h4, q⟩, fun ⟨D, b, h1, h2, h4, q⟩ => ⟨D, a, _, _, b, rfl, h1, h2, fun _ z => z, h4, q⟩⟩
theorem x_isXT {K : PySem.W.Frag} {a : Addr} {T : String} {H : Hp} {Q : VK} : rIsX K [.ref a, .ty T] H Q ↔ IsXK K a (.type T) H fun b => Q (.bl b) H :=
  ⟨fun ⟨D, a', c, cv, b, e, h1, h2, h3, h4, q⟩ => by cases e; have e2 := h3 (.type T) rfl; subst e2; exact ⟨D, b, h1, h2, h4, q⟩, fun ⟨D, b, h1, h2, h4, q⟩ => ⟨D, a, _, _, b, rfl, h1, h2, fun _ z => z, h4, q⟩⟩
theorem IsXK.of {K : PySem.W.Frag} {D a : Addr} {c : Value} {b : Bool} {H : Hp} {G : Bool → Prop} (h : H a = some (ErO (.ref D) none a)) (C : ExcC K D) (k : PySem.W.kitOne K (.ref D) c = some b) (g : G b) : IsXK K a c H G := ⟨D, b, h, C, k, g⟩
/-! ### isinstance, worked out -/
theorem kit_sub {K : PySem.W.Frag} {C D : Addr} {b : Bool} (h0 : (Value.ref C == Value.ref D) = false) (h2 : PySem.W.hasDictIn K D = true) (h3 : PySem.W.typeIn K (.ref D) = some (.type "type")) (h4 : PySem.W.subIn K (.ref C) (.ref D) = some b) : PySem.W.kitOne K (.ref C) (.ref D) = some b := by
  unfold PySem.W.kitOne
  rw [if_neg (by rw [h0]; decide)]
  unfold PySem.W.kitCls
  dsimp only
  have hs : (PySem.W.clsIn K D).isSome = true := by
    unfold PySem.W.hasDictIn at h2
    cases e : PySem.W.clsIn K D with
    | none => rw [e] at h2; cases h2
    | some c => rfl
  rw [hs, h3, if_pos (by rfl)]
  exact h4
theorem kit_self {K : PySem.W.Frag} {C : Addr} : PySem.W.kitOne K (.ref C) (.ref C) = some true := by
  unfold PySem.W.kitOne
  rw [if_pos (by simp)]
theorem kit_blt {K : PySem.W.Frag} {C : Addr} {b : Bool} {T : String} (hm : PySem.W.kitMeta T = true) (h4 : PySem.W.subIn K (.ref C) (.type T) = some b) : PySem.W.kitOne K (.ref C) (.type T) = some b := by
  unfold PySem.W.kitOne
  rw [if_neg (show ¬ ((Value.ref C == Value.type T) = true) from by simp)]
  unfold PySem.W.kitCls
  dsimp only
  rw [if_pos hm]
  exact h4
end Vg


set_option Elab.async false
set_option linter.all false
set_option maxRecDepth 100000
namespace Vg
open PySem PySem.Spec PyProof.Rows L2
/-! ### sum of a tuple of two numbers -/
def rSumT (K : PySem.W.Frag) : List V → Hp → VK → Prop := fun vs H Q => ∃ (a : Addr) (i j : Int), vs = [.ref a] ∧ SqT K H a [.int i, .int j] ∧ Q (.int (i + j)) H
theorem sum_two (i j : Int) : PySem.W.Num.sumInts 0 [.int i, .int j] = some (.int (i + j)) := by
  have e : (0 : Int) + i + j = i + j := by omega
  unfold PySem.W.Num.sumInts
  split
  · unfold PySem.W.Num.sumInts
    split
    · unfold PySem.W.Num.sumInts; rw [e]
    · unfold PySem.W.Num.foldFrom; rw [e]
  · rw [← e]; rfl
theorem cr_sumT {X : Cx} (hc : X.calm = true) : CallR X (.builtin "sum") (rSumT X.K) := by
  intro pins s σ H vs us Q I r h
  obtain ⟨a, i, j, rfl, hs, q⟩ := h
  obtain ⟨its, rv, hl, _⟩ := I.tuple hs
  rw [Vals.ref1 r]
  cases rv with
  | cons r1 rr =>
    cases rr with
    | cons r2 rr =>
      cases rr
      obtain ⟨t1, rfl⟩ := r1
      obtain ⟨t2, rfl⟩ := r2
      refine PySem.Flt.call_sum_walkF (sum_two i j) (PySem.W.iter_tupleW (A := X.A.in1) (I.ok.hd hc) hl fun s₂ e W st hfp hw hk => ?_)
      refine ⟨_, _, _, _, _, _, rfl, W, st, hfp, fun k v hv => ?_, fun s' v hn m => ?_⟩
      · match k, hv with
        | 0, hv => cases hv; exact ⟨_, rfl, .int _ _⟩
        | 1, hv => cases hv; exact ⟨_, rfl, .int _ _⟩
      · obtain ⟨h', tk, rfl, hk'⟩ := PySem.W.moved_old e rfl m
        cases hn
        exact ⟨.int _, H, I.kept hk', ⟨_, rfl⟩, q⟩
end Vg


set_option Elab.async false
set_option linter.all false
set_option maxRecDepth 100000
set_option maxHeartbeats 2000000
namespace Vg
open PySem PySem.Spec PyProof.Rows L2
/-! ### == and != by an own __eq__ -/
inductive YTy (H : Hp) : V → Value → Prop
  | ins {a C dx : Addr} {fs : List (Str × V)} (h : H a = some (.ins C dx fs)) : YTy H (.ref a) (.ref C)
  | lst {a : Addr} {xs : List V} (h : H a = some (.lst xs)) : YTy H (.ref a) (.type "list")
  | str (z : Str) : YTy H (.str z) (.type "str")
theorem YTy.looks {X : Cx} {pins : List (Addr × Obj)} {σ : L2.St} {H : Hp} {s : Shared} {y : V} {u tb : Value} (I : Inv X pins σ H s) (r : RelV y u) (h : YTy H y tb) (M : Model) : PySem.W.Looks M s.heap (typeOf u) tb := by
  cases h with
  | ins h =>
    cases (show u = Value.ref _ from r)
    obtain ⟨mA, O, _⟩ := ins_get I.hok h
    obtain ⟨od, J, _⟩ := O.look
    exact J.type
  | lst h =>
    cases (show u = Value.ref _ from r)
    obtain ⟨_, _, n, _, h1⟩ := (show ObjOk X.prog X.w H s.heap _ (.lst _) from I.hok _ _ h)
    exact (PySem.W.Looks.ld h1).andThen .now
  | str z =>
    obtain ⟨t, q⟩ := (show ∃ t, u = Value.str z t from r)
    cases q
    exact PySem.W.Looks.of_pure rfl
structure EqC (K : PySem.W.Frag) (C f : Addr) : Prop where
  eq : PySem.W.findIn K (.ref C) "__eq__" = some (some (.ref f))
  fn : PySem.W.isFn K (.ref f) = true
  ne : PySem.W.findIn K (.ref C) "__ne__" = some (some (.builtin "object.__ne__"))
  hm : PySem.W.mroIn K C (.type "object") = some true
def rOEq (K : PySem.W.Frag) (C : Addr) (sp : Sp) : R2 := fun x y H Q => ∃ a dx fs tb, x = .ref a ∧ H a = some (.ins C dx fs) ∧ YTy H y tb ∧ PySem.W.notFirst K C tb = true ∧ sp [x, y] H Q E0
def rONe (K : PySem.W.Frag) (C : Addr) (sp : Sp) : R2 := fun x y H Q => ∃ a dx fs tb, x = .ref a ∧ H a = some (.ins C dx fs) ∧ YTy H y tb ∧ PySem.W.notFirst K C tb = true ∧ sp [x, y] H (fun v H' => ∃ b, v = .bl b ∧ Q (.bl (!b)) H') E0
theorem ifBound_ne {M : Model} {A : Around} {E : Value → Shared → Prop} {s : Shared} {K : PySem.W.Frag} {x C : Addr} {ox : Obj} {od : Option Obj} {args : List Value} {Q : Option Value → Shared → Prop} (X : K.In s.heap) (I : PySem.W.InstAt s.heap x ox C od) (hs : PySem.W.findIn K (.ref C) "__ne__" = some (some (.builtin "object.__ne__")))
    (h : wpAny M A (call (.builtin "object.__ne__") (.ref x :: args)) (fun v => Q (some v)) E s) : wpAny M A (callSpecialIfBound? (.ref x) "__ne__" args) Q E s := by
  simp only [callSpecialIfBound?, bindSpecialIfBound?]
  refine wpAny_holding (wpAny_bind (wpAny_bind (wpAny_bind (I.type.here ((PySem.W.looks_findIn X hs).here ?_)))))
  refine wpAny_bind (wpAny_askSetting (wpAny_ite ?_))
  have fin : wpAny M A (call (.builtin "object.__ne__") ([.ref x] ++ args) >>= fun v => pure (some v)) Q E s := wpAny_bind (wpAny_mono h (fun v s' h' => wpAny_pure h') fun _ _ h' => h')
  split
  · exact wpAny_bind (wpAny_of_eq (PySem.F.cmp_object.ne.bind _) (wpAny_pure (by exact fin)))
  · exact wpAny_tryCatch (wpAny_bind (wpAny_of_eq (PySem.F.cmp_object.ne.bind _) (wpAny_pure (by exact fin))))
theorem objNe_own {prog : Program} {w : World} {A : Around} {E : Value → Shared → Prop} {s : Shared} {K : PySem.W.Frag} {x C f : Addr} {ox : Obj} {od : Option Obj} {b : Value} {Q : Fin → Shared → Prop} (X : K.In s.heap) (I : PySem.W.InstAt s.heap x ox C od) (hc : EqC K C f) (hu : A.units < cLine)
    (h : wpAny (model prog w) A (call (.ref f) [.ref x, b]) (fun v s' => ∃ r, v = .bool r ∧ Q (.done (.ret (.bool (!r)))) s') E s) : wpAny (model prog w) A (Builtin.«object.__ne__» ⟨[.ref x, b], []⟩) Q E s := by
  unfold Builtin.«object.__ne__»
  repeat (first
    | with_reducible refine wpAny_cRoomFor hu ?_
    | (refine wpAny_bind (m := callSpecialIfBound? (.ref x) (Str.ofString "__eq__") [b])
        (PySem.W.ifBound_K X I hc.eq hc.fn (wpAny_mono h (fun r s' hr => by
          obtain ⟨b, rfl, hq⟩ := hr
          repeat (first | exact hq | exact wpAny_pure hq | exact wpAny_truthy_bool hq | (refine wpAny_bind (m := truthy (.bool _)) (wpAny_truthy_bool ?_)) | wp_step)) fun _ _ e => e)))
    | wp_step)
section
variable {X : Cx} {CX : CXT} {n : Nat} {C f : Addr} {sp : Sp}
theorem op_oeq (c : EqC X.K C f) (F : FnR X.prog X.w X.K X.mg X.base CX n f sp) (hr : Room (n + 1) X.A) (hx : Passes CX X E0) : OpR X (compareOp .Eq) (rOEq X.K C sp) := by
  intro pins s σ H x y v u Q I rx ry h
  obtain ⟨a, dx, fs, tb, rfl, ha, hy, hn, q⟩ := h
  cases (show v = Value.ref a from rx)
  obtain ⟨mA, O, _⟩ := ins_get I.hok ha
  obtain ⟨od, J, _⟩ := O.look
  obtain ⟨m, hF⟩ := I.fr
  show wpAny (model X.prog X.w) X.A (richCompare .Eq (.ref a) u) _ _ _
  refine PySem.W.cmp_K (op := .Eq) (tb := tb) hr.units0 hF I.ok.mod.kin J (hy.looks I ry _) hn c.eq c.fn ?_
  refine wpAny_mono (wpAny_call (run_fnR (us := [.ref a, u]) (vs := [.ref a, y]) F (hr.mono (Nat.le_succ n)) hx I (.cons rfl (.cons ry .nil)) q)) (fun w s' z => ?_) fun _ _ x => x
  obtain ⟨z', H', I', rz, qz⟩ := z
  exact SlX.cmpback rz ⟨z', H', I', rz, qz⟩
theorem op_one (c : EqC X.K C f) (F : FnR X.prog X.w X.K X.mg X.base CX n f sp) (hr : Room (n + 1) X.A) (hx : Passes CX X E0) : OpR X (compareOp .NotEq) (rONe X.K C sp) := by
  intro pins s σ H x y v u Q I rx ry h
  obtain ⟨a, dx, fs, tb, rfl, ha, hy, hn, q⟩ := h
  cases (show v = Value.ref a from rx)
  obtain ⟨mA, O, _⟩ := ins_get I.hok ha
  obtain ⟨od, J, _⟩ := O.look
  have one : wpAny (model X.prog X.w) X.A (tryCompare (.ref a) (cmpInfo .NotEq).2.1 u) (fun r s' => ∃ v, r = some v ∧ EP X pins σ Q v s') X.xe s := by
    unfold tryCompare
    refine wpAny_bind (ifBound_ne I.kIn J c.ne (wpAny_call (codeAny_call_builtin PySem.F.cmp_object.ne.plain PySem.F.cmpEntry_ne (PySem.W.check_slot PySem.F.cmpKind_ne PySem.F.cmpSplit_ne (J.type.andThen (PySem.W.looks_mroIn I.kIn c.hm)) (PySem.F.cmpArgs_ne _ _) ?_))))
    refine objNe_own (A := X.A.in1) I.kIn J c hr.in1.units0 ?_
    refine wpAny_mono (wpAny_call (SlX.run_at (us := [.ref a, u]) (ws := [.ref a, y]) F hr.in1 I.env0.in1 hx I (.cons rfl (.cons ry .nil)) q)) (fun w s' z => ?_) fun _ _ x => x
    obtain ⟨z', H', I', rz, b, rfl, qz⟩ := z
    cases (show w = Value.bool b from rz)
    refine ⟨b, rfl, ?_⟩
    first
      | exact wpAny_pure ⟨_, rfl, ⟨.bl (!b), H', I', rfl, qz⟩⟩
      | exact ⟨_, rfl, ⟨.bl (!b), H', I', rfl, qz⟩⟩
  show wpAny (model X.prog X.w) X.A (richCompare .NotEq (.ref a) u) _ _ _
  unfold richCompare
  simp only [oneThing_ref]
  refine wpAny_holding (wpAny_bind (wpAny_cRoomFor hr.units0 ?_))
  refine wpAny_bind (J.type.here (wpAny_bind ((hy.looks I ry _).here ?_)))
  split
  · rename_i q
    have e : PySem.W.subIn X.K tb (.ref C) = some false := by
      rcases Bool.or_eq_true_iff.mp hn with e | e
      · rw [beq_iff_eq.mp e] at q; simp at q
      · exact beq_iff_eq.mp e
    refine wpAny_bind ((PySem.W.looks_subIn I.kIn e).here ?_)
    simp only [Bool.false_eq_true, if_false]
    refine wpAny_bind (wpAny_mono one (fun r s' z => ?_) fun _ _ e => e)
    obtain ⟨v, rfl, hq⟩ := z
    exact wpAny_pure hq
  · refine wpAny_bind (wpAny_pure ?_)
    simp only [Bool.false_eq_true, if_false]
    refine wpAny_bind (wpAny_mono one (fun r s' z => ?_) fun _ _ e => e)
    obtain ⟨v, rfl, hq⟩ := z
    exact wpAny_pure hq
end
/-- a op b of two objects with an own __eq__ -/
def OEqK (K : PySem.W.Frag) (C a : Addr) (y : V) (sp : Sp) (H : Hp) (Q : VK) : Prop := ∃ dx fs tb, H a = some (.ins C dx fs) ∧ YTy H y tb ∧ PySem.W.notFirst K C tb = true ∧ sp [.ref a, y] H Q E0
section
variable {K : PySem.W.Frag} {C a : Addr} {y : V} {sp : Sp} {H : Hp} {Q : VK}
theorem x_oeq : rOEq K C sp (.ref a) y H Q ↔ OEqK K C a y sp H Q := ⟨fun ⟨_, dx, fs, tb, e, r⟩ => by cases e; exact ⟨dx, fs, tb, r⟩, fun ⟨dx, fs, tb, r⟩ => ⟨a, dx, fs, tb, rfl, r⟩⟩
theorem x_one : rONe K C sp (.ref a) y H Q ↔ OEqK K C a y sp H fun v H' => ∃ b, v = .bl b ∧ Q (.bl (!b)) H' := ⟨fun ⟨_, dx, fs, tb, e, r⟩ => by cases e; exact ⟨dx, fs, tb, r⟩, fun ⟨dx, fs, tb, r⟩ => ⟨a, dx, fs, tb, rfl, r⟩⟩
theorem OEqK.own {dx b dy : Addr} {fs gs : List (Str × V)} (h : H a = some (.ins C dx fs)) (h2 : H b = some (.ins C dy gs)) (q : sp [.ref a, .ref b] H Q E0) : OEqK K C a (.ref b) sp H Q := ⟨dx, fs, _, h, .ins h2, by unfold PySem.W.notFirst; simp, q⟩
theorem notFirst_ty {T : String} (e : (fastBuiltinMro T).map (·.contains (Value.ref C)) = some false) : PySem.W.notFirst K C (.type T) = true := by
  unfold PySem.W.notFirst
  have : PySem.W.subIn K (.type T) (.ref C) = some false := e
  rw [this]
  simp
theorem OEqK.lst {dx b : Addr} {xs : List V} {fs : List (Str × V)} (h : H a = some (.ins C dx fs)) (h2 : H b = some (.lst xs)) (q : sp [.ref a, .ref b] H Q E0) : OEqK K C a (.ref b) sp H Q := ⟨dx, fs, _, h, .lst h2, notFirst_ty (by
  have e : fastBuiltinMro "list" = some [.type "list", .type "object"] := by decide +kernel
  rw [e]
  first | rfl | simp), q⟩
theorem OEqK.str {dx : Addr} {z : Str} {fs : List (Str × V)} (h : H a = some (.ins C dx fs)) (q : sp [.ref a, .str z] H Q E0) : OEqK K C a (.str z) sp H Q := ⟨dx, fs, _, h, .str z, notFirst_ty (by
  have e : fastBuiltinMro "str" = some [.type "str", .type "object"] := by decide +kernel
  rw [e]
  first | rfl | simp), q⟩
end
/-! ### isinstance of an instance -/
structure IsiC (K : PySem.W.Frag) (C : Addr) : Prop where
  cl : Cls K C
  si : SlX.SIsi K C
/-- isinstance(x, c): x of the own class D, or plain -/
def rIsW (K : PySem.W.Frag) : List V → Hp → VK → Prop := fun xs H Q => ∃ (x c : V) (t u : Value) (b : Bool), xs = [x, c] ∧ ClsV c u ∧ TyX K H x t ∧ PySem.W.kitOne K t u = some b ∧ Q (.bl b) H
theorem cr_isW {X : Cx} : CallR X (.builtin "isinstance") (rIsW X.K) := call_isi
def IsWK (K : PySem.W.Frag) (x c : V) (H : Hp) (G : Bool → Prop) : Prop := ∃ (t u : Value) (b : Bool), ClsV c u ∧ TyX K H x t ∧ PySem.W.kitOne K t u = some b ∧ G b
theorem x_isW {K : PySem.W.Frag} {x c : V} {H : Hp} {Q : VK} : rIsW K [x, c] H Q ↔ IsWK K x c H fun b => Q (.bl b) H := ⟨fun ⟨_, _, t, u, b, e, r⟩ => by cases e; exact ⟨t, u, b, r⟩, fun ⟨t, u, b, r⟩ => ⟨x, c, t, u, b, rfl, r⟩⟩
theorem IsWK.own {K : PySem.W.Frag} {C a dx : Addr} {fs : List (Str × V)} {H : Hp} {G : Bool → Prop} (c : IsiC K C) (h : H a = some (.ins C dx fs)) (q : G true) : IsWK K (.ref a) (.ref C) H G :=
  ⟨.ref C, .ref C, true, .own C, .base (.ins h c.cl c.si.ca c.si.cn c.si.ct c.si.cm), kit_self, q⟩
/-! ### int(n), len(d) -/
def rIntI : List V → Hp → VK → Prop := fun xs H Q => ∃ i, xs = [.int i] ∧ Q (.int i) H
theorem cr_intI {X : Cx} : CallR X (.type "int") rIntI := CallR.as call_int1 fun _ _ _ ⟨i, e, q⟩ => Or.inl ⟨i, e, q⟩
theorem x_intI {i : Int} {H : Hp} {Q : VK} : rIntI [.int i] H Q ↔ Q (.int i) H := ⟨fun ⟨_, e, q⟩ => by cases e; exact q, fun q => ⟨i, rfl, q⟩⟩
def LenDK (a : Addr) (H : Hp) (G : Int → Prop) : Prop := ∃ kvs : List (Key × V), H a = some (.dK kvs) ∧ G kvs.length
def rLenD : List V → Hp → VK → Prop := fun xs H Q => ∃ a kvs, xs = [V.ref a] ∧ H a = some (.dK kvs) ∧ Q (.int kvs.length) H
theorem cr_lenD {X : Cx} : CallR X (.builtin "len") rLenD := call_lenD
theorem x_lenD {a : Addr} {H : Hp} {Q : VK} : rLenD [.ref a] H Q ↔ LenDK a H fun i => Q (.int i) H := ⟨fun ⟨_, kvs, e, h, q⟩ => by cases e; exact ⟨kvs, h, q⟩, fun ⟨kvs, h, q⟩ => ⟨a, kvs, rfl, h, q⟩⟩
theorem LenDK.of {B : Hp} {l : List (Addr × HO)} {a : Addr} {kvs : List (Key × V)} {H : Hp} {G : Int → Prop} (L : Led B H l) (m : (a, HO.dK kvs) ∈ l) (q : G kvs.length) : LenDK a H G := ⟨kvs, L.at m, q⟩
end Vg


set_option Elab.async false
set_option linter.all false
set_option maxRecDepth 100000
set_option maxHeartbeats 4000000
namespace Vg
open PySem PySem.Spec PyProof.Rows L2
/-! ### set(xs) of a list of ints -/
abbrev set0 (w : World) : Obj := { cls := .type "set", dict := none, data := .set #[] 0 (.fresh 0 0 (!w.params.followText "set-order")) }
/-- what set(xs) leaves -/
def SetDone (w : World) (s : Shared) (ns : List Int) (s2 : Shared) : Prop := ∃ (g : Heap) (tk c : Nat), s2 = { s with heap := g, toks := tk } ∧ SetR w g s.heap.objs.size (fun j => decide (j ∈ ns)) c ∧ c ≤ ns.length ∧ ∀ b o, s.heap.get? b = some o → g.get? b = some o
theorem set_init_L {P : Program} {w : World} {A : Around} {E : Value → Shared → Prop} {s : Shared} {l : Addr} {items : Array Value} (ns : List Int) (hh : A.handled = none) (hl : s.heap.IsList l items) (hit : IntsAre items.toList ns) (hb : ns.length + 1 < scanBound) :
    codeAny (model P w) A (.call (.builtin "set.__init__") ⟨[.ref s.heap.objs.size, .ref l], []⟩) (wants (fun r s2 => r = .none ∧ SetDone w s ns s2) E) { s with heap := s.heap.push (set0 w) } := by
  have szi : items.size = ns.length := (Array.length_toList (xs := items)).symm.trans (IntsAre.length hit)
  have at0 : (s.heap.push (set0 w)).get? s.heap.objs.size = some (set0 w) := Heap.get?_push_size _ rfl
  have ty0 : Shared.TypeIs { s with heap := s.heap.push (set0 w) } (.ref s.heap.objs.size) "set" := ⟨_, at0, rfl⟩
  refine codeAny_call_builtin F.called_set.init.plain F.entry_set_init (check_set_init_1 ty0 ?_)
  obtain ⟨⟨oc, od, oda, osl⟩, ho, hc, n, hd⟩ := hl
  dsimp only at hc hd
  subst hc hd
  have ho1 : (s.heap.push (set0 w)).get? l = some ⟨.type "list", od, .seq items n, osl⟩ := Heap.get?_push_of_some _ ho
  have is1 : (s.heap.push (set0 w)).IsList l items := ⟨_, ho1, rfl, n, rfl⟩
  have q1 := F.sub_list_set
  have q2 := F.sub_list_frozenset
  have q3 : (Value.type "list" == Value.type "dict") = false := by decide
  have ll : l < s.heap.objs.size := Heap.lt_size ho
  have nI : l ≠ (s.heap.push (set0 w)).objs.size := by rw [Heap.size_push]; exact Nat.ne_of_lt (Nat.lt_succ_of_lt ll)
  have nS : s.heap.objs.size ∉ [(s.heap.push (set0 w)).objs.size, l] := by
    rw [Heap.size_push, List.mem_cons, List.mem_singleton, not_or]
    exact ⟨Nat.ne_of_lt (Nat.lt_succ_self _), Nat.ne_of_gt ll⟩
  have each : ∀ (i : Nat) (v : Value), items[i]? = some v → ∃ k t, ns[i]? = some k ∧ v = .int k t := fun i v hv => by
    have hi : i < ns.length := by rw [← szi]; exact (Array.getElem?_eq_some_iff.mp hv).1
    obtain ⟨t, e⟩ := PyProof.Rows.IntsAre.int_at hit i v (by rw [Array.getElem?_toList]; exact hv)
    rw [List.getD_eq_getElem?_getD, List.getElem?_eq_getElem hi] at e
    exact ⟨_, t, List.getElem?_eq_getElem hi, e⟩
  unfold Builtin.«set.__init__» noKeywords Builtin.Frozenset.updateFrom
  generalize hPI : pyIter = PI
  wp_walk
  subst hPI
  refine wpAny_pyIter_list is1 (wpAny_bind (wpAny_runValue ?_))
  refine set_update_ints (w := w) ((Walks.list (by simp [hh]) _ l nI items).toS) s.heap.objs.size nS ns szi hb each (items.size - 0) 0 _ (by omega) (Nat.zero_le _) ⟨⟨_, Heap.get?_push_size _ rfl, rfl, rfl⟩, (is1.push _)⟩ ⟨0, Nat.le_refl 0, setR_new_at (Heap.get?_push_of_some _ at0)⟩ ?_
  intro s9 c hm hc9 hS9
  obtain ⟨h9, g9, d9, t9, o9⟩ := s9
  have e1 : g9 = s.gens := hm.gens
  have e2 : d9 = s.drawn := hm.drawn
  have e3 : o9 = s.os := hm.os
  subst e1 e2 e3
  rw [szi] at hc9
  refine wpAny_pure (wpAny_pure ⟨rfl, h9, t9, c, rfl, hS9, hc9, fun b o hbo => hm.heap b o ?_ (Heap.get?_push_of_some _ (Heap.get?_push_of_some _ hbo))⟩)
  have hbl := Heap.lt_size hbo
  rw [Heap.size_push, List.mem_cons, List.mem_singleton, not_or]
  exact ⟨Nat.ne_of_lt hbl, Nat.ne_of_lt (Nat.lt_succ_of_lt hbl)⟩
theorem call_set_L {P : Program} {w : World} {A : Around} {E : Value → Shared → Prop} {s : Shared} {l : Addr} {items : Array Value} (ns : List Int) {Q : Value → Shared → Prop} (hh : A.handled = none) (hl : s.heap.IsList l items) (hit : IntsAre items.toList ns) (hb : ns.length + 1 < scanBound)
    (k : ∀ s2, SetDone w s ns s2 → Q (.ref s.heap.objs.size) s2) : wpAny (model P w) A (call (.type "set") [.ref l]) Q E s := by
  obtain ⟨c0, tl, hmro⟩ := F.called_set.mro
  have m1 := F.called_set.made
  have m2 := F.called_set.sub
  have m3 := F.called_set.notType
  have m4 := F.called_set.canCreate
  have m5 := F.typeCall_set_1 (.ref l)
  refine wpAny_call (codeAny_of_tree ?_)
  show wpAny _ _ (callAny (.type "set") _) _ _ _
  refine wpAny_pure ⟨Code.quiet_builtin _ (by decide +kernel), codeAny_builtin F.entry_type_call ?_⟩
  rw [Around.under_plain (weight_type_call_type "set" [.ref l] []) rfl]
  repeat (any_goals (first | assumption | wp_step))
  refine codeAny_mono (code_set_led1 (.ref l) (E := E) (Q₁ := fun obj s1 => obj = .ref s.heap.objs.size ∧ s1 = { s with heap := s.heap.push (set0 w) }) ⟨rfl, rfl⟩) fun r s1 hr => ?_
  match r, hr with
  | .error e, hr => exact hr
  | .ok (.ret obj), hr =>
    obtain ⟨rfl, rfl⟩ := hr
    have n1 := F.called_set.init.lookup
    have n2 := F.called_set.init.bind (.ref s.heap.objs.size)
    have ty0 : Shared.TypeIs { s with heap := s.heap.push (set0 w) } (.ref s.heap.objs.size) "set" := ⟨_, Heap.get?_push_size _ rfl, rfl⟩
    repeat (any_goals (first | assumption | wp_step))
    refine codeAny_mono (set_init_L (E := E) ns (by simpa using hh) hl hit hb) fun r2 s2 hr2 => ?_
    match r2, hr2 with
    | .error e, hr2 => exact hr2
    | .ok (.ret r), hr2 =>
      obtain ⟨rfl, D⟩ := hr2
      repeat (any_goals (first | assumption | wp_step))
      exact k _ D
/-- set(xs), sorted(set(xs)) -/
def rSetL (K : PySem.W.Frag) (w : World) : List V → Hp → VK → Prop := fun xs H Q => ∃ (l : Addr) (ns : List Int), xs = [.ref l] ∧ SqL K H l (ns.map V.int) ∧ ns.length ≤ 4000 ∧ ∀ p c, H p = none → c ≤ ns.length → Q (.ref p) (upd H p (SetO w p (fun k => decide (k ∈ ns)) c))
theorem cr_setL {X : Cx} (hc : X.calm = true) : CallR X (.type "set") (rSetL X.K X.w) := by
  intro pins s σ H xs us Q I r h
  obtain ⟨l, ns, rfl, hs, hn, q⟩ := h
  rw [Vals.ref1 r]
  obtain ⟨its, rv, pl, hz⟩ := I.list hs
  refine call_set_L ns (I.ok.hd hc) pl.isList (by simpa using ints_of_vals rv) (by unfold scanBound; omega) fun s2 D => ?_
  obtain ⟨g, tk, c, rfl, R, hc', hk⟩ := D
  have hp : H s.heap.objs.size = none := I.hok.fresh (Nat.le_refl _)
  exact ⟨.ref s.heap.objs.size, _, I.laid (t' := tk) hk (Nat.le_refl _) (setO_new R), rfl, q _ c hp hc'⟩
def SetLK (K : PySem.W.Frag) (w : World) (l : Addr) (H : Hp) (G : Addr → Hp → Prop) : Prop := ∃ ns : List Int, SqL K H l (ns.map V.int) ∧ ns.length ≤ 4000 ∧ ∀ p c, H p = none → c ≤ ns.length → G p (upd H p (SetO w p (fun k => decide (k ∈ ns)) c))
theorem x_mkset {K : PySem.W.Frag} {w : World} {l : Addr} {H : Hp} {Q : VK} : rSetL K w [.ref l] H Q ↔ SetLK K w l H fun p H1 => Q (.ref p) H1 := ⟨fun ⟨_, ns, e, r⟩ => by cases e; exact ⟨ns, r⟩, fun ⟨ns, r⟩ => ⟨l, ns, rfl, r⟩⟩
theorem SetLK.of {K : PySem.W.Frag} {w : World} {B H : Hp} {lg : List (Addr × HO)} {l : Addr} {ns : List Int} {G : Addr → Hp → Prop} (L : Led B H lg) (h : SqL K H l (ns.map V.int)) (hn : ns.length ≤ 4000) (k : ∀ p c H1, c ≤ ns.length → Led B H1 ((p, SetO w p (fun k => decide (k ∈ ns)) c) :: lg) → G p H1) : SetLK K w l H G :=
  ⟨ns, h, hn, fun p c hp hc => k p c _ hc (L.new hp)⟩
/-- sorted(a set of ints) -/
def SrtSK (w : World) (a : Addr) (H : Hp) (G : Addr → Hp → Prop) : Prop := ∃ (S : Int → Bool) (n : Nat), H a = some (SetO w a S n) ∧ n < 64 ∧ ∀ ns : List Int, ns.Pairwise (· < ·) → (∀ k : Int, k ∈ ns ↔ S k = true) → ns.length = n → NewK (.lst (ns.map V.int)) H G
theorem x_srtS {w : World} {a : Addr} {H : Hp} {Q : VK} : rSortedSet w [.ref a] H Q ↔ SrtSK w a H fun p H1 => Q (.ref p) H1 := ⟨fun ⟨_, S, n, e, h1, h2, q⟩ => by cases e; exact ⟨S, n, h1, h2, fun ns a b c p hp => q ns p a b c hp⟩, fun ⟨S, n, h1, h2, q⟩ => ⟨a, S, n, rfl, h1, h2, fun ns p a b c hp => q ns a b c p hp⟩⟩
theorem SrtSK.of {w : World} {B H : Hp} {lg : List (Addr × HO)} {a : Addr} {xs : List Int} {c : Nat} {G : Addr → Hp → Prop} (L : Led B H ((a, SetO w a (fun k => decide (k ∈ xs)) c) :: lg)) (hc : c < 64) (k : ∀ (ns : List Int) (p : Addr) (H1 : Hp), ns.Pairwise (· < ·) → (∀ k : Int, k ∈ ns ↔ k ∈ xs) → Led B H1 ((p, .lst (ns.map V.int)) :: lg) → G p H1) : SrtSK w a H G :=
  ⟨_, c, L.at List.mem_cons_self, hc, fun ns h1 h2 _ => NewK.of L fun p H1 L => k ns p H1 h1 (fun k => (h2 k).trans decide_eq_true_iff) (L.sel (.cons .hd (.skip .all)))⟩
/-! ### loops over more than lists -/
section
variable {K : PySem.W.Frag} {g : TG} {tb : TS} {D : Ends} {σ : L2.St} {H : Hp} {a b : Addr} {xs ys : List V}
theorem loop_gen {J : It} (n : Nat) (Pv : Nat → L2.St → Hp → Prop) (h0 : Pv 0 σ H)
    (hn : ∀ σ' H', Pv n σ' H' → J.stop n H' ∧ D.nx σ' H')
    (hs : ∀ i σ' H', i < n → Pv i σ' H' → J.go i H' ∧ ∀ x H2, J.yld i H' x H2 → g x σ' H2 fun σ2 H3 => tb { D with nx := fun s h => Pv (i + 1) s h, ct := fun s h => Pv (i + 1) s h, bk := D.nx } σ2 H3) : LoopK J g tb D σ H := by
  refine ⟨fun i m σ' H' => m = n - i ∧ i ≤ n ∧ Pv i σ' H', ⟨n, rfl, Nat.zero_le _, h0⟩, ?_⟩
  rintro i m σ' H' ⟨rfl, hi, r⟩
  by_cases c : i < n
  · obtain ⟨r1, r2⟩ := hs i σ' H' c r
    exact Or.inr ⟨r1, fun σ2 H'' => Pv (i + 1) σ2 H'', fun σ2 H'' z => ⟨n - (i + 1), by omega, rfl, c, z⟩, fun x H2 y => r2 x H2 y⟩
  · have e : i = n := by omega
    subst e
    exact Or.inl (hn σ' H' r)
theorem loop_zip (hl : xs.length = ys.length) (Pv : Nat → L2.St → Hp → Prop) (h0 : Pv 0 σ H) (hq : ∀ i σ' H', Pv i σ' H' → SqL K H' a xs ∧ SqL K H' b ys)
    (hs : ∀ i x y σ' H' (N : L2.St → Hp → Prop), xs[i]? = some x → ys[i]? = some y → Pv i σ' H' → (∀ σ2 H2, Pv (i + 1) σ2 H2 → N σ2 H2) → NewK (.tup [x, y]) H' fun t H2 => g (.ref t) σ' H2 fun σ2 H3 => tb { D with nx := N, ct := N, bk := D.nx } σ2 H3)
    (hd : ∀ σ' H', Pv xs.length σ' H' → D.nx σ' H') : LoopK (Itz K a b) g tb D σ H := by
  refine loop_gen xs.length Pv h0 (fun σ' H' r => ⟨?_, hd σ' H' r⟩) fun i σ' H' hi r => ?_
  · obtain ⟨q1, q2⟩ := hq _ _ _ r
    exact ⟨xs, ys, q1, q2, Or.inl (Nat.le_refl _)⟩
  · obtain ⟨q1, q2⟩ := hq _ _ _ r
    have hi2 : i < ys.length := by omega
    refine ⟨⟨xs, ys, _, _, q1, q2, List.getElem?_eq_getElem hi, List.getElem?_eq_getElem hi2⟩, ?_⟩
    rintro v H2 ⟨T, x, y, rfl, hT, rfl, f1, f2⟩
    exact hs i x y σ' _ _ (f1 xs q1) (f2 ys q2) r (fun σ2 H3 z => z) T hT
theorem loop_enum (Pv : Nat → L2.St → Hp → Prop) (h0 : Pv 0 σ H) (hq : ∀ i σ' H', Pv i σ' H' → SqL K H' a xs)
    (hs : ∀ i x σ' H' (N : L2.St → Hp → Prop), xs[i]? = some x → Pv i σ' H' → (∀ σ2 H2, Pv (i + 1) σ2 H2 → N σ2 H2) → NewK (.tup [.int (i : Nat), x]) H' fun t H2 => g (.ref t) σ' H2 fun σ2 H3 => tb { D with nx := N, ct := N, bk := D.nx } σ2 H3)
    (hd : ∀ σ' H', Pv xs.length σ' H' → D.nx σ' H') : LoopK (Ite K a) g tb D σ H := by
  refine loop_gen xs.length Pv h0 (fun σ' H' r => ⟨⟨xs, hq _ _ _ r, Nat.le_refl _⟩, hd σ' H' r⟩) fun i σ' H' hi r => ?_
  refine ⟨⟨xs, xs[i], hq _ _ _ r, List.getElem?_eq_getElem hi⟩, ?_⟩
  rintro v H2 ⟨t, x, rfl, ht, rfl, hx⟩
  exact hs i x σ' _ _ (hx xs (hq _ _ _ r)) r (fun σ2 H3 z => z) t ht
end
theorem k_cxw {C : CXT} {P : Program} {w : World} {K : PySem.W.Frag} {mg : Str → Option Value} {bs : Heap} {N : List Str} {qual : Str} {sc : Scope} {f : Addr} {cd : Value} {A : Around} {fr : List Env} {s : Shared} {H : Hp} {E : XK} :
    (cxOf C P w K mg bs N qual sc f cd A fr s H E).w = w := rfl
end Vg


set_option Elab.async false
set_option linter.all false
set_option maxRecDepth 100000
set_option maxHeartbeats 2000000
namespace Vg
open PySem PySem.Spec PyProof.Rows L2
/-! ### {(..): v} -/
def tD1T (tk tv : TE) : TE := fun σ H Q => ∀ p, H p = none → tk σ (upd H p (.dT [])) fun y H1 => tv σ H1 fun v H2 => ∃ (k : List Key) (b : Addr), y = .ref b ∧ H2 p = some (.dT []) ∧ H2 b = some (.tup (k.map kV)) ∧ Q (.ref p) (upd H2 p (.dT [(k, v)]))
theorem pe_d1T {X : Cx} {pos : Pos} {k e : Expr} {tk tv : TE} (hu : X.A.units + 1 < cLine) (hk : PE X k tk) (he : PE X e tv) : PE X (.Dict [some k] [e] pos) (tD1T tk tv) := by
  refine ⟨fun pins s σ H Q I q => ?_⟩
  have hn := I.hok.fresh (Nat.le_refl s.heap.objs.size)
  have I1 := I.laid (a := s.heap.objs.size) (o := .dT []) (h' := s.heap.push { cls := .type "dict", data := .dict #[] }) (t' := s.toks) (fun _ _ q => Heap.get?_push_of_some _ q) (Nat.le_refl _) (dt_empty s.heap I.big)
  refine wpAny_Dict_any rfl rfl (fun z => by cases z) (show 1 ≤ 15 by decide) (pairTrees_cons_walk (thn (hk.run pins _ σ _ _ I1 (q _ hn)) fun u s1 ⟨y, H1, I2, ry, q1⟩ =>
    thn (he.run pins s1 σ H1 _ I2 q1) fun w2 s2 ⟨v, H2, I3, rv, kk, b, ey, e1, e2, q2⟩ => pairTrees_nil_walk ?_))
  subst ey
  cases (show u = Value.ref b from ry)
  obtain ⟨z, hd, xs, rel, dd⟩ := dt_of I3.hok e1
  cases rel
  unfold storeAll
  rw [List.forIn_cons]
  refine wpAny_bind (wpAny_bind (wpAny_dictSet_heap (hsz := by decide) (knd := tupleKind (mixKind X.prog X.w)) (by show X.A.units < cLine; omega) (key_of I3.hok e2) dd fun h' dd' hs => wpAny_pure ?_))
  dsimp only
  rw [List.forIn_nil]
  refine wpAny_pure ⟨.ref s.heap.objs.size, _, ?_, rfl, q2⟩
  obtain ⟨o, es, ep, hq, h2, h3, h4, _, h5⟩ := dd'
  refine d_write I3 (by rw [e1]; exact True.intro) hs ⟨o, hq⟩ ⟨show 1 ≤ sizeLine by decide, hd, _, ((KT.put (kvs := []) (xs := []) (y := v) .nil kk e2 rv).keeps fun c ys ec => ?_), o, es, ep, hq, h2, h3, h4, h5⟩
  rw [upd_ne (ne_of ec e1 (fun z => nomatch z))]
  exact ec
/-! ### for k, v in d.items(), the keys tuples: the dict stays locked behind -/
section
variable {X : Cx} {pins : List (Addr × Obj)} {σ : L2.St} {H : Hp} {s : Shared} {d : Addr} {o : Obj}
theorem Inv.frzTv {kvs : List (List Key × V)} (I : L2.Inv X pins σ H s) (h : H d = some (.frz o (.dT kvs))) :
    (d == sysModules) = false ∧ s.heap.get? d = some o ∧ o.ExactDict ∧ ∃ (es : Array DictEntry) (ep : Nat), o.data = .dict es ep ∧ es.size = kvs.length ∧
      ∀ (i : Nat) (k : List Key) (v : V), kvs[i]? = some (k, v) → ∃ (en : DictEntry) (q : Addr), es[i]? = some en ∧ en.key = .ref q ∧ RelV v en.val ∧ H q = some (.tup (k.map kV)) := by
  obtain ⟨hd, z, hs, xs, pr, o', es, ep, ho, hx, hdt, he, _⟩ := I.hok d _ h
  rw [hd] at ho
  cases ho
  refine ⟨hs, hd, hx, es, ep, hdt, ?_, fun i k v e => ?_⟩
  · have l1 : es.size = xs.length := size_of_entries he
    have l2 : kvs.length = xs.length := Paired.length pr
    omega
  · obtain ⟨b, hb, e1, e2, e3⟩ := paired_get pr e
    have q := entry_at he i
    rw [hb] at q
    exact ⟨_, b.2.1, q, rfl, e3, e2⟩
end
/-- the pairs, each a new tuple over the key's own tuple -/
def Itit (d : Addr) (o : Obj) (kvs : List (List Key × V)) : It :=
  ⟨fun i H => H d = some (.frz o (.dT kvs)) ∧ i < kvs.length, fun i H x H' => ∃ T k v q, kvs[i]? = some (k, v) ∧ x = .ref T ∧ H T = none ∧ H q = some (.tup (k.map kV)) ∧ H' = upd H T (.tup [.ref q, v]), fun i H => H d = some (.frz o (.dT kvs)) ∧ kvs.length ≤ i⟩
theorem turn_itemsT {P : Program} {w : World} {K : PySem.W.Frag} {d : Addr} {o : Obj} {es : Array DictEntry} {ep : Nat} {kvs : List (List Key × V)} {elts : List Expr} {kk : Nat} {tpos : Pos} (it : Addr) (hod : o.data = .dict es ep) :
    Turn P w K (.Tuple elts kk tpos) (Itit d o kvs) [it] it (fun i h => ∃ ok ov, IsItemIter h it d i kvs.length ep ok ov) where
  mem := by simp
  obj := fun i h st b hb => by
    have e : b = it := by simpa using hb
    subst e
    obtain ⟨ok, ov, e⟩ := st
    exact ⟨_, e, fun v z => nomatch z⟩
  keep := fun i h h' st k => let ⟨ok, ov, e⟩ := st; ⟨ok, ov, k it (by simp) _ e⟩
  item := by
    intro X hP hw hK hc i pins s σ H E I hf st hg
    subst hP hw hK
    obtain ⟨hd, hi⟩ := hg
    obtain ⟨hs, hgd, hx, es', ep', hdt, hsz, ent⟩ := Inv.frzTv I hd
    obtain ⟨rfl, rfl⟩ := dict_ep hod hdt
    obtain ⟨⟨k, v⟩, hkv⟩ : ∃ p, kvs[i]? = some p := ⟨kvs[i], List.getElem?_eq_getElem hi⟩
    obtain ⟨en, q, hen, hkey, hval, hq⟩ := ent i k v hkv
    obtain ⟨ok, ov, he⟩ := st
    rw [← hsz] at he
    have hlt : it < s.heap.objs.size := Heap.lt_size he
    have hi2 : i < es'.size := by omega
    have een : es'[i] = en := by rw [Array.getElem?_eq_getElem hi2] at hen; exact Option.some.inj hen
    refine DT.nextI he ⟨_, hgd, hx, hdt⟩ hi2 fun h' ho hT hz hk => ?_
    rw [een, hkey] at ho hT
    refine ⟨_, rfl, wpAny_letOwnedTupleGo_items (s := { s with heap := h' }) ho fun h'' he' sb => ?_⟩
    have hT2 : h''.get? s.heap.objs.size = some { cls := .type "tuple", data := .seq #[.ref q, en.val] } := (sb.2 _ (Nat.ne_of_gt hlt)).trans hT
    have new : ObjOk X.prog X.w (upd H s.heap.objs.size (.tup [.ref q, v])) h'' s.heap.objs.size (.tup [.ref q, v]) :=
      ⟨by show 2 ≤ sizeLine; decide, [.ref q, en.val], .cons rfl (.cons hval .nil), ⟨_, hT2, rfl, _, rfl⟩⟩
    have I1 : L2.Inv X pins σ (upd H s.heap.objs.size (.tup [.ref q, v])) { s with heap := h'' } :=
      I.turnedNew (t' := s.toks) (ch := [it]) (fun b ob hb e => (sb.2 b (by simpa using hb)).trans (hk b ob (by simpa using hb) e)) hf (Nat.le_refl _) new
    refine ⟨.ref s.heap.objs.size, _, I1, rfl, ⟨_, k, v, q, hkv, rfl, I.hok.fresh (Nat.le_refl _), hq, rfl⟩, ⟨.ref q, en.val, ?_⟩, fun b hb => ?_⟩
    · rw [← hsz]; exact he'
    · have e : b = it := by simpa using hb
      rw [e, upd_ne (Nat.ne_of_lt hlt)]
      exact (hf it (by simp)).1
  done := by
    intro X hP hw hK hc i pins s σ H E I hf st hg
    subst hP hw hK
    obtain ⟨hd, hi⟩ := hg
    obtain ⟨f0, f1, f2, f3, f4, f5⟩ := hf it (by simp)
    obtain ⟨hs, hgd, hx, es', ep', hdt, hsz, ent⟩ := Inv.frzTv I hd
    obtain ⟨rfl, rfl⟩ := dict_ep hod hdt
    obtain ⟨ok, ov, he⟩ := st
    rw [← hsz] at he
    exact DT.endI (I.ok.hd hc) he ⟨_, hgd, hx, hdt⟩ (by omega) fun h' eb => ⟨rfl, I.turned (t' := s.toks) (fun b ob hb e => eb b ob hb e) f0 f1 f3 f4 f5⟩
  self := fun A i s Q E st h => let ⟨_, _, e⟩ := st; PySem.W.kcp_self e h
def iItemsN (td : TE) : TI := fun σ H R => td σ H fun x H1 => ∃ d kvs, x = .ref d ∧ H1 d = some (.dT kvs) ∧ ∀ o, R (Itit d o kvs) (upd H1 d (.frz o (.dT kvs)))
theorem pi_itemsN {X : Cx} {e : Expr} {td : TE} {apos cpos : Pos} {elts : List Expr} {kk : Nat} {tpos : Pos} (he : PE X e td) (hbase : attributeBase e "items" X.env (eval e X.env) = eval e X.env := by rfl) (hline : (apos.endLine == cpos.line) = true := by rfl) :
    PI X (.Tuple elts kk tpos) (.Call (.Attribute e "items" apos) [] [] cpos) (iItemsN td) := by
  refine ⟨fun pins s σ H R I h => ?_⟩
  refine wpAny_Call_method (T := "dict") (id := "dict.items") hbase rfl hline F.plainAttrs_dict F.slot_dict_items F.type_dict_items (thn (he.run pins s σ H _ I h) fun u s1 ⟨x, H1, I1, rx, d, kvs, ex, hd, q⟩ => ?_)
  subst ex
  obtain rfl : u = Value.ref d := rx
  obtain ⟨od, I2⟩ := I1.lock hd True.intro
  have q := q od
  have hfd : (upd H1 d (.frz od (.dT kvs))) d = some (.frz od (.dT kvs)) := upd_same
  obtain ⟨hs, hgd, hx, es, ep, hdt, hsz, ent⟩ := Inv.frzTv I2 hfd
  have hm : DT.Raw s1.heap d es ep := ⟨_, hgd, hx, hdt⟩
  refine ⟨hm.typeIs, fun a e => by cases e; exact ⟨_, hgd, hx.2.1⟩, ?_⟩
  have I3 : L2.Inv X pins σ (upd H1 d (.frz od (.dT kvs))) { s1 with heap := s1.heap.push { cls := .type "dict_items", data := .fields #[.ref d] } } := I2.kept (t' := s1.toks) fun b ob q => Heap.get?_push_of_some _ q
  have fin : wpAny (model X.prog X.w) X.A (pyIter (.ref s1.heap.objs.size)) (PIE X pins σ (.Tuple elts kk tpos) R) X.xe { s1 with heap := s1.heap.push { cls := .type "dict_items", data := .fields #[.ref d] } } := by
    refine DT.iterI (d := d) ⟨_, Heap.get?_push_size _ rfl, rfl, rfl⟩ (hm.push _) (pi_one (tk := s1.toks) I3 _ (turn_itemsT _ hdt) ⟨.none, .none, ?_⟩ q)
    rw [← hsz]
    exact Heap.get?_push_size _ rfl
  show wpAny _ _ (callWith cpos (.builtin "dict.items") [.ref d] [] []) _ X.xe s1
  exact method_meetsIn F.slot_dict_items F.entry_dict_items rfl (PySem.evalArgs_none ⟨rfl, hm.typeIs, F.args_dict_items_1 _, _, DT.meetsItems hs, ⟨hm, fin⟩⟩)
/-- for k in d, the dict locked behind -/
def iKeysN (td : TE) : TI := fun σ H R => td σ H fun x H1 => ∃ d kvs, x = .ref d ∧ H1 d = some (.dT kvs) ∧ ∀ o, R (Itkt d o kvs) (upd H1 d (.frz o (.dT kvs)))
theorem pi_keysN {X : Cx} {tg e : Expr} {td : TE} (he : PE X e td) : PI X tg e (iKeysN td) := by
  refine ⟨fun pins s σ H R I h => ?_⟩
  refine thn (he.run pins s σ H _ I h) fun u s1 ⟨x, H1, I1, rx, d, kvs, ex, hd, q⟩ => ?_
  subst ex
  obtain rfl : u = Value.ref d := rx
  obtain ⟨od, I2⟩ := I1.lock hd True.intro
  have q := q od
  have hfd : (upd H1 d (.frz od (.dT kvs))) d = some (.frz od (.dT kvs)) := upd_same
  obtain ⟨hs, hgd, hx, es, ep, hdt, hsz, ent⟩ := I2.frzT hfd
  refine iter_keys hs hgd hx hdt (pi_one (tk := s1.toks) I2 _ (turn_keysT _ hdt) ⟨_, Heap.get?_push_size _ rfl, rfl, ?_⟩ q)
  rw [hsz] <;> rfl
section
variable {B H : Hp} {l l' : List (Addr × HO)} {p d : Addr} {o : HO} {od : Obj} {kvs : List (List Key × V)} {σ : L2.St} {td : TE} {R : It → Hp → Prop}
/-- walked dicts of the ledger -/
def WlkK (d : Addr) (H : Hp) (G : List (List Key × V) → Obj → Hp → Prop) : Prop := ∃ kvs, H d = some (.dT kvs) ∧ ∀ o, G kvs o (upd H d (.frz o (.dT kvs)))
theorem i_itemsN : iItemsN td σ H R = td σ H fun x H1 => ∃ d, x = .ref d ∧ WlkK d H1 fun kvs o H2 => R (Itit d o kvs) H2 := propext (by
  unfold iItemsN WlkK
  exact Iff.of_eq (congrArg (td σ H) (funext fun x => funext fun H1 => propext ⟨fun ⟨d, kvs, e, h⟩ => ⟨d, e, kvs, h⟩, fun ⟨d, e, kvs, h⟩ => ⟨d, kvs, e, h⟩⟩)))
theorem i_keysN : iKeysN td σ H R = td σ H fun x H1 => ∃ d, x = .ref d ∧ WlkK d H1 fun kvs o H2 => R (Itkt d o kvs) H2 := propext (by
  unfold iKeysN WlkK
  exact Iff.of_eq (congrArg (td σ H) (funext fun x => funext fun H1 => propext ⟨fun ⟨d, kvs, e, h⟩ => ⟨d, e, kvs, h⟩, fun ⟨d, e, kvs, h⟩ => ⟨d, kvs, e, h⟩⟩)))
theorem WlkK.of {G : List (List Key × V) → Obj → Hp → Prop} {l'' : Obj → List (Addr × HO)} (L : Led B H l) (m : (d, HO.dT kvs) ∈ l) (t : ∀ o, Put l d (.frz o (.dT kvs)) (l'' o)) (k : ∀ o H1, Led B H1 (l'' o) → G kvs o H1) : WlkK d H G :=
  ⟨kvs, L.at m, fun o => k o _ (L.put (t o))⟩
/-- a tuple that stands joins what is kept -/
theorem Led.grab {xs : List V} (L : Led B H l) (h : H p = some (.tup xs)) (hl : ∀ e ∈ l, ∀ ys, e.2 ≠ .tup ys) : ∃ B', Same B B' ∧ B' p = some (.tup xs) ∧ Led B' H l := by
  have ne : ∀ e ∈ l, e.1 ≠ p := fun e he z => by
    have h2 := L.hs e he
    rw [z, h] at h2
    exact hl e he xs (Option.some.inj h2).symm
  refine ⟨upd B p (.tup xs), fun a o z => ?_, upd_same, ⟨fun a o z => ?_, L.nd, fun e he => ?_, L.hs⟩⟩
  · by_cases c : a = p
    · subst c
      rw [upd_same]
      have := L.sm _ _ z
      rw [h] at this
      exact this
    · rw [upd_ne c]; exact z
  · by_cases c : a = p
    · subst c
      rw [upd_same] at z
      rw [← z]; exact h
    · rw [upd_ne c] at z
      exact L.sm _ _ z
  · rw [upd_ne (ne e he)]; exact L.fr e he
end
section
variable {K : PySem.W.Frag} {g : TG} {tb : TS} {D : Ends} {σ : L2.St} {H : Hp} {d : Addr} {o : Obj} {kvs : List (List Key × V)}
theorem loop_itemsT (Pv : Nat → L2.St → Hp → Prop) (h0 : Pv 0 σ H) (hq : ∀ i σ' H', Pv i σ' H' → H' d = some (.frz o (.dT kvs)))
    (hs : ∀ i k v q σ' H' (N : L2.St → Hp → Prop), kvs[i]? = some (k, v) → Pv i σ' H' → H' q = some (.tup (k.map kV)) → (∀ σ2 H2, Pv (i + 1) σ2 H2 → N σ2 H2) → NewK (.tup [.ref q, v]) H' fun t H2 => g (.ref t) σ' H2 fun σ2 H3 => tb { D with nx := N, ct := N, bk := D.nx } σ2 H3)
    (hd : ∀ σ' H', Pv kvs.length σ' H' → D.nx σ' H') : LoopK (Itit d o kvs) g tb D σ H := by
  refine loop_gen kvs.length Pv h0 (fun σ' H' r => ⟨⟨hq _ _ _ r, Nat.le_refl _⟩, hd σ' H' r⟩) fun i σ' H' hi r => ⟨⟨hq _ _ _ r, hi⟩, ?_⟩
  rintro x H2 ⟨T, k, v, q, hkv, rfl, hT, hqq, rfl⟩
  exact hs i k v q σ' _ _ hkv r hqq (fun σ2 H3 z => z) T hT
theorem loop_keysT (Pv : Nat → L2.St → Hp → Prop) (h0 : Pv 0 σ H) (hq : ∀ i σ' H', Pv i σ' H' → H' d = some (.frz o (.dT kvs)))
    (hs : ∀ i k v q σ' H' (N : L2.St → Hp → Prop), kvs[i]? = some (k, v) → Pv i σ' H' → H' q = some (.tup (k.map kV)) → (∀ σ2 H2, Pv (i + 1) σ2 H2 → N σ2 H2) → g (.ref q) σ' H' fun σ2 H3 => tb { D with nx := N, ct := N, bk := D.nx } σ2 H3)
    (hd : ∀ σ' H', Pv kvs.length σ' H' → D.nx σ' H') : LoopK (Itkt d o kvs) g tb D σ H := by
  refine loop_gen kvs.length Pv h0 (fun σ' H' r => ⟨⟨hq _ _ _ r, Nat.le_refl _⟩, hd σ' H' r⟩) fun i σ' H' hi r => ⟨⟨hq _ _ _ r, hi⟩, ?_⟩
  rintro x H2 ⟨rfl, k, v, q, hkv, rfl, hqq⟩
  exact hs i k v q σ' _ _ hkv r hqq (fun σ2 H3 z => z)
end
/-! ### zip of a tuple and a list -/
def ItzTL (K : PySem.W.Frag) (a b : Addr) : It :=
  ⟨fun i H => ∃ (xs ys : List V) (x y : V), SqT K H a xs ∧ SqL K H b ys ∧ xs[i]? = some x ∧ ys[i]? = some y,
    fun i H v H' => ∃ T x y, v = .ref T ∧ H T = none ∧ H' = upd H T (.tup [x, y]) ∧ (∀ xs, SqT K H a xs → xs[i]? = some x) ∧ ∀ ys, SqL K H b ys → ys[i]? = some y,
    fun i H => ∃ xs ys : List V, SqT K H a xs ∧ SqL K H b ys ∧ i = min xs.length ys.length⟩
theorem turn_zipTL {P : Program} {w : World} {K : PySem.W.Frag} {elts : List Expr} {kk : Nat} {tpos : Pos} {a b z TI TO i1 i2 : Addr} (D : ZipSep2 z TI TO i1 i2 [i1, a] [i2, b]) (ha : a ≠ i1) (hb : b ≠ i2) :
    Turn P w K (.Tuple elts kk tpos) (ItzTL K a b) [z, TI, TO, i1, i2] z (fun i h => IsZip h z TI TO .none ∧ IsTupOf2 h TI (.ref i1) (.ref i2) ∧ (∃ x y, IsTupOf2 h TO x y) ∧ h.IsTupleIter i1 a i ∧ h.IsListIter i2 b i) where
  mem := by simp
  obj := fun i h st c hc => by
    obtain ⟨hz, hTI, ⟨x, y, hTO⟩, ⟨o1, e1, _, d1⟩, ⟨o2, e2, _, d2⟩⟩ := st
    have e' : c = z ∨ c = TI ∨ c = TO ∨ c = i1 ∨ c = i2 := by simpa using hc
    rcases e' with q | q | q | q | q
    · rw [q]; exact ⟨_, hz, fun v q => nomatch q⟩
    · rw [q]; exact ⟨_, hTI, fun v q => nomatch q⟩
    · rw [q]; exact ⟨_, hTO, fun v q => nomatch q⟩
    · rw [q]; exact ⟨o1, e1, fun v q => by rw [d1] at q; cases q⟩
    · rw [q]; exact ⟨o2, e2, fun v q => by rw [d2] at q; cases q⟩
  keep := fun i h h' st k => by
    obtain ⟨hz, hTI, ⟨x, y, hTO⟩, h1, h2⟩ := st
    exact ⟨k z (by simp) _ hz, k TI (by simp) _ hTI, ⟨x, y, k TO (by simp) _ hTO⟩, h1.at fun o q => k i1 (by simp) o q, h2.at fun o q => k i2 (by simp) o q⟩
  item := by
    intro X hP hw hK hc i pins s σ H E I hf st hg
    subst hP hw hK
    obtain ⟨hz, hTI, ⟨x0, y0, hTO⟩, h1, h2⟩ := st
    obtain ⟨xs, ys, x, y, hqx, hqy, hx, hy⟩ := hg
    obtain ⟨its, rv, p, _⟩ := I.tuple hqx
    obtain ⟨its2, rv2, p2, _⟩ := I.list hqy
    obtain ⟨u, hu, ru⟩ := rv.get hx
    obtain ⟨u2, hu2, ru2⟩ := rv2.get hy
    have hzl : z < s.heap.objs.size := Heap.lt_size hz
    have hh : X.A.in1.handled = none := I.ok.hd hc
    have st1 : s.heap.IsTupleIter i1 a i ∧ s.heap.IsTuple a its.toArray := ⟨h1, p⟩
    have st2 : s.heap.IsListIter i2 b i ∧ s.heap.IsList b its2.toArray := ⟨h2, p2.isList⟩
    have n1 : i < its.toArray.size := by have := (List.getElem?_eq_some_iff.mp hu).1; simpa using this
    have n2 : i < its2.toArray.size := by have := (List.getElem?_eq_some_iff.mp hu2).1; simpa using this
    refine wpAny_pyNext_zipD2_item D (Draws.tuple hh i1 a ha its.toArray) (Draws.list hh i2 b hb its2.toArray) hz hTI hTO st1 st2 n1 n2 fun x1 x2 h' tk e1 e2 z' TO' s1' s2' hT hsz hk => ?_
    obtain rfl : x1 = u := by
      have e1 : its.toArray[i]? = some x1 := e1
      rw [List.getElem?_toArray, hu] at e1
      exact (Option.some.inj e1).symm
    obtain rfl : x2 = u2 := by
      have e2 : its2.toArray[i]? = some x2 := e2
      rw [List.getElem?_toArray, hu2] at e2
      exact (Option.some.inj e2).symm
    refine ⟨_, rfl, wpAny_letOwnedTupleGo_zip (s := { s with heap := h', toks := tk }) z' fun h'' z'' sb => ?_⟩
    have hT2 : h''.get? s.heap.objs.size = some { cls := .type "tuple", data := .seq #[x1, x2] } := (sb.2 _ (Nat.ne_of_gt hzl)).trans hT
    have new : ObjOk X.prog X.w (upd H s.heap.objs.size (.tup [x, y])) h'' s.heap.objs.size (.tup [x, y]) :=
      ⟨by show 2 ≤ sizeLine; decide, [x1, x2], .cons ru (.cons ru2 .nil), ⟨_, hT2, rfl, _, rfl⟩⟩
    have I1 : L2.Inv X pins σ (upd H s.heap.objs.size (.tup [x, y])) { s with heap := h'', toks := tk } :=
      I.turnedNew (t' := tk) (ch := [z, TI, TO, i1, i2]) (fun c o hb q => (sb.2 c (fun q' => hb (by simp [q']))).trans (hk c o (fun q' => hb (by simp [q'])) (fun q' => hb (by simp [q'])) (fun q' => hb (by simp [q'])) (fun q' => hb (by simp [q'])) q)) hf (Nat.le_refl _) new
    refine ⟨.ref s.heap.objs.size, _, I1, rfl, ⟨_, x, y, rfl, I.hok.fresh (Nat.le_refl _), rfl, fun l hl => by rw [I.tuple_inj hl hqx]; exact hx, fun l hl => by rw [I.list_inj hl hqy]; exact hy⟩, ⟨z'', ?_, ⟨x1, x2, ?_⟩, ?_, ?_⟩, fun c hcm => ?_⟩
    · exact (sb.2 _ D.TIz).trans (hk _ _ D.TIz D.TITO D.TIi1 D.TIi2 hTI)
    · exact (sb.2 _ D.TOz).trans TO'
    · exact s1'.1.at fun o q => (sb.2 _ (Ne.symm D.zi1)).trans q
    · exact s2'.1.at fun o q => (sb.2 _ (Ne.symm D.zi2)).trans q
    · have hlt : c < s.heap.objs.size := by
        have e' : c = z ∨ c = TI ∨ c = TO ∨ c = i1 ∨ c = i2 := by simpa using hcm
        rcases e' with q | q | q | q | q
        · rw [q]; exact hzl
        · rw [q]; exact Heap.lt_size hTI
        · rw [q]; exact Heap.lt_size hTO
        · rw [q]; obtain ⟨_, e1, _⟩ := h1; exact Heap.lt_size e1
        · rw [q]; obtain ⟨_, e2, _⟩ := h2; exact Heap.lt_size e2
      rw [upd_ne (Nat.ne_of_lt hlt)]
      exact (hf c hcm).1
  done := by
    intro X hP hw hK hc i pins s σ H E I hf st hg
    subst hP hw hK
    obtain ⟨hz, hTI, ⟨x0, y0, hTO⟩, h1, h2⟩ := st
    obtain ⟨xs, ys, hqx, hqy, hend⟩ := hg
    obtain ⟨its, rv, p, _⟩ := I.tuple hqx
    obtain ⟨its2, rv2, p2, _⟩ := I.list hqy
    have l1 := rv.length
    have l2 := rv2.length
    have hh : X.A.in1.handled = none := I.ok.hd hc
    have st1 : s.heap.IsTupleIter i1 a i ∧ s.heap.IsTuple a its.toArray := ⟨h1, p⟩
    have st2 : s.heap.IsListIter i2 b i ∧ s.heap.IsList b its2.toArray := ⟨h2, p2.isList⟩
    exact wpAny_pyNext_zipD2_end D (Draws.tuple hh i1 a ha its.toArray) (Draws.list hh i2 b hb its2.toArray) hz hTI hTO st1 st2 (by simp; omega) (by simp; omega) (by simp; omega) fun h' tk hk => ⟨rfl, I.turnedL (t' := tk) (ch := [z, TI, TO, i1, i2]) (fun c o hb q =>
      hk c o (fun q' => hb (by simp [q'])) (fun q' => hb (by simp [q'])) (fun q' => hb (by simp [q'])) (fun q' => hb (by simp [q'])) q) hf⟩
  self := fun A i s Q E st h => wpAny_pyIter_zip st.1 h
def iZipTL (K : PySem.W.Frag) (ta : TA) : TI := fun σ H R => ta σ H fun vs H1 => ∃ a b xs ys, vs = [.ref a, .ref b] ∧ SqT K H1 a xs ∧ SqL K H1 b ys ∧ R (ItzTL K a b) H1
theorem pi_zipTL {X : Cx} {e e2 : Expr} {ta : TA} {p pos tpos : Pos} {elts : List Expr} {kk : Nat} (hg : Gl X "zip") (hm : X.mg "zip" = none) (ha : PA X [e, e2] ta)
    (hs : starEach [e, e2] X.env = (false, eval e X.env) :: starEach [e2] X.env := by rfl) (hpl : (backTo pos (starEach [e2] X.env)).any (·.1) = false := by rfl) :
    PI X (.Tuple elts kk tpos) (.Call (.Name "zip" p) [e, e2] [] pos) (iZipTL X.K ta) := by
  refine ⟨fun pins s σ H R I h => ?_⟩
  refine Call_ (ld_blt I hg hm PyProof.Rows.boot_zip (PyProof.Rows.callWith_type1 (thn (ha.run pos pins s σ H _ I h) fun us s1 ⟨vs, H1, I1, r1, q1⟩ => ?_) hs hpl))
  obtain ⟨a, b, xs, ys, ex, hqx, hqy, q⟩ := q1
  subst ex
  cases r1 with
  | cons r rr =>
    cases rr with
    | cons r' rr =>
      cases rr
      cases r
      cases r'
      obtain ⟨its, rv, p1, _⟩ := I1.tuple hqx
      obtain ⟨its2, rv2, p2, _⟩ := I1.list hqy
      have la : a < s1.heap.objs.size := p1.lt
      have lb : b < s1.heap.objs.size := p2.lt
      refine zip_begins2 (begins_tuple a its.toArray) (begins_list b its2.toArray) p1 p2.isList fun h' hz hTI hTO h1 h2 hsz hk => wpAny_pyIter_zip hz ?_
      have I2 : L2.Inv X pins σ H1 { s1 with heap := h' } := I1.kept (t' := s1.toks) hk
      refine ⟨s1.heap.objs.size + 4, [s1.heap.objs.size + 4, s1.heap.objs.size + 2, s1.heap.objs.size + 3, s1.heap.objs.size, s1.heap.objs.size + 1], _, _, H1, rfl, I2, turn_zipTL (zip_sep2 (fun c hc => by rw [List.mem_singleton.mp hc]; exact la) (fun c hc => by rw [List.mem_singleton.mp hc]; exact lb)) (Nat.ne_of_lt la) (Nat.ne_of_lt (Nat.lt_succ_of_lt lb)), ⟨hz, hTI, ⟨_, _, hTO⟩, ⟨_, h1, rfl, rfl⟩, ⟨_, h2, rfl, rfl⟩⟩, fun c hcm => ?_, q⟩
      have e' : c = s1.heap.objs.size + 4 ∨ c = s1.heap.objs.size + 2 ∨ c = s1.heap.objs.size + 3 ∨ c = s1.heap.objs.size ∨ c = s1.heap.objs.size + 1 := by simpa using hcm
      have hle : s1.heap.objs.size ≤ c := by
        rcases e' with z | z | z | z | z
        · rw [z]; exact Nat.le_add_right _ _
        · rw [z]; exact Nat.le_add_right _ _
        · rw [z]; exact Nat.le_add_right _ _
        · rw [z]; exact Nat.le_refl _
        · rw [z]; exact Nat.le_add_right _ _
      exact I1.fpOk hle (I1.hok.fresh hle)
section
variable {K : PySem.W.Frag} {g : TG} {tb : TS} {D : Ends} {σ : L2.St} {H : Hp} {a b : Addr} {xs ys : List V} {ta : TA} {R : It → Hp → Prop}
theorem i_zipTL : iZipTL K ta σ H R = ta σ H fun vs H1 => ∃ a b, vs = [.ref a, .ref b] ∧ (∃ xs, SqT K H1 a xs) ∧ (∃ ys, SqL K H1 b ys) ∧ R (ItzTL K a b) H1 := propext (by
  unfold iZipTL
  exact Iff.of_eq (congrArg (ta σ H) (funext fun x => funext fun H1 => propext ⟨fun ⟨a, b, xs, ys, e, h1, h2, h3⟩ => ⟨a, b, e, ⟨xs, h1⟩, ⟨ys, h2⟩, h3⟩, fun ⟨a, b, e, ⟨xs, h1⟩, ⟨ys, h2⟩, h3⟩ => ⟨a, b, xs, ys, e, h1, h2, h3⟩⟩)))
theorem loop_zipTL (hl : xs.length = ys.length) (Pv : Nat → L2.St → Hp → Prop) (h0 : Pv 0 σ H) (hq : ∀ i σ' H', Pv i σ' H' → SqT K H' a xs ∧ SqL K H' b ys)
    (hs : ∀ i x y σ' H' (N : L2.St → Hp → Prop), xs[i]? = some x → ys[i]? = some y → Pv i σ' H' → (∀ σ2 H2, Pv (i + 1) σ2 H2 → N σ2 H2) → NewK (.tup [x, y]) H' fun t H2 => g (.ref t) σ' H2 fun σ2 H3 => tb { D with nx := N, ct := N, bk := D.nx } σ2 H3)
    (hd : ∀ σ' H', Pv xs.length σ' H' → D.nx σ' H') : LoopK (ItzTL K a b) g tb D σ H := by
  refine loop_gen xs.length Pv h0 (fun σ' H' r => ⟨?_, hd σ' H' r⟩) fun i σ' H' hi r => ?_
  · obtain ⟨q1, q2⟩ := hq _ _ _ r
    exact ⟨xs, ys, q1, q2, by omega⟩
  · obtain ⟨q1, q2⟩ := hq _ _ _ r
    have hi2 : i < ys.length := by omega
    refine ⟨⟨xs, ys, _, _, q1, q2, List.getElem?_eq_getElem hi, List.getElem?_eq_getElem hi2⟩, ?_⟩
    rintro v H2 ⟨T, x, y, rfl, hT, rfl, f1, f2⟩
    exact hs i x y σ' _ _ (f1 xs q1) (f2 ys q2) r (fun σ2 H3 z => z) T hT
end
/-! ### enumerate of a tuple -/
set_option maxHeartbeats 4000000 in
theorem meets_enumerate_newB1 {v : Value} {o : Obj} {H : Heap → Prop} (B : Begins v o H) :
    Meets (Builtin.«enumerate.__new__» ⟨[.type "enumerate", v], []⟩) (fun _ R s => H s.heap ∧
      R (.ok (.ret (.ref (s.heap.push o).objs.size))) { s with heap := (s.heap.push o).push { cls := .type "enumerate", data := .fields #[.none, .bool false, .ref s.heap.objs.size, rawInt 0, .none, .none] } }) :=
  .of_wp fun prog w A R s h => by
    obtain ⟨hp, g, d, tk, os⟩ := s; obtain ⟨h1, h⟩ := h
    have hsub := sub_enumerate
    have q1 : ∀ {A' : Around} {E : Value → Shared → Prop} {Q : Value → Shared → Prop}, Q (.ref hp.objs.size) ⟨hp.push o, g, d, tk, os⟩ → wpAny (model prog w) A' (pyIter v) Q E ⟨hp, g, d, tk, os⟩ :=
      fun q => B.iter prog w _ _ ⟨hp, g, d, tk, os⟩ _ h1 q
    wp_walk using q1
    refine wpAny_stack_any fun st => wpAny_pure ?_
    split
    · rename_i c _ _ _ _ _
      cases (c == Value.type "enumerate")
      · wp_walk using q1
        exact ⟨_, rfl, h⟩
      · wp_walk using q1
        exact ⟨_, rfl, h⟩
    · wp_walk using q1
      exact ⟨_, rfl, h⟩
theorem enum_begins1 {prog : Program} {w : World} {A : Around} {E : Value → Shared → Prop} {s : Shared} {v : Value} {o : Obj} {H : Heap → Prop} {Q : Value → Shared → Prop} (B : Begins v o H) (h1 : H s.heap)
    (h : ∀ h', IsEnum h' (s.heap.objs.size + 1) s.heap.objs.size 0 .none → h'.get? s.heap.objs.size = some o → h'.objs.size = s.heap.objs.size + 2 →
      (∀ b o, s.heap.get? b = some o → h'.get? b = some o) → Q (.ref (s.heap.objs.size + 1)) { s with heap := h' }) :
    wpAny (model prog w) A (call (.type "enumerate") [v]) Q E s := by
  refine callType_new F.called_enumerate (by decide) (F.typeCall_enumerate_1 _) (F.newCall_enumerate_1 _) (fun obj => F.args_object_init_2 obj _) F.entry_enumerate_new
    (meets_enumerate_newB1 B) ⟨h1, ?_⟩
  have hz : (s.heap.push o).objs.size = s.heap.objs.size + 1 := Heap.size_push ..
  show _ ∧ _
  rw [hz]
  have he : IsEnum ((s.heap.push o).push { cls := .type "enumerate", data := .fields #[.none, .bool false, .ref s.heap.objs.size, rawInt 0, .none, .none] }) (s.heap.objs.size + 1) s.heap.objs.size 0 .none := by
    have := Heap.get?_push_size (s.heap.push o) (o := { cls := .type "enumerate", data := .fields #[.none, .bool false, .ref s.heap.objs.size, rawInt 0, .none, .none] }) rfl
    rw [hz] at this; exact this
  refine ⟨⟨_, he, rfl⟩, h _ he (Heap.get?_push_of_some _ (Heap.get?_push_size _ B.free)) (by rw [Heap.size_push, hz]) fun b o x => Heap.get?_push_of_some _ (Heap.get?_push_of_some _ x)⟩
def IteT (K : PySem.W.Frag) (a : Addr) : It :=
  ⟨fun i H => ∃ (xs : List V) (x : V), SqT K H a xs ∧ xs[i]? = some x, fun i H v H' => ∃ T x, v = .ref T ∧ H T = none ∧ H' = upd H T (.tup [.int (i : Nat), x]) ∧ ∀ xs, SqT K H a xs → xs[i]? = some x, fun i H => ∃ xs : List V, SqT K H a xs ∧ i = xs.length⟩
theorem turn_enumT {P : Program} {w : World} {K : PySem.W.Frag} {elts : List Expr} {kk : Nat} {tpos : Pos} (a e it : Addr) (ha : a ≠ it) (hea : e ≠ a) :
    Turn P w K (.Tuple elts kk tpos) (IteT K a) [e, it] e (fun i h => (∃ old, IsEnum h e it ((i : Nat) : Int) old) ∧ h.IsTupleIter it a i ∧ e ≠ it) where
  mem := by simp
  obj := fun i h st b hb => by
    obtain ⟨⟨old, he⟩, ⟨o, ho, hc, hd⟩, _⟩ := st
    have e' : b = e ∨ b = it := by simpa using hb
    rcases e' with z | z
    · rw [z]; exact ⟨_, he, fun v q => nomatch q⟩
    · rw [z]; exact ⟨o, ho, fun v q => by rw [hd] at q; cases q⟩
  keep := fun i h h' st k => let ⟨⟨old, he⟩, hi, hne⟩ := st; ⟨⟨old, k e (by simp) _ he⟩, hi.at fun o q => k it (by simp) o q, hne⟩
  item := by
    intro X hP hw hK hc i pins s σ H E I hf st hg
    subst hP hw hK
    obtain ⟨⟨old, he⟩, hit, hne⟩ := st
    obtain ⟨xs, x, hq, hx⟩ := hg
    obtain ⟨its, rv, p, hz⟩ := I.tuple hq
    obtain ⟨u, hu, ru⟩ := rv.get hx
    have hel : e < s.heap.objs.size := Heap.lt_size he
    have hil : it < s.heap.objs.size := by obtain ⟨_, q, _⟩ := hit; exact Heap.lt_size q
    have hh : X.A.in1.handled = none := I.ok.hd hc
    have st1 : s.heap.IsTupleIter it a i ∧ s.heap.IsTuple a its.toArray := ⟨hit, p⟩
    have n1 : i < its.toArray.size := by have := (List.getElem?_eq_some_iff.mp hu).1; simpa using this
    refine wpAny_pyNext_enum_itemC (Draws.tuple hh it a ha its.toArray) he st1 n1 hne (by simp [hne, hea]) fun x1 h' tk e1 ho s1' hT hsz hk => ?_
    obtain rfl : x1 = u := by
      have e1 : its.toArray[i]? = some x1 := e1
      rw [List.getElem?_toArray, hu] at e1
      exact (Option.some.inj e1).symm
    refine ⟨_, rfl, wpAny_letOwnedTupleGo_enum (s := { s with heap := h', toks := tk + 1 }) ho fun h'' he' sb => ?_⟩
    have hT2 : h''.get? s.heap.objs.size = some { cls := .type "tuple", data := .seq #[.int i tk, x1] } := (sb.2 _ (Nat.ne_of_gt hel)).trans hT
    have new : ObjOk X.prog X.w (upd H s.heap.objs.size (.tup [.int (i : Nat), x])) h'' s.heap.objs.size (.tup [.int (i : Nat), x]) :=
      ⟨by show 2 ≤ sizeLine; decide, [.int i tk, x1], .cons ⟨_, rfl⟩ (.cons ru .nil), ⟨_, hT2, rfl, _, rfl⟩⟩
    have I1 : L2.Inv X pins σ (upd H s.heap.objs.size (.tup [.int (i : Nat), x])) { s with heap := h'', toks := tk + 1 } :=
      I.turnedNew (ch := [e, it]) (fun b ob hb q => (sb.2 b (fun z => hb (by simp [z]))).trans (hk b ob (fun z => hb (by simp [z])) (fun z => hb (by simp [z])) q)) hf (Nat.le_refl _) new
    refine ⟨.ref s.heap.objs.size, _, I1, rfl, ⟨_, x, rfl, I.hok.fresh (Nat.le_refl _), rfl, fun ys hy => by rw [I.tuple_inj hy hq]; exact hx⟩, ⟨⟨x1, ?_⟩, s1'.1.at fun o q => (sb.2 it (Ne.symm hne)).trans q, hne⟩, fun b hb => ?_⟩
    · have e1 : ((i + 1 : Nat) : Int) = (i : Int) + 1 := by omega
      rw [e1]; exact he'
    · have hb' : b < s.heap.objs.size := by
        have e' : b = e ∨ b = it := by simpa using hb
        rcases e' with z | z
        · rw [z]; exact hel
        · rw [z]; exact hil
      rw [upd_ne (Nat.ne_of_lt hb')]
      exact (hf b hb).1
  done := by
    intro X hP hw hK hc i pins s σ H E I hf st hg
    subst hP hw hK
    obtain ⟨⟨old, he⟩, hit, hne⟩ := st
    obtain ⟨xs, hq, hx⟩ := hg
    obtain ⟨its, rv, p, hz⟩ := I.tuple hq
    obtain ⟨f0, f1, f2, f3, f4, f5⟩ := hf it (by simp)
    have hl := rv.length
    have hh : X.A.in1.handled = none := I.ok.hd hc
    have st1 : s.heap.IsTupleIter it a its.toArray.size ∧ s.heap.IsTuple a its.toArray := ⟨by rw [show its.toArray.size = i by simp; omega]; exact hit, p⟩
    exact wpAny_pyNext_enum_endD (Draws.tuple hh it a ha its.toArray) he st1 fun h' eb => ⟨rfl, I.turned (t' := s.toks) (fun b o hb q => eb b o hb q) f0 f1 f3 f4 f5⟩
  self := fun A i s Q E st h => let ⟨⟨_, he⟩, _⟩ := st; wpAny_pyIter_enum he h
def iEnumT (K : PySem.W.Frag) (ta : TA) : TI := fun σ H R => ta σ H fun vs H1 => ∃ a xs, vs = [.ref a] ∧ SqT K H1 a xs ∧ R (IteT K a) H1
theorem pi_enumT {X : Cx} {e : Expr} {ta : TA} {p pos tpos : Pos} {elts : List Expr} {kk : Nat} (hg : Gl X "enumerate") (hm : X.mg "enumerate" = none) (ha : PA X [e] ta) (hs : starEach [e] X.env = [(false, eval e X.env)] := by rfl) :
    PI X (.Tuple elts kk tpos) (.Call (.Name "enumerate" p) [e] [] pos) (iEnumT X.K ta) := by
  refine ⟨fun pins s σ H R I h => ?_⟩
  refine Call_ (ld_blt I hg hm boot_enumerate (PyProof.Rows.callWith_type1 (thn (ha.run pos pins s σ H _ I h) fun us s1 ⟨vs, H1, I1, r1, q1⟩ => ?_) hs rfl))
  obtain ⟨a, xs, ex, hq, q⟩ := q1
  subst ex
  cases r1 with
  | cons r rr =>
    cases rr
    cases r
    obtain ⟨its, rv, p', hz⟩ := I1.tuple hq
    have la : a < s1.heap.objs.size := p'.lt
    refine enum_begins1 (begins_tuple a its.toArray) p' fun h' he hit hsz hk => wpAny_pyIter_enum he ?_
    have I2 : L2.Inv X pins σ H1 { s1 with heap := h' } := I1.kept (t' := s1.toks) hk
    refine ⟨s1.heap.objs.size + 1, [s1.heap.objs.size + 1, s1.heap.objs.size], _, _, H1, rfl, I2, turn_enumT a (s1.heap.objs.size + 1) s1.heap.objs.size (Nat.ne_of_lt la) (Nat.ne_of_gt (Nat.lt_succ_of_lt la)), ⟨⟨.none, he⟩, ⟨_, hit, rfl, rfl⟩, Nat.succ_ne_self _⟩, fun b hb => ?_, q⟩
    have e' : b = s1.heap.objs.size + 1 ∨ b = s1.heap.objs.size := by simpa using hb
    have hle : s1.heap.objs.size ≤ b := by
      rcases e' with z | z
      · rw [z]; exact Nat.le_add_right _ _
      · rw [z]; exact Nat.le_refl _
    exact I1.fpOk hle (I1.hok.fresh hle)
section
variable {K : PySem.W.Frag} {g : TG} {tb : TS} {D : Ends} {σ : L2.St} {H : Hp} {a : Addr} {xs : List V} {ta : TA} {R : It → Hp → Prop}
theorem i_enumT : iEnumT K ta σ H R = ta σ H fun vs H1 => ∃ a xs, vs = [.ref a] ∧ SqT K H1 a xs ∧ R (IteT K a) H1 := propext ⟨fun h => h, fun h => h⟩
theorem loop_enumT (Pv : Nat → L2.St → Hp → Prop) (h0 : Pv 0 σ H) (hq : ∀ i σ' H', Pv i σ' H' → SqT K H' a xs)
    (hs : ∀ i x σ' H' (N : L2.St → Hp → Prop), xs[i]? = some x → Pv i σ' H' → (∀ σ2 H2, Pv (i + 1) σ2 H2 → N σ2 H2) → NewK (.tup [.int (i : Nat), x]) H' fun t H2 => g (.ref t) σ' H2 fun σ2 H3 => tb { D with nx := N, ct := N, bk := D.nx } σ2 H3)
    (hd : ∀ σ' H', Pv xs.length σ' H' → D.nx σ' H') : LoopK (IteT K a) g tb D σ H := by
  refine loop_gen xs.length Pv h0 (fun σ' H' r => ⟨⟨xs, hq _ _ _ r, rfl⟩, hd σ' H' r⟩) fun i σ' H' hi r => ?_
  refine ⟨⟨xs, xs[i], hq _ _ _ r, List.getElem?_eq_getElem hi⟩, ?_⟩
  rintro v H2 ⟨t, x, rfl, ht, rfl, hx⟩
  exact hs i x σ' _ _ (hx xs (hq _ _ _ r)) r (fun σ2 H3 z => z) t ht
end
/-! ### a dict == an empty one -/
theorem samePairs0 {prog : Program} {w : World} {A : Around} {E : Value → Shared → Prop} {s : Shared} {nm : String} {a b : Addr} {es : Array DictEntry} {ep ep' : Nat} {Q : Bool → Shared → Prop} (ha : (a == sysModules) = false) (hb : (b == sysModules) = false)
    (da : DT.Raw s.heap a es ep) (db : DT.Raw s.heap b #[] ep') (h : Q (es.size == 0) s) : wpAny (model prog w) A (Builtin.Dict.samePairs nm a b) Q E s := by
  obtain ⟨oa, hoa, _, hda⟩ := da
  obtain ⟨ob, hob, _, hdb⟩ := db
  unfold Builtin.Dict.samePairs Builtin.Dict.showsAll
  rw [if_neg (show ¬ (a == sysModules) = true by rw [ha]; exact Bool.false_ne_true), if_neg (show ¬ (b == sysModules) = true by rw [hb]; exact Bool.false_ne_true)]
  refine wpAny_bind (wpAny_pure (wpAny_bind (wpAny_pure ?_)))
  refine wpAny_bind (wpAny_dictEntries hoa hda ?_)
  dsimp only
  refine wpAny_bind (wpAny_dictEntries hob hdb ?_)
  by_cases hsz : es.size = 0
  case neg =>
    rw [if_pos (by simpa using hsz)]
    have hbf : (es.size == 0) = false := by simpa using hsz
    rw [hbf] at h
    exact wpAny_bind (wpAny_rule (wpAny_pure h))
  case pos =>
    rw [hsz] at h
    rw [if_neg (by rw [hsz]; simp)]
    refine wpAny_bind (wpAny_dictEpoch hoa hda ?_)
    refine wpAny_bind ?_
    rw [Std.Legacy.Range.forIn_eq_forIn_range']
    simp only [Std.Legacy.Range.size, Nat.sub_zero, Nat.add_sub_cancel, Nat.div_one, hsz, List.range'_zero]
    rw [List.forIn_nil]
    exact wpAny_pure (wpAny_pure h)
theorem rc_empty {prog : Program} {w : World} {A : Around} {E : Value → Shared → Prop} {s : Shared} {a b : Addr} {es : Array DictEntry} {ep ep' : Nat} {Q : Value → Shared → Prop} (ha : (a == sysModules) = false) (hb : (b == sysModules) = false)
    (da : DT.Raw s.heap a es ep) (db : DT.Raw s.heap b #[] ep') (hu : A.units < cLine) (h : Q (.bool (es.size == 0)) s) : wpAny (model prog w) A (richCompare .Eq (.ref a) (.ref b)) Q E s := by
  refine wpAny_richCompare_same_room (op := .Eq) da.typeIs db.typeIs PySem.F.slot_dict_eq (wpAny_call_entry PySem.F.slot_dict_eq da.typeIs PySem.F.entry_dict_eq ?_ (PySem.F.args_dict_eq_2 _ _)) hu
  show wpAny _ _ (Builtin.Dict.dictSlotArgs "__eq__" ⟨[.ref a, .ref b], []⟩ >>= _) _ _ s
  refine wpAny_bind ?_
  unfold Builtin.Dict.dictSlotArgs
  refine wpAny_bind (wpAny_notOrdered_dict da.typeIs ?_)
  show wpAny _ _ (pure (Value.ref a, Value.ref b)) _ _ s
  refine wpAny_pure ?_
  refine wpAny_bind (wpAny_isInstance (T := "dict") db.typeIs PySem.F.sub_dict_dict ?_)
  simp only [Bool.not_true, Bool.false_eq_true, if_false]
  refine wpAny_bind (wpAny_pure (wpAny_bind (wpAny_pure ?_)))
  refine wpAny_bind (samePairs0 ha hb da db ?_)
  refine wpAny_pure ⟨_, rfl, ?_, ?_⟩
  · exact fun x => nomatch x
  · simpa using h
theorem dictOf_raw {prog : Program} {w : World} {κ : Type} [DecidableEq κ] {knd : KeyKind prog w κ} {h : Heap} {a : Addr} {kvs : List (κ × Value)} (d : h.DictOf knd a kvs) : ∃ es ep, DT.Raw h a es ep ∧ es.size = kvs.length := by
  obtain ⟨o, es, ep, h1, h2, h3, h4, h5, _⟩ := d
  exact ⟨es, ep, ⟨o, h1, h2, h3⟩, by rw [← h5.length]; exact Array.length_toList.symm⟩
/-- the dict at a has n items -/
def DLen (H : Hp) (a : Addr) (n : Nat) : Prop := (∃ kvs, Rd H a (.dT kvs) ∧ n = kvs.length) ∨ ∃ kvs, Rd H a (.dK kvs) ∧ n = kvs.length
theorem DLen.raw {X : Cx} {pins : List (Addr × Obj)} {σ : L2.St} {H : Hp} {s : Shared} {a : Addr} {n : Nat} (I : L2.Inv X pins σ H s) (d : DLen H a n) : (a == sysModules) = false ∧ ∃ es ep, DT.Raw s.heap a es ep ∧ es.size = n := by
  rcases d with ⟨kvs, hr, rfl⟩ | ⟨kvs, hr, rfl⟩
  · obtain ⟨z, hd, xs, pr, o, es, ep, ho, hx, hdt, he, hn⟩ := (show ObjOk X.prog X.w H s.heap a (.dT kvs) from hr.ok I.hok)
    have l1 : es.size = xs.length := size_of_entries he
    have l2 : kvs.length = xs.length := Paired.length pr
    exact ⟨hd, es, ep, ⟨o, ho, hx, hdt⟩, by omega⟩
  · obtain ⟨z, hd, vs, rel, dd⟩ := dk_rd I.hok hr
    obtain ⟨es, ep, r, e⟩ := dictOf_raw dd
    exact ⟨hd, es, ep, r, by rw [e, ← rel.length]⟩
def rEqE : R2 := fun x y H Q => ∃ a b n, x = .ref a ∧ y = .ref b ∧ DLen H a n ∧ DLen H b 0 ∧ Q (.bl (n == 0)) H
theorem op_eqE {X : Cx} (hu : X.A.units + 64 < cLine) : OpR X (compareOp .Eq) rEqE := by
  intro pins s σ H x y v u Q I rx ry h
  obtain ⟨a, b, n, rfl, rfl, da, db, q⟩ := h
  cases (show v = Value.ref a from rx)
  cases (show u = Value.ref b from ry)
  obtain ⟨h1, es, ep, r1, e1⟩ := da.raw I
  obtain ⟨h2, es2, ep2, r2, e2⟩ := db.raw I
  cases Array.size_eq_zero_iff.mp e2
  show wpAny (model X.prog X.w) X.A (richCompare .Eq (.ref a) (.ref b)) _ _ _
  refine rc_empty h1 h2 r1 r2 (by omega) ⟨.bl (n == 0), H, I, by rw [e1]; rfl, q⟩
def EqEK (a b : Addr) (H : Hp) (G : Bool → Prop) : Prop := ∃ n, DLen H a n ∧ DLen H b 0 ∧ G (n == 0)
theorem x_eqE {a b : Addr} {H : Hp} {Q : VK} : rEqE (.ref a) (.ref b) H Q ↔ EqEK a b H fun c => Q (.bl c) H := ⟨fun ⟨_, _, n, e1, e2, d1, d2, q⟩ => by cases e1; cases e2; exact ⟨n, d1, d2, q⟩, fun ⟨n, d1, d2, q⟩ => ⟨a, b, n, rfl, rfl, d1, d2, q⟩⟩
theorem EqEK.t {B H : Hp} {l : List (Addr × HO)} {a b : Addr} {kvs : List (List Key × V)} {G : Bool → Prop} (h1 : H a = some (.dT kvs)) (h2 : H b = some (.dT [])) (q : G kvs.isEmpty) : EqEK a b H G :=
  ⟨kvs.length, .inl ⟨kvs, .inl h1, rfl⟩, .inl ⟨[], .inl h2, rfl⟩, by rw [show (kvs.length == 0) = kvs.isEmpty by cases kvs <;> rfl]; exact q⟩
/-! ### x is True, x is False -/
theorem x_isB {a b : Bool} {H : Hp} {Q : VK} : rIsB (.bl a) (.bl b) H Q ↔ Q (.bl (decide (a = b))) H := ⟨fun ⟨_, _, e1, e2, q⟩ => by cases e1; cases e2; exact q, fun q => ⟨a, b, rfl, rfl, q⟩⟩
theorem x_notB {a b : Bool} {H : Hp} {Q : VK} : rNotB (.bl a) (.bl b) H Q ↔ Q (.bl (!decide (a = b))) H := ⟨fun ⟨_, _, e1, e2, q⟩ => by cases e1; cases e2; exact q, fun q => ⟨a, b, rfl, rfl, q⟩⟩
/-! ### list(d) -/
def rLstD : List V → Hp → VK → Prop := fun xs H Q => ∃ d kvs, xs = [V.ref d] ∧ Rd H d (.dT kvs) ∧ ∀ p bs, H p = none → IsKeys H kvs bs → Q (.ref p) (upd H p (.lst (bs.map V.ref)))
theorem cr_lstD {X : Cx} (hc : X.calm = true) : CallR X (.type "list") rLstD := call_list_dT hc
def LstDK (d : Addr) (H : Hp) (G : Addr → Hp → Prop) : Prop := ∃ kvs, Rd H d (.dT kvs) ∧ ∀ bs, IsKeys H kvs bs → NewK (.lst (bs.map V.ref)) H G
theorem x_lstD {d : Addr} {H : Hp} {Q : VK} : rLstD [.ref d] H Q ↔ LstDK d H fun p H1 => Q (.ref p) H1 := ⟨fun ⟨_, kvs, e, h, q⟩ => by cases e; exact ⟨kvs, h, fun bs hk p hp => q p bs hp hk⟩, fun ⟨kvs, h, q⟩ => ⟨d, kvs, rfl, h, fun p bs hp hk => q bs hk p hp⟩⟩
/-! ### sum of a tuple of ints -/
theorem fold_ints : ∀ (ns : List Int) (a : Int), PySem.W.Num.foldFrom PySem.W.Num.add (.int a) (ns.map .int) = some (.int (a + ns.sum))
  | [], a => by rw [List.map_nil, List.sum_nil, Int.add_zero]; rfl
  | b :: r, a => by
    rw [List.map_cons, List.sum_cons, ← Int.add_assoc, ← fold_ints r (a + b)]
    rfl
theorem sum_ints : ∀ (ns : List Int) (a : Int), PySem.W.Num.sumInts a (ns.map .int) = some (.int (a + ns.sum))
  | [], a => by rw [List.map_nil, List.sum_nil, Int.add_zero]; rfl
  | b :: r, a => by
    rw [List.map_cons, List.sum_cons, ← Int.add_assoc]
    unfold PySem.W.Num.sumInts
    split
    · exact sum_ints r (a + b)
    · exact fold_ints r (a + b)
def rSumN (K : PySem.W.Frag) : List V → Hp → VK → Prop := fun vs H Q => ∃ (a : Addr) (ns : List Int), vs = [.ref a] ∧ SqT K H a (ns.map V.int) ∧ Q (.int ns.sum) H
theorem ints_vals : ∀ {ns : List Int} {its : List Value}, Vals (ns.map V.int) its → ∀ (k : Nat) (v : Value), its[k]? = some v → ∃ i t, ns[k]? = some i ∧ v = .int i t
  | [], _, .nil, k, v, h => by simp at h
  | n :: r, _, .cons ⟨t, e⟩ rr, 0, v, h => by cases h; exact ⟨n, t, rfl, e⟩
  | n :: r, _, .cons _ rr, k + 1, v, h => ints_vals (ns := r) rr k v h
theorem cr_sumN {X : Cx} (hc : X.calm = true) : CallR X (.builtin "sum") (rSumN X.K) := by
  intro pins s σ H vs us Q I r h
  obtain ⟨a, ns, rfl, hs, q⟩ := h
  obtain ⟨its, rv, hl, _⟩ := I.tuple hs
  rw [Vals.ref1 r]
  refine PySem.Flt.call_sum_walkF (sum_ints ns 0) (PySem.W.iter_tupleW (A := X.A.in1) (I.ok.hd hc) hl fun s₂ e W st hfp hw hk => ?_)
  have e0 : its.toArray.size = (ns.map PySem.W.WData.int).length := by rw [List.length_map, List.size_toArray, ← rv.length, List.length_map]
  rw [e0] at W
  refine ⟨_, _, _, _, _, _, rfl, W, st, hfp, fun k v hv => ?_, fun s' v hn m => ?_⟩
  · obtain ⟨i, t, hi, rfl⟩ := ints_vals rv k v (by simpa using hv)
    exact ⟨.int i, by rw [List.getElem?_map, hi]; rfl, .int _ _⟩
  · obtain ⟨h', tk, rfl, hk'⟩ := PySem.W.moved_old e rfl m
    cases hn
    exact ⟨.int _, H, I.kept hk', ⟨_, by rw [Int.zero_add]⟩, q⟩
def SumNK (K : PySem.W.Frag) (a : Addr) (H : Hp) (G : Int → Prop) : Prop := ∃ ns : List Int, SqT K H a (ns.map V.int) ∧ G ns.sum
theorem x_sumN {K : PySem.W.Frag} {a : Addr} {H : Hp} {Q : VK} : rSumN K [.ref a] H Q ↔ SumNK K a H fun n => Q (.int n) H := ⟨fun ⟨_, ns, e, h⟩ => by cases e; exact ⟨ns, h⟩, fun ⟨ns, h⟩ => ⟨a, ns, rfl, h⟩⟩
/-! ### the rest, for the ledger -/
section
variable {K : PySem.W.Frag} {B H : Hp} {l : List (Addr × HO)} {a b : Addr} {xs ys : List V} {σ : L2.St} {Q : VK}
def D1TK (tk tv : TE) (σ : L2.St) (H : Hp) (G : Addr → Hp → Prop) : Prop := NewK (.dT []) H fun p H1 => tk σ H1 fun y H2 => tv σ H2 fun v H3 => ∃ (k : List Key) (b : Addr), y = .ref b ∧ H3 p = some (.dT []) ∧ H3 b = some (.tup (k.map kV)) ∧ G p (upd H3 p (.dT [(k, v)]))
theorem e_d1T {tk tv : TE} : tD1T tk tv σ H Q = NewK (.dT []) H fun p H1 => tk σ H1 fun y H2 => tv σ H2 fun v H3 => ∃ b, y = .ref b ∧ ∃ (k : List Key), H3 p = some (.dT []) ∧ H3 b = some (.tup (k.map kV)) ∧ Q (.ref p) (upd H3 p (.dT [(k, v)])) := propext (by
  unfold tD1T NewK
  exact forall_congr' fun p => forall_congr' fun hp => Iff.of_eq (congrArg (tk σ _) (funext fun y => funext fun H2 => congrArg (tv σ H2) (funext fun v => funext fun H3 => propext ⟨fun ⟨k, b, e, r⟩ => ⟨b, e, k, r⟩, fun ⟨b, e, k, r⟩ => ⟨k, b, e, r⟩⟩))))
theorem e_callL {i : Nat} {f : Addr} {sp : Sp} {dvs : List V} {E : XK} {t : TA} : tCallL i f sp dvs E t σ H Q = (σ[i]? = some (some (.ref f)) ∧ t σ H fun vs H1 => sp (vs ++ dvs) H1 Q E) := propext ⟨fun h => h, fun h => h⟩
/-- t + u of tuples that are kept -/
def CatTK (K : PySem.W.Frag) (a b : Addr) (H : Hp) (G : Addr → Hp → Prop) : Prop := ∃ xs ys, SqT K H a xs ∧ SqT K H b ys ∧ xs.length + ys.length ≤ sizeLine ∧ (xs = [] → G b H) ∧ (xs ≠ [] → ys = [] → G a H) ∧ (xs ≠ [] → ys ≠ [] → NewK (.tup (xs ++ ys)) H G)
theorem x_catA : rCatA K (.ref a) (.ref b) H Q ↔ CatTK K a b H fun p H1 => Q (.ref p) H1 := ⟨fun ⟨_, _, xs, ys, e1, e2, r⟩ => by cases e1; cases e2; exact ⟨xs, ys, r⟩, fun ⟨xs, ys, r⟩ => ⟨a, b, xs, ys, rfl, rfl, r⟩⟩
theorem CatTK.of {G : Addr → Hp → Prop} (L : Led B H l) (h1 : B a = some (.tup xs)) (h2 : B b = some (.tup ys)) (hz : xs.length + ys.length ≤ sizeLine) (k : ∀ r B' H1, Same B B' → B' r = some (.tup (xs ++ ys)) → Led B' H1 l → G r H1) : CatTK K a b H G := by
  refine ⟨xs, ys, .inl (.inl (L.sm _ _ h1)), .inl (.inl (L.sm _ _ h2)), hz, fun e => ?_, fun _ e => ?_, fun _ _ => NewK.of L fun p H1 L1 => ?_⟩
  · subst e; exact k b B H (Same.refl B) h2 L
  · subst e; exact k a B H (Same.refl B) (by rw [List.append_nil]; exact h1) L
  · obtain ⟨B', s, h, L2⟩ := L1.sink
    exact k p B' H1 s h L2
def SlTK (K : PySem.W.Frag) (a : Addr) (lo hi : Option Int) (H : Hp) (G : Addr → Hp → Prop) : Prop := ∃ xs, SqT K H a xs ∧ (HT.sIx xs.length 0 lo = 0 ∧ HT.sIx xs.length xs.length hi = xs.length → G a H) ∧ (¬ (HT.sIx xs.length 0 lo = 0 ∧ HT.sIx xs.length xs.length hi = xs.length) → NewK (.tup (cutV xs lo hi)) H G)
theorem x_slA {lo hi : Option Int} : rSlA K (.ref a) lo hi H Q ↔ SlTK K a lo hi H fun p H1 => Q (.ref p) H1 := ⟨fun ⟨_, xs, e, r⟩ => by cases e; exact ⟨xs, r⟩, fun ⟨xs, r⟩ => ⟨a, xs, rfl, r⟩⟩
theorem SlTK.of {lo hi : Option Int} {G : Addr → Hp → Prop} (L : Led B H l) (h1 : B a = some (.tup xs)) (k : ∀ r B' H1, Same B B' → B' r = some (.tup (cutV xs lo hi)) → Led B' H1 l → G r H1) : SlTK K a lo hi H G := by
  refine ⟨xs, .inl (.inl (L.sm _ _ h1)), fun e => ?_, fun _ => NewK.of L fun p H1 L1 => ?_⟩
  · refine k a B H (Same.refl B) ?_ L
    rw [h1]
    unfold cutV
    rw [e.1, e.2, List.drop_zero, Nat.sub_zero, List.take_length]
  · obtain ⟨B', s, h, L2⟩ := L1.sink
    exact k p B' H1 s h L2
end
/-- a callee that kept more: what stood besides stays owned -/
theorem Led.over {B H B' H' : Hp} {l m : List (Addr × HO)} (L : Led B H l) (s : Same H B') (M : Led B' H' m) : ∃ B2, Same B B2 ∧ Led B2 H' (m ++ l) ∧ ∀ q o, B' q = some o → (∀ e ∈ l, e.2 ≠ o) → B2 q = some o := by
  have hin : ∀ e ∈ l, B' e.1 = some e.2 := fun e he => s _ _ (L.hs e he)
  refine ⟨less B' (l.map (·.1)), fun a o z => ?_, ⟨fun a o z => ?_, ?_, fun e he => ?_, fun e he => ?_⟩, fun q o hq hn => ?_⟩
  · unfold less
    rw [if_neg]
    · exact s _ _ (L.sm _ _ z)
    · intro hm
      obtain ⟨e, he, rfl⟩ := List.mem_map.mp hm
      rw [L.fr e he] at z
      cases z
  · unfold less at z
    split at z
    · cases z
    · exact M.sm _ _ z
  · rw [List.map_append]
    refine List.nodup_append.mpr ⟨M.nd, L.nd, fun a ha b hb z => ?_⟩
    obtain ⟨e, he, e1⟩ := List.mem_map.mp ha
    obtain ⟨d, hd, d1⟩ := List.mem_map.mp hb
    have h1 := M.fr e he
    have h2 := hin d hd
    rw [e1, z] at h1
    rw [d1, h1] at h2
    cases h2
  · unfold less
    rcases List.mem_append.mp he with z | z
    · split
      · rfl
      · exact M.fr e z
    · rw [if_pos (List.mem_map.mpr ⟨e, z, rfl⟩)]
  · rcases List.mem_append.mp he with z | z
    · exact M.hs e z
    · exact M.sm _ _ (hin e z)
  · unfold less
    rw [if_neg]
    · exact hq
    · intro hm
      obtain ⟨e, he, rfl⟩ := List.mem_map.mp hm
      rw [hin e he] at hq
      exact hn e he (Option.some.inj hq)
/-- the keys' tuples join what is kept -/
theorem Led.grabs {B H : Hp} {l : List (Addr × HO)} (hl : ∀ e ∈ l, ∀ ys, e.2 ≠ .tup ys) : ∀ {kvs : List (List Key × V)} {bs : List Addr}, IsKeys H kvs bs → ∀ {B : Hp}, Led B H l → ∃ B', Same B B' ∧ IsKeys B' kvs bs ∧ Led B' H l
  | _, _, .nil, B, L => ⟨B, Same.refl B, .nil, L⟩
  | _, _, .cons h r, B, L => by
    obtain ⟨B1, s1, h1, L1⟩ := L.grab h hl
    obtain ⟨B2, s2, h2, L2⟩ := Led.grabs (B := B) hl r L1
    exact ⟨B2, s1.trans s2, .cons (s2 _ _ h1) h2, L2⟩
theorem LstDK.of {B H : Hp} {l : List (Addr × HO)} {d : Addr} {kvs : List (List Key × V)} {G : Addr → Hp → Prop} (L : Led B H l) (h : H d = some (.dT kvs)) (hl : ∀ e ∈ l, ∀ ys, e.2 ≠ .tup ys) (k : ∀ p bs B' H1, Same B B' → IsKeys B' kvs bs → Led B' H1 ((p, .lst (bs.map V.ref)) :: l) → G p H1) : LstDK d H G := by
  refine ⟨kvs, .inl h, fun bs hk => ?_⟩
  obtain ⟨B1, s1, h1, L1⟩ := Led.grabs (B := B) hl hk L
  exact NewK.of L1 fun p H1 L2 => k p bs B1 H1 s1 h1 L2
end Vg


set_option Elab.async false
set_option linter.all false
set_option maxRecDepth 100000
set_option maxHeartbeats 2000000
namespace Vg
open PySem PySem.Spec PyProof.Rows L2
/-! ### a dict of defs that the module holds -/
structure KD (K : PySem.W.Frag) (w : World) (d : Addr) (ps : List (Str × Addr)) : Prop where
  ex : ∃ es n, KDict K w d es n
  yes : ∀ z f, ps.lookup z = some f → PySem.W.nsIn K d z = some (some (.ref f))
  no : ∀ z, ps.lookup z = none → PySem.W.nsIn K d z = some none
def kdEs (P : Params) (l : List (Str × Tok × Addr)) : List DictEntry := l.map fun e => ⟨PyData.keyHash P e.1, .str e.1 e.2.1, .ref e.2.2⟩
def kdPs (l : List (Str × Tok × Addr)) : List (Str × Addr) := l.map fun e => (e.1, e.2.2)
theorem kd_find (P : Params) (z : Str) : ∀ l, ((kdEs P l).find? fun e => e.key.isStr z).map (·.val) = ((kdPs l).lookup z).map Value.ref
  | [] => rfl
  | e :: r => by
    unfold kdEs kdPs
    rw [List.map_cons, List.map_cons, List.find?_cons, List.lookup_cons]
    have h : (Value.str e.1 e.2.1).isStr z = (z == e.1) := by
      show (e.1 == z) = (z == e.1)
      exact Bool.eq_iff_iff.mpr (by rw [beq_iff_eq, beq_iff_eq]; exact ⟨Eq.symm, Eq.symm⟩)
    dsimp only
    rw [h]
    cases z == e.1 with
    | true => rfl
    | false => exact kd_find P z r
theorem kd_noref (P : Params) : ∀ l, ((kdEs P l).any fun e => e.refKey) = false
  | [] => rfl
  | e :: r => by
    unfold kdEs
    rw [List.map_cons, List.any_cons]
    have := kd_noref P r
    unfold kdEs at this
    rw [this]
    rfl
theorem kd_lit (P : Params) : ∀ l, PySem.W.KeysLit P (kdEs P l)
  | [] => trivial
  | e :: r => ⟨⟨_, _, rfl, rfl⟩, kd_lit P r⟩
theorem KD.mk' {K : PySem.W.Frag} {w : World} {d : Addr} {n : Nat} {l : List (Str × Tok × Addr)} (low : (d == sysModules) = false) (h : K.lookup d = some ⟨.type "dict", none, .dict (kdEs w.params l).toArray n, #[]⟩) : KD K w d (kdPs l) := by
  have key : ∀ z, PySem.W.nsIn K d z = some (((kdPs l).lookup z).map Value.ref) := fun z => by
    unfold PySem.W.nsIn
    rw [h]
    dsimp only
    have f := kd_find w.params z l
    cases e : (kdEs w.params l).find? fun e => e.key.isStr z with
    | some x =>
      rw [e] at f
      rw [← f]
      rfl
    | none =>
      rw [e] at f
      rw [← f, kd_noref]
      rfl
  exact ⟨⟨_, n, h, kd_lit _ _, low⟩, fun z f e => by rw [key, e]; rfl, fun z e => by rw [key, e]; rfl⟩
def rInKd (ps : List (Str × Addr)) (d : Addr) : R2 := fun x y H Q => ∃ z, x = .str z ∧ y = .ref d ∧ Q (.bl (ps.lookup z).isSome) H
theorem op_inKd {X : Cx} {d : Addr} {ps : List (Str × Addr)} (D : KD X.K X.w d ps) : OpR X (compareOp .In) (rInKd ps d) := by
  intro pins s σ H x y v u Q I rx ry h
  obtain ⟨z, rfl, rfl, q⟩ := h
  obtain ⟨es, n, D2⟩ := D.ex
  cases e : ps.lookup z with
  | none =>
    rw [e] at q
    exact op_in_kd D2 pins s σ H (.str z) (.ref d) v u Q I rx ry ⟨z, none, rfl, rfl, D.no z e, q⟩
  | some f =>
    rw [e] at q
    exact op_in_kd D2 pins s σ H (.str z) (.ref d) v u Q I rx ry ⟨z, some (.ref f), rfl, rfl, D.yes z f e, q⟩
theorem x_inKd {ps : List (Str × Addr)} {d : Addr} {z : Str} {H : Hp} {Q : VK} : rInKd ps d (.str z) (.ref d) H Q ↔ Q (.bl (ps.lookup z).isSome) H := ⟨fun ⟨_, e1, _, q⟩ => by cases e1; exact q, fun q => ⟨z, rfl, rfl, q⟩⟩
def rIxKd (ps : List (Str × Addr)) (d : Addr) : R2 := fun x y H Q => ∃ z f, x = .ref d ∧ y = .str z ∧ ps.lookup z = some f ∧ Q (.ref f) H
theorem ix_kd {X : Cx} {d : Addr} {ps : List (Str × Addr)} (D : KD X.K X.w d ps) : IxR X (rIxKd ps d) := by
  intro value slice pins s σ H x y v u Q I rx ry h hs
  obtain ⟨z, f, rfl, rfl, e, q⟩ := h
  obtain ⟨es, n, D2⟩ := D.ex
  cases rx
  obtain ⟨t, rfl⟩ := ry
  refine tail_any (kd_type D2 I) PySem.F.slot_dict_getitem.lookup ?_ hs
  exact wpAny_getItem_of (PySem.strKind_is X.prog X.w z t) (PySem.W.mapOf_K (prog := X.prog) I.kIn D2.at_ D2.lit) (PySem.W.find_K D2.at_ (D.yes z f e)) ⟨.ref f, H, I.tok _, rfl, q⟩
def IxKdK (ps : List (Str × Addr)) (z : Str) (G : Addr → Prop) : Prop := ∃ f, ps.lookup z = some f ∧ G f
theorem x_ixKd {ps : List (Str × Addr)} {d : Addr} {z : Str} {H : Hp} {Q : VK} : rIxKd ps d (.ref d) (.str z) H Q ↔ IxKdK ps z fun f => Q (.ref f) H := ⟨fun ⟨_, f, _, e2, e, q⟩ => by cases e2; exact ⟨f, e, q⟩, fun ⟨f, e, q⟩ => ⟨z, f, rfl, rfl, e, q⟩⟩
/-! ### a name that holds one of several defs -/
def tCallX (i : Nat) (cs : List (Addr × Sp)) (t : TA) : TE := fun σ H Q => ∃ f sp, σ[i]? = some (some (.ref f)) ∧ (f, sp) ∈ cs ∧ t σ H fun vs H1 => sp vs H1 Q (fun _ _ _ => False)
theorem pe_callX {X : Cx} {k i : Nat} {x : Str} {p pos : Pos} {e : Expr} {es : List Expr} {t : TA} {cs : List (Addr × Sp)} (A : ∀ q ∈ cs, Held X.prog X.w X.K X.mg X.base k q.1 q.2) (hr : Room k X.A) (hN : X.N[i]? = some x) (hv : Vis X.env.scope x) (ha : PA X (e :: es) t)
    (hdb : (x == ("__debug__" : Str)) = false := by decide) (hcd : (x == ("__classdict__" : Str)) = false := by decide)
    (he : starEach (e :: es) X.env = (false, eval e X.env) :: starEach es X.env := by rfl) (hpl : (backTo pos (starEach es X.env)).any (·.1) = false := by rfl) : PE X (.Call (.Name x p) (e :: es) [] pos) (tCallX i cs t) := by
  refine ⟨fun pins s σ H Q I h => ?_⟩
  obtain ⟨f, sp, hs, hS, ht⟩ := h
  refine (pe_callA (S := fun g => if g = f then some sp else none) (fun g sq hq => ?_) hr hN hv ha hdb hcd he hpl).run pins s σ H Q I ⟨f, sp, hs, if_pos rfl, ht⟩
  split at hq
  · rename_i c
    cases hq
    rw [c]
    exact A _ hS
  · cases hq
theorem e_callX {i : Nat} {cs : List (Addr × Sp)} {t : TA} {σ : L2.St} {H : Hp} {Q : VK} {f : Addr} {sp : Sp} (h : σ[i]? = some (some (.ref f))) (hm : (f, sp) ∈ cs) (q : t σ H fun vs H1 => sp vs H1 Q (fun _ _ _ => False)) : tCallX i cs t σ H Q := ⟨f, sp, h, hm, q⟩
/-! ### partition -/
def rPart : V → List V → Hp → VK → Prop := fun x xs H Q => ∃ a b, x = .str a ∧ xs = [.str b] ∧ (b.length == 0) = false ∧ a.length ≤ sizeLine ∧ ∀ p, H p = none → Q (.ref p) (upd H p (.tup [.str (Txt.partition a b).1, .str (Txt.partition a b).2.1, .str (Txt.partition a b).2.2]))
theorem mt_partS {X : Cx} : MtR X "str.partition" rPart := mt_partition
def PartK (a b : Str) (H : Hp) (G : Addr → Hp → Prop) : Prop := (b.length == 0) = false ∧ a.length ≤ sizeLine ∧ NewK (.tup [.str (Txt.partition a b).1, .str (Txt.partition a b).2.1, .str (Txt.partition a b).2.2]) H G
theorem x_partS {a b : Str} {H : Hp} {Q : VK} : rPart (.str a) [.str b] H Q ↔ PartK a b H fun p H1 => Q (.ref p) H1 := ⟨fun ⟨_, _, e1, e2, h1, h2, q⟩ => by cases e1; cases e2; exact ⟨h1, h2, q⟩, fun ⟨h1, h2, q⟩ => ⟨a, b, rfl, rfl, h1, h2, q⟩⟩
end Vg


set_option Elab.async false
set_option linter.all false
set_option maxRecDepth 100000
set_option maxHeartbeats 2000000
namespace Vg
open PySem PySem.Spec PyProof.Rows L2
/-! ### ' '.join(xs).replace(y, z): behind the written receiver a token is out -/
/-- an expression behind which a token is out -/
def PE1 (X : Cx) (e : Expr) (te : TE) : Prop :=
  ∀ (pins : List (Addr × Obj)) (s : Shared) (σ : L2.St) (H : Hp) (Q : VK), Inv X pins σ H s → te σ H Q → wpAny (model X.prog X.w) X.A (eval e X.env) (fun v s1 => 1 ≤ s1.toks ∧ EP X pins σ Q v s1) X.xe s
section
variable {X : Cx} {e : Expr} {es : List Expr} {c y z : Str} {t : TA} {to : TE} {o : Expr} {name id : String} {r : V → List V → Hp → VK → Prop} {j k : Nat} {cp c0 c1 apos cpos pos : Pos}
/-- a method of a written text -/
theorem pe1_bm (pa : PlainAttrs "str") (slot : Slot "str" name id) (hty : typeOf (.builtin id) = pure (.type "method_descriptor")) (hm : MtR X id r) (ha : PA X (e :: es) t)
    (hbase : attributeBase (.Constant (.str c) j cp) name X.env (eval (.Constant (.str c) j cp) X.env) = eval (.Constant (.str c) j cp) X.env := by rfl)
    (hfew : ((backTo cpos (starEach (e :: es) X.env)).all (fun x => !x.1) && (backToKw cpos (keywordEach [] X.env)).all (fun x => x.1.isSome)
      && decide ((e :: es).length + ([] : List Keyword).length + (if ([] : List Keyword).isEmpty then 0 else 1) < 30)) = true := by rfl)
    (hline : (apos.endLine == cpos.line) = true := by rfl) (hs : starEach (e :: es) X.env = (false, eval e X.env) :: starEach es X.env := by rfl) (hplain : (backTo cpos (starEach es X.env)).any (·.1) = false := by rfl) :
    PE1 X (.Call (.Attribute (.Constant (.str c) j cp) name apos) (e :: es) [] cpos) (tBM X.K "str" r (tC (.str c)) t) := by
  intro pins s σ H Q I h
  refine wpAny_Call_method_late hbase hfew hline rfl (Calls.Constant_str ?_)
  obtain ⟨ty, q1⟩ := h
  have I1 : Inv X pins σ H { s with toks := s.toks + 1 } := I.tok _
  have r1 : RelV (.str c) (Value.str c s.toks) := ⟨_, rfl⟩
  obtain ⟨h1, h2⟩ := tyV_is I1 r1 ty
  refine ⟨"str", id, pa, slot, hty, h1, h2, ?_⟩
  have hA := ha.run cpos pins _ σ H _ I1 q1
  rw [hs] at hA ⊢
  refine Calls.callWith_builtin (by show (false || (backTo cpos (starEach es X.env)).any (·.1)) = false; rw [hplain] <;> rfl) (Calls.evalArgs_plain ?_)
  refine wpAny_mono (PySem.wpAny_toks hA) (fun us s2 q => ?_) fun _ _ x => x.2
  obtain ⟨hk, vs, H2, I2, r2, q2⟩ := q
  have hk : s.toks + 1 ≤ s2.toks := hk
  refine wpAny_mono (PySem.wpAny_toks (hm pins s2 σ H2 _ vs _ us Q I2 r1 r2 q2)) (fun v s3 q => ?_) fun _ _ x => x.2
  exact ⟨Nat.le_trans (by omega) q.1, q.2⟩
/-- e.replace(y, z) of two written texts, behind such an e -/
theorem pe_repl1 (ho : PE1 X o to) (hyz : (y == z) = false := by decide)
    (hst : starEach [.Constant (.str y) j c0, .Constant (.str z) k c1] X.env = [(false, eval (.Constant (.str y) j c0) X.env), (false, eval (.Constant (.str z) k c1) X.env)] := by rfl)
    (hbase : attributeBase o "replace" X.env (eval o X.env) = eval o X.env := by rfl) (hline : (apos.endLine == pos.line) = true := by rfl) :
    PE X (.Call (.Attribute o "replace" apos) [.Constant (.str y) j c0, .Constant (.str z) k c1] [] pos) (CwR.tReplC to y z) := by
  refine ⟨fun pins s σ H Q I h => ?_⟩
  refine PySem.Call_method2 hbase hst hline (wpAny_mono (ho pins s σ H _ I h) (fun v s1 q => ?_) fun _ _ z => z)
  obtain ⟨hk, v', H1, I1, r1, x, e1, hb, q⟩ := q
  subst e1
  obtain ⟨tx, e2⟩ := r1
  subst e2
  refine ⟨"str", _, PySem.F.plainAttrs_str, PySem.F.slot_str_replace, PySem.F.type_str_replace, typeIs_str _ _ _, (fun _ e => nomatch e), Calls.callWith_builtin rfl (Calls.evalArgs_plain (Calls.spliced_cons ?_))⟩
  refine Calls.Constant_str (Calls.spliced_cons (Calls.Constant_str (Calls.spliced_nil ?_)))
  exact PySem.SC.replace (by show s1.toks ≠ 0; omega) (by show s1.toks + 1 ≠ 0; omega) (by show s1.toks ≠ s1.toks + 1; omega) hyz hb fun t' k => ⟨.str (Txt.replace x y z), H1, I1.tok k, ⟨t', rfl⟩, q⟩
theorem e_repl {σ : L2.St} {H : Hp} {Q : VK} : CwR.tReplC to y z σ H Q ↔ to σ H fun v H1 => ∃ x, v = .str x ∧ x.length + (x.length + 1) * z.length ≤ 16777216 ∧ Q (.str (Txt.replace x y z)) H1 := Iff.rfl
end
/-! ### None in a row of words, written as a line -/
theorem repl_free {h : Nat} {t z rest : List Nat} : ∀ {w : List Nat}, h ∉ w → StrLaws.replL (h :: t) z (w ++ rest) = w ++ StrLaws.replL (h :: t) z rest
  | [], _ => rfl
  | c :: w, hw => by
    have hc : ¬ h = c := fun e => hw (by rw [e]; exact List.mem_cons_self)
    show StrLaws.replL (h :: t) z (c :: (w ++ rest)) = _
    rw [StrLaws.replL_miss (fun e => hc (by
      rw [List.length_cons, List.take_succ_cons] at e
      injection e with a _
      exact a.symm)), repl_free (fun x => hw (List.mem_cons_of_mem _ x))]
    rfl
theorem repl_word {h : Nat} {t z rest : List Nat} : StrLaws.replL (h :: t) z ((h :: t) ++ rest) = z ++ StrLaws.replL (h :: t) z rest := by
  show StrLaws.replL (h :: t) z (h :: (t ++ rest)) = _
  rw [StrLaws.replL_hit (by simp) (by show ((h :: t) ++ rest).take (h :: t).length = _; exact List.take_left ..)]
  show z ++ StrLaws.replL (h :: t) z (((h :: t) ++ rest).drop (h :: t).length) = _
  rw [List.drop_left]
/-- words: y itself becomes z, the others do not hold y's first sign -/
theorem repl_joinL {h : Nat} {t z sep : List Nat} (hs : h ∉ sep) : ∀ {ws : List (List Nat)}, (∀ w ∈ ws, w = h :: t ∨ h ∉ w) → StrLaws.replL (h :: t) z (TL.joinL sep ws) = TL.joinL sep (ws.map fun w => if w = h :: t then z else w)
  | [], _ => StrLaws.replL_nil
  | [w], hw => by
    show StrLaws.replL (h :: t) z w = (if w = h :: t then z else w)
    rcases hw w List.mem_cons_self with e | e
    · have := repl_word (h := h) (t := t) (z := z) (rest := [])
      rw [List.append_nil, StrLaws.replL_nil, List.append_nil] at this
      rw [if_pos e, e, this]
    · have := repl_free (h := h) (t := t) (z := z) (rest := []) e
      rw [List.append_nil, StrLaws.replL_nil, List.append_nil] at this
      rw [if_neg (fun q => e (by rw [q]; exact List.mem_cons_self)), this]
  | w :: v :: r, hw => by
    have ih := repl_joinL (z := z) hs (ws := v :: r) fun x hx => hw x (List.mem_cons_of_mem _ hx)
    have e1 : TL.joinL sep (w :: v :: r) = w ++ (sep ++ TL.joinL sep (v :: r)) := rfl
    have e2 : ∀ f : List Nat → List Nat, TL.joinL sep ((w :: v :: r).map f) = f w ++ (sep ++ TL.joinL sep ((v :: r).map f)) := fun _ => rfl
    rw [e1, e2, ← ih, ← repl_free hs]
    rcases hw w List.mem_cons_self with e | e
    · show StrLaws.replL (h :: t) z (w ++ (sep ++ TL.joinL sep (v :: r))) = (if w = h :: t then z else w) ++ _
      rw [if_pos e, e, repl_word]
    · show StrLaws.replL (h :: t) z (w ++ (sep ++ TL.joinL sep (v :: r))) = (if w = h :: t then z else w) ++ _
      rw [if_neg (fun q => e (by rw [q]; exact List.mem_cons_self)), repl_free e]
/-- a number or a text in its place -/
def numE (e : Str) : Option Nat → Str
  | none => e
  | some k => nT k
theorem tl_inj {a b : Str} (h : TL.tl a = TL.tl b) : a = b := by
  cases a
  cases b
  congr 1
  exact Array.toList_inj.mp h
/-- ' '.join(..).replace('None', '-') -/
theorem none_to_dash (os : List (Option Nat)) : Txt.replace (Txt.join " " (os.map (numE "None"))) "None" "-" = Txt.join " " (os.map (numE "-")) := by
  refine tl_inj ?_
  have e : TL.tl (Txt.replace (Txt.join " " (os.map (numE "None"))) "None" "-") = StrLaws.replL (TL.tl "None") (TL.tl "-") (TL.tl (Txt.join " " (os.map (numE "None")))) := StrLaws.replace_list (by decide +kernel)
  have j1 : ∀ ps : List Str, TL.tl (Txt.join " " ps) = TL.joinL [32] (ps.map TL.tl) := fun ps => by
    rw [TL.join_eq, TL.tl_join]
    congr 1
  have t1 : TL.tl ("None" : Str) = 78 :: [111, 110, 101] := by decide +kernel
  have t2 : TL.tl ("-" : Str) = [45] := by decide +kernel
  rw [e, j1, j1, t1, t2, repl_joinL (by decide)]
  · rw [List.map_map, List.map_map, List.map_map]
    congr 1
    refine List.map_congr_left fun o _ => ?_
    cases o with
    | none =>
      show (if TL.tl ("None" : Str) = 78 :: [111, 110, 101] then [45] else TL.tl ("None" : Str)) = TL.tl ("-" : Str)
      rw [if_pos t1, t2]
    | some k =>
      show (if TL.tl (nT k) = 78 :: [111, 110, 101] then [45] else TL.tl (nT k)) = TL.tl (nT k)
      rw [if_neg fun q => by
        have := nT_digits k 78 (by rw [q]; exact List.mem_cons_self)
        omega]
  · intro w hw
    obtain ⟨x, hx, rfl⟩ := List.mem_map.mp hw
    obtain ⟨o, _, rfl⟩ := List.mem_map.mp hx
    cases o with
    | none => exact .inl t1
    | some k =>
      refine .inr fun hc => ?_
      have := nT_digits k 78 hc
      omega
/-! ### str of a number or of None -/
def rStrO : List V → Hp → VK → Prop := fun xs H Q => ∃ o : Option Nat, xs = [(match o with | none => V.non | some k => V.int (k : Int))] ∧ (∀ k, o = some k → k < 2 ^ 1000) ∧ Q (.str (numE "None" o)) H
theorem cr_strO {X : Cx} : CallR X (.type "str") rStrO := by
  intro pins s σ H xs us Q I r h
  obtain ⟨o, rfl, hb, q⟩ := h
  cases o with
  | none =>
    obtain ⟨u, rfl, r1⟩ := vals1 r
    cases r1
    exact PySem.P.str_of_none ⟨.str _, H, I.tok _, ⟨_, rfl⟩, q⟩
  | some k =>
    obtain ⟨u, rfl, t, rfl⟩ := vals1 r
    have hz : (k : Int).natAbs.log2 < 1920 := by
      rw [Int.natAbs_natCast]
      exact Nat.lt_of_lt_of_le (PySem.Flt.log2_lt_of (k := 1000) (by decide) (hb k rfl)) (by decide)
    exact PySem.P.str_of_int hz ⟨.str _, H, I.tok _, ⟨_, rfl⟩, q⟩
end Vg


set_option Elab.async false
set_option linter.all false
set_option maxRecDepth 100000
set_option maxHeartbeats 2000000
namespace Vg
open PySem PySem.Spec PyProof.Rows L2 PySem.Calls PyProof.V PySem.W
/-! ### list(enumerate(xs)) -/
/-- the pairs (number, item) that stand at out -/
structure Enp (its : Array Value) (low : Addr) (hp : Heap) (out : List Addr) : Prop where
  up : out.Pairwise (· < ·)
  hi : ∀ a ∈ out, low < a
  pr : ∀ (j : Nat) (a : Addr), out[j]? = some a → ∃ t x, its[j]? = some x ∧ hp.get? a = some { cls := .type "tuple", data := .seq #[.int j t, x] }
theorem Enp.lt {its : Array Value} {low : Addr} {hp : Heap} {out : List Addr} (g : Enp its low hp out) {a : Addr} (ha : a ∈ out) : a < hp.objs.size := by
  obtain ⟨j, hj⟩ := List.mem_iff_getElem?.mp ha
  obtain ⟨_, _, _, e⟩ := g.pr j a hj
  exact Heap.lt_size e
/-- an enumerate over a list, before its item i -/
def EnSt (hp : Heap) (en it S : Addr) (i : Nat) : Prop := (i = 0 ∧ IsEnum hp en it 0 .none) ∨ ∃ T f old oT, IsEnumHeld hp en it (i : Int) old T f ∧ hp.get? T = some oT ∧ T ≠ en ∧ T ≠ it ∧ T ≠ S
section
variable {prog : Program} {w : World} {A : Around} {E : Value → Shared → Prop} {s : Shared}
theorem EnSt.type {en it S : Addr} {i : Nat} (h : EnSt s.heap en it S i) : s.TypeIs (.ref en) "enumerate" := by
  rcases h with ⟨_, h⟩ | ⟨_, _, _, _, h, _⟩ <;> exact ⟨_, h, rfl⟩
theorem en_item {en it l S : Addr} {i : Nat} {items : Array Value} {x : Value} {Q : Option Value → Shared → Prop} (st : EnSt s.heap en it S i) (hS : S < s.heap.objs.size) (hit : s.heap.IsListIter it l i) (hl : s.heap.IsList l items) (hx : items[i]? = some x) (ne : en ≠ it)
    (q : ∀ h', EnSt h' en it S (i + 1) → h'.IsListIter it l (i + 1) → h'.get? s.heap.objs.size = some { cls := .type "tuple", data := .seq #[.int i s.toks, x] } → h'.objs.size = s.heap.objs.size + 1 → (∀ b o, b ≠ en → b ≠ it → s.heap.get? b = some o → h'.get? b = some o) → Q (some (.ref s.heap.objs.size)) { s with heap := h', toks := s.toks + 1 }) : wpAny (model prog w) A (pyNext (.ref en)) Q E s := by
  have hi2 : it < s.heap.objs.size := by obtain ⟨o, ho, _⟩ := hit; exact Heap.lt_size ho
  rcases st with ⟨rfl, he⟩ | ⟨T, f, old, oT, he, hT, h1, h2, h3⟩
  · exact wpAny_pyNext_enum_item he hit hl hx ne fun h' a b c d k => q h' (.inr ⟨_, false, _, _, a, c, Nat.ne_of_gt (Heap.lt_size he), Nat.ne_of_gt hi2, Nat.ne_of_gt hS⟩) b c d k
  · exact wpAny_pyNext_enum_item_held he hT h1 h2 hit hl hx ne fun h' a b c d k => q h' (.inr ⟨T, true, _, _, a, k T _ h1 h2 hT, h1, h2, h3⟩) b c d k
theorem en_done {en it l S : Addr} {i : Nat} {items : Array Value} {Q : Option Value → Shared → Prop} (hh : A.handled = none) (st : EnSt s.heap en it S i) (hit : s.heap.IsListIter it l i) (hl : s.heap.IsList l items) (hx : items[i]? = none) (q : ∀ h', Heap.ExtBut it s.heap h' → Q none { s with heap := h' }) : wpAny (model prog w) A (pyNext (.ref en)) Q E s := by
  rcases st with ⟨rfl, he⟩ | ⟨T, f, old, oT, he, hT, _, _, _⟩
  · exact wpAny_pyNext_enum_end hh he hit hl hx q
  · exact wpAny_pyNext_enum_end_held hh he hit hl hx q
theorem EnSt.up {hp hq : Heap} {en it S : Addr} {i : Nat} (h : EnSt hp en it S i) (k : ∀ b o, b ≠ S → hp.get? b = some o → hq.get? b = some o) (ne : en ≠ S) : EnSt hq en it S i := by
  rcases h with ⟨e, h⟩ | ⟨T, f, old, oT, h, hT, a, b, c⟩
  · exact .inl ⟨e, k _ _ ne h⟩
  · exact .inr ⟨T, f, old, oT, k _ _ ne h, k _ _ c hT, a, b, c⟩
theorem list_up {hp hq : Heap} {l S : Addr} {items : Array Value} (h : hp.IsList l items) (k : ∀ b o, b ≠ S → hp.get? b = some o → hq.get? b = some o) (ne : l ≠ S) : hq.IsList l items := by
  obtain ⟨o, ho, r⟩ := h
  exact ⟨o, k _ _ ne ho, r⟩
theorem list_up2 {hp hq : Heap} {l en it : Addr} {items : Array Value} (h : hp.IsList l items) (k : ∀ b o, b ≠ en → b ≠ it → hp.get? b = some o → hq.get? b = some o) (n1 : l ≠ en) (n2 : l ≠ it) : hq.IsList l items := by
  obtain ⟨o, ho, r⟩ := h
  exact ⟨o, k _ _ n1 n2 ho, r⟩
theorem iter_up {hp hq : Heap} {it l S : Addr} {i : Nat} (h : hp.IsListIter it l i) (k : ∀ b o, b ≠ S → hp.get? b = some o → hq.get? b = some o) (ne : it ≠ S) : hq.IsListIter it l i := by
  obtain ⟨o, ho, r⟩ := h
  exact ⟨o, k _ _ ne ho, r⟩
end
section
variable {prog : Program} {w : World} {A : Around} {s : Shared} {R : Result → Shared → Prop} {its : Array Value}
theorem en_loop {S en it l : Addr} (hh : A.handled = none) (n1 : en < S) (n2 : it < S) (n3 : l < S) (ne : en ≠ it) (n4 : l ≠ en) (n5 : l ≠ it) (hn : its.size ≤ sizeLine) (res : Value) {h₁ : Heap}
    (last : ∀ h' tk acc c out, (∀ b o, b ≠ S → b ≠ en → b ≠ it → h₁.get? b = some o → h'.get? b = some o) → h'.get? S = some { cls := .type "list", dict := none, data := .seq acc c, slots := #[] } → out.length = its.size → Enp its S h' out → acc.toList = out.map Value.ref → R (.ok (.ret res)) { s with heap := h', toks := tk }) :
    ∀ (k i : Nat) (h : Heap) (tk c : Nat) (acc : Array Value) (out : List Addr), its.size - i = k → i ≤ its.size → EnSt h en it S i → h.IsListIter it l i → h.IsList l its → (∀ b o, b ≠ S → b ≠ en → b ≠ it → h₁.get? b = some o → h.get? b = some o) → h.get? S = some { cls := .type "list", dict := none, data := .seq acc c, slots := #[] } →
      acc.toList = out.map Value.ref → out.length = i → Enp its S h out → codeAny (model prog w) A (.builtin "list.extend.loop" ⟨[.ref S, .ref en, res], []⟩) R { s with heap := h, toks := tk } := by
  intro k
  induction k with
  | zero =>
    intro i h tk c acc out hk hi st hit hl keep hS hacc hlen g
    have hx : its[i]? = none := Array.getElem?_eq_none (by omega)
    refine codeAny_builtin PySem.F.entry_extend_loop ?_
    rw [Around.under_plainId PySem.F.plain_extend_loop _]
    show wpAny _ A.in1 (pyNext (.ref en) >>= _) _ _ _
    refine wpAny_bind (en_done (s := { s with heap := h, toks := tk }) (A := A.in1) hh st hit hl hx fun h' hb => ?_)
    have hb : ∀ b o, b ≠ it → h.get? b = some o → h'.get? b = some o := hb
    refine wpAny_pure (last h' tk acc c out (fun b o q1 q2 q3 e => hb b o q3 (keep b o q1 q2 q3 e)) (hb S _ (Nat.ne_of_gt n2) hS) (by omega) ⟨g.up, g.hi, fun j a hj => ?_⟩ hacc)
    obtain ⟨t, x, hx1, hx2⟩ := g.pr j a hj
    exact ⟨t, x, hx1, hb a _ (Nat.ne_of_gt (Nat.lt_trans n2 (g.hi a (List.mem_of_getElem? hj)))) hx2⟩
  | succ k ih =>
    intro i h tk c acc out hk hi st hit hl keep hS hacc hlen g
    have hlt : i < its.size := by omega
    have hsz : acc.size = i := by rw [← Array.length_toList, hacc, List.length_map, hlen]
    obtain ⟨x, hx⟩ : ∃ x, its[i]? = some x := ⟨_, Array.getElem?_eq_getElem hlt⟩
    have hSl : S < h.objs.size := Heap.lt_size hS
    refine codeAny_builtin PySem.F.entry_extend_loop ?_
    rw [Around.under_plainId PySem.F.plain_extend_loop _]
    show wpAny _ A.in1 (pyNext (.ref en) >>= _) _ _ _
    refine wpAny_bind (en_item (s := { s with heap := h, toks := tk }) (S := S) (A := A.in1) st hSl hit hl hx ne fun h' st2 hit2 ht hz hk2 => ?_)
    dsimp only at ht hz hk2 ⊢
    have hS2 := hk2 S _ (Nat.ne_of_gt n1) (Nat.ne_of_gt n2) hS
    obtain ⟨hu, ehu⟩ : ∃ hu, hu = h'.update S (Obj.mapSeq (·.push (Value.ref h.objs.size))) := ⟨_, rfl⟩
    have up : ∀ b o, b ≠ S → h'.get? b = some o → hu.get? b = some o := fun b o hb e => by rw [ehu]; exact (Heap.get?_update_other _ _ (Ne.symm hb)).trans e
    have ht2 : hu.get? h.objs.size = _ := up _ _ (Nat.ne_of_gt hSl) ht
    show wpAny _ A.in1 (updateSeq S (·.push (Value.ref h.objs.size)) >>= _) _ _ _
    refine wpAny_bind ?_
    refine wpAny_updateSeq hS2 rfl (wpAny_pure ⟨plainId_quiet PySem.F.plain_extend_loop _, ?_⟩) (by rw [hsz]; omega) (by show (acc.push (Value.ref h.objs.size)).size ≤ sizeLine + 1; rw [Array.size_push, hsz]; omega)
    show codeAny _ A _ R { s with heap := h'.update S (Obj.mapSeq (·.push (Value.ref h.objs.size))), toks := tk + 1 }
    rw [← ehu]
    refine ih (i + 1) hu (tk + 1) _ (acc.push (Value.ref h.objs.size)) (out ++ [h.objs.size]) (by omega) hlt (st2.up up (Nat.ne_of_lt n1)) (iter_up hit2 up (Nat.ne_of_lt n2)) (list_up (list_up2 hl hk2 n4 n5) up (Nat.ne_of_lt n3)) (fun b o q1 q2 q3 e => up b o q1 (hk2 b o q2 q3 (keep b o q1 q2 q3 e))) (by rw [ehu]; first | exact Heap.get?_update_self (Obj.mapSeq (·.push (Value.ref h.objs.size))) hS2 rfl | rfl) (by rw [Array.toList_push, hacc, List.map_append]; rfl) (by rw [List.length_append, hlen]; rfl) ⟨?_, ?_, ?_⟩
    · refine List.pairwise_append.mpr ⟨g.up, List.pairwise_singleton _ _, fun a ha b hb => ?_⟩
      rw [List.mem_singleton.mp hb]
      exact g.lt ha
    · intro a ha
      rcases List.mem_append.mp ha with z | z
      · exact g.hi a z
      · rw [List.mem_singleton.mp z]; exact hSl
    · intro j b hj
      by_cases hjl : j < out.length
      · rw [List.getElem?_append_left hjl] at hj
        obtain ⟨t, y, e1, e2⟩ := g.pr j b hj
        have hb := g.hi b (List.mem_of_getElem? hj)
        exact ⟨t, y, e1, up b _ (Nat.ne_of_gt hb) (hk2 b _ (Nat.ne_of_gt (Nat.lt_trans n1 hb)) (Nat.ne_of_gt (Nat.lt_trans n2 hb)) e2)⟩
      · rw [List.getElem?_append_right (by omega)] at hj
        have hj0 : j - out.length = 0 := by
          cases z : j - out.length with
          | zero => rfl
          | succ m => rw [z] at hj; cases hj
        rw [hj0] at hj
        cases hj
        have ej : j = i := by omega
        subst ej
        exact ⟨tk, x, hx, ht2⟩
end
theorem enum_no_len : typeLookup (.type "enumerate") "__len__" = pure none := by rw [typeLookup_type, builtinLookup_eq_fast]; kernel_rfl
theorem enum_no_hint : typeLookup (.type "enumerate") "__length_hint__" = pure none := by rw [typeLookup_type, builtinLookup_eq_fast]; kernel_rfl
section
variable {prog : Program} {w : World} {A : Around} {E : Value → Shared → Prop} {s : Shared} {its : Array Value} {en it l : Addr}
theorem en_extend {R : Result → Shared → Prop} {S c0 : Addr} (hh : A.handled = none) (n1 : en < S) (n2 : it < S) (n3 : l < S) (ne : en ≠ it) (n4 : l ≠ en) (n5 : l ≠ it) (hn : its.size ≤ sizeLine) (res : Value) (he : IsEnum s.heap en it 0 .none) (hit : s.heap.IsListIter it l 0) (hl : s.heap.IsList l its) (hS : s.heap.get? S = some { cls := .type "list", data := .seq #[] c0 })
    (last : ∀ h' tk acc c out, (∀ b o, b ≠ S → b ≠ en → b ≠ it → s.heap.get? b = some o → h'.get? b = some o) → h'.get? S = some { cls := .type "list", dict := none, data := .seq acc c, slots := #[] } → out.length = its.size → Enp its S h' out → acc.toList = out.map Value.ref → R (.ok (.ret res)) { s with heap := h', toks := tk }) :
    wpAny (model prog w) A.in1 (Builtin.List.listExtendWith (.ref S) (.ref en) res) (fun fin s' => match fin with | .done f => R (.ok f) s' | .again c' => c'.quiet = true ∧ codeAny (model prog w) A c' R s') (fun e s' => R (.error e) s') s := by
  have ty : s.TypeIs (.ref en) "enumerate" := ⟨_, he, rfl⟩
  unfold Builtin.List.listExtendWith
  refine wpAny_bind (wpAny_typeOf ty ?_)
  have c1 : Builtin.List.listSameRef (.ref S) (.ref en) = false := by simp [Builtin.List.listSameRef, Nat.ne_of_gt n1]
  have c2 : (Value.type "enumerate" == Value.type "list") = false := by decide
  have c3 : (Value.type "enumerate" == Value.type "tuple") = false := by decide
  simp only [c1, c2, c3, Bool.or_false, Bool.false_eq_true, if_false]
  refine wpAny_bind (wpAny_pyIter_enum he (wpAny_bind (wpAny_holding ?_)))
  unfold Builtin.List.listLengthHint
  refine wpAny_bind (wpAny_specialOf ty enum_no_len ?_)
  show wpAny _ A.in1 (specialOf (Value.ref en) (Str.ofString "__length_hint__") >>= _) _ _ _
  refine wpAny_bind (wpAny_specialOf ty enum_no_hint (wpAny_pure ?_))
  show wpAny _ A.in1 (rule "list.extend.makes-room" >>= fun _ => Builtin.List.listTouch (.ref S) >>= fun _ => again (.builtin "list.extend.loop" ⟨[.ref S, .ref en, res], []⟩)) _ _ _
  refine wpAny_bind (wpAny_rule (wpAny_bind ?_))
  show wpAny _ A.in1 (updateSeq S (·.push .none) >>= fun _ => updateSeq S (·.pop)) _ _ _
  refine wpAny_bind (wpAny_updateSeq hS rfl ?_)
  obtain ⟨h2, e2⟩ : ∃ h2, h2 = s.heap.update S (Obj.mapSeq (·.push Value.none)) := ⟨_, rfl⟩
  have hS2 := Heap.get?_update_self (Obj.mapSeq (·.push Value.none)) hS rfl
  rw [← e2] at hS2 ⊢
  refine wpAny_updateSeq (hz := by seq_fits) hS2 rfl ?_
  obtain ⟨h3, e3⟩ : ∃ h3, h3 = h2.update S (Obj.mapSeq (·.pop)) := ⟨_, rfl⟩
  have hS3 := Heap.get?_update_self (Obj.mapSeq (·.pop)) hS2 rfl
  rw [← e3] at hS3
  have k3 : ∀ b o, b ≠ S → s.heap.get? b = some o → h3.get? b = some o := fun b o hb e => by rw [e3, e2]; exact (Heap.get?_update_other _ _ (Ne.symm hb)).trans ((Heap.get?_update_other _ _ (Ne.symm hb)).trans e)
  rw [← e3]
  exact wpAny_pure ⟨plainId_quiet PySem.F.plain_extend_loop _, en_loop (s := s) (h₁ := s.heap) hh n1 n2 n3 ne n4 n5 hn res last its.size 0 h3 _ _ #[] [] (Nat.sub_zero _) (Nat.zero_le _) (.inl ⟨rfl, k3 _ _ (Nat.ne_of_lt n1) he⟩) (iter_up hit k3 (Nat.ne_of_lt n2)) (list_up hl k3 (Nat.ne_of_lt n3)) (fun b o q1 _ _ e => k3 b o q1 e) hS3 rfl rfl ⟨List.Pairwise.nil, (fun _ z => nomatch z), (fun j a z => by simp at z)⟩⟩
theorem en_call {Q : Value → Shared → Prop} (hh : A.handled = none) (ne : en ≠ it) (n4 : l ≠ en) (n5 : l ≠ it) (hn : its.size ≤ sizeLine) (he : IsEnum s.heap en it 0 .none) (hit : s.heap.IsListIter it l 0) (hl : s.heap.IsList l its)
    (q : ∀ h' tk acc c out, (∀ b o, b ≠ en → b ≠ it → s.heap.get? b = some o → h'.get? b = some o) → h'.get? s.heap.objs.size = some { cls := .type "list", dict := none, data := .seq acc c, slots := #[] } → out.length = its.size → Enp its s.heap.objs.size h' out → acc.toList = out.map Value.ref → Q (.ref s.heap.objs.size) { s with heap := h', toks := tk }) :
    wpAny (model prog w) A (call (.type "list") [.ref en]) Q E s := by
  have n1 : en < s.heap.objs.size := Heap.lt_size he
  have n2 : it < s.heap.objs.size := by obtain ⟨o, ho, _⟩ := hit; exact Heap.lt_size ho
  have n3 : l < s.heap.objs.size := by obtain ⟨o, ho, _⟩ := hl; exact Heap.lt_size ho
  refine callType_codes (Q₁ := fun obj s₁ => obj = .ref s.heap.objs.size ∧ s₁ = { s with heap := s.heap.push { cls := .type "list", data := .seq #[] } }) PySem.F.called_list (PySem.F.typeCall_list_1 _) PySem.F.entry_list_init (code_list_new _ ⟨rfl, rfl⟩) fun obj s₁ hq => ?_
  obtain ⟨rfl, rfl⟩ := hq
  obtain ⟨h1, e1⟩ : ∃ h1, h1 = s.heap.push { cls := .type "list", data := .seq #[] } := ⟨_, rfl⟩
  have hS : h1.get? s.heap.objs.size = some { cls := .type "list", data := .seq #[] } := by rw [e1]; exact Heap.get?_push_size _ rfl
  have k1 : ∀ b o, s.heap.get? b = some o → h1.get? b = some o := fun b o e => by rw [e1]; exact Heap.get?_push_of_some _ e
  rw [← e1]
  refine ⟨⟨_, hS, rfl⟩, PySem.F.args_list_init_2 _ _, ?_⟩
  show wpAny _ A.in1.in1 (do let old ← Builtin.List.listItems (.ref s.heap.objs.size); Builtin.List.listUpdate (.ref s.heap.objs.size) (fun _ => #[]); letGo old.toList.reverse; Builtin.List.listExtendWith (.ref s.heap.objs.size) (.ref en) .none) _ _ _
  refine wpAny_bind ?_
  unfold Builtin.List.listItems
  refine wpAny_bind (wpAny_seqItems hS rfl (wpAny_pure ?_))
  show wpAny _ A.in1.in1 (updateSeq s.heap.objs.size (fun _ => #[]) >>= fun _ => letGo (#[] : Array Value).toList.reverse >>= fun _ => Builtin.List.listExtendWith (.ref s.heap.objs.size) (.ref en) .none) _ _ _
  refine wpAny_bind (wpAny_updateSeq hS rfl ?_)
  obtain ⟨h2, e2⟩ : ∃ h2, h2 = h1.update s.heap.objs.size (Obj.mapSeq (fun _ => (#[] : Array Value))) := ⟨_, rfl⟩
  have hS2 := Heap.get?_update_self (Obj.mapSeq (fun _ => (#[] : Array Value))) hS rfl
  rw [← e2] at hS2
  have k2 : ∀ b o, b ≠ s.heap.objs.size → s.heap.get? b = some o → h2.get? b = some o := fun b o hb e => by rw [e2]; exact (Heap.get?_update_other _ _ (Ne.symm hb)).trans (k1 b o e)
  rw [← e2]
  refine wpAny_bind (wpAny_letGo ?_)
  refine en_extend (s := { s with heap := h2 }) (A := A.in1) hh n1 n2 n3 ne n4 n5 hn .none (k2 _ _ (Nat.ne_of_lt n1) he) (iter_up hit k2 (Nat.ne_of_lt n2)) (list_up hl k2 (Nat.ne_of_lt n3)) hS2 fun h' tk acc c out keep hS' hlen g hacc => ?_
  exact ⟨rfl, q h' tk acc c out (fun b o q1 q2 e => by
    have hb : b ≠ s.heap.objs.size := Nat.ne_of_lt (Heap.lt_size e)
    exact keep b o hb q1 q2 (k2 b o hb e)) hS' hlen g hacc⟩
end
/-- several new tuples, tracked -/
def layT (H : Hp) (out : List Addr) (f : Addr → HO) : Hp := fun b => if b ∈ out then some (f b) else H b
section
variable {H : Hp} {out : List Addr} {f : Addr → HO} {h h' : Heap}
theorem layT_in {b : Addr} (hb : b ∈ out) : layT H out f b = some (f b) := if_pos hb
theorem layT_out {b : Addr} (hb : b ∉ out) : layT H out f b = H b := if_neg hb
theorem un_layT {fs ex : List Addr} (k : ∀ b u, h.get? b = some u → h'.get? b = some u) (hp : ∀ a ∈ out, h.objs.size ≤ a) (hn : ∀ a ∈ out, H a = none) : Un fs ex H (layT H out f) h h' where
  keep := fun b u q _ _ _ => k b u q
  slot := fun b u q _ _ _ => ⟨u.slots, k b u q⟩
  free := fun b u q n _ => by rw [layT_out fun z => absurd (Nat.lt_of_lt_of_le (Heap.lt_size q) (hp b z)) (Nat.lt_irrefl _)]; exact n
  there := fun b u q _ => ⟨u, k b u q⟩
  tups := fun b xs q => by rw [layT_out fun z => by rw [hn b z] at q; cases q]; exact q
  frzs := fun b u xs q => by rw [layT_out fun z => by rw [hn b z] at q; cases q]; exact q
  tbls := fun b ps q => ⟨#[], by rw [layT_out (fun z => by rw [hn b z] at q; cases q), q]; simp⟩
theorem hok_layT {P : Program} {w : World} (x : HOk P w H h) (k : ∀ b u, h.get? b = some u → h'.get? b = some u) (hn : ∀ a ∈ out, H a = none) (new : ∀ a ∈ out, ObjOk P w (layT H out f) h' a (f a)) : HOk P w (layT H out f) h' := fun b u e => by
  by_cases hb : b ∈ out
  · rw [layT_in hb] at e
    cases e
    exact new b hb
  · rw [layT_out hb] at e
    exact (x b u e).stay (fun c v _ q => k c v q) (fun c q => by rw [layT_out fun z => by rw [hn c z] at q; cases q]; exact q) fun c xs q => by rw [layT_out fun z => by rw [hn c z] at q; cases q]; exact q
end
/-- list(enumerate(e)), e a list: new pairs in a new list -/
def tListEnum (K : PySem.W.Frag) (te : TE) : TE := fun σ H Q => te σ H fun v H1 => ∃ (a : Addr) (xs : List V), v = .ref a ∧ SqL K H1 a xs ∧
  ∀ (out : List Addr) (p : Addr) (B' : Hp), out.Nodup → (∀ t ∈ out, H1 t = none) → H1 p = none → p ∉ out → out.length = xs.length → (∀ b, b ∉ out → B' b = H1 b) → (∀ (j : Nat) (t : Addr) (x : V), out[j]? = some t → xs[j]? = some x → B' t = some (.tup [.int (j : Int), x])) → Q (.ref p) (upd B' p (.lst (out.map V.ref)))
section
variable {X : Cx}
theorem pe_listEnum {e : Expr} {te : TE} {p p2 pos pos2 : Pos} (hc : X.calm = true) (hg : Gl X "list") (hm : X.mg "list" = none) (hg2 : Gl X "enumerate") (hm2 : X.mg "enumerate" = none) (he : PE X e te)
    (hs : starEach [e] X.env = (false, eval e X.env) :: starEach [] X.env := by rfl)
    (hs2 : starEach [.Call (.Name "enumerate" p2) [e] [] pos2] X.env = (false, eval (.Call (.Name "enumerate" p2) [e] [] pos2) X.env) :: starEach [] X.env := by rfl) :
    PE X (.Call (.Name "list" p) [.Call (.Name "enumerate" p2) [e] [] pos2] [] pos) (tListEnum X.K te) := by
  refine ⟨fun pins s σ H Q I h => ?_⟩
  refine Call_ (ld_blt I hg hm PyProof.Rows.boot_list (PyProof.Rows.callWith_type1 (args_cons (Call_ (ld_blt I hg2 hm2 PyProof.Rows.boot_enumerate (PyProof.Rows.callWith_type1 (args_cons (thn (he.run pins s σ H _ I h) fun u s1 ⟨v, H1, I1, r1, q1⟩ => args_nil ?_) hs) hs rfl))) hs2) hs2 rfl))
  obtain ⟨a, xs, ev, hq, q⟩ := q1
  subst ev
  obtain rfl : u = Value.ref a := r1
  obtain ⟨its, rv, p', hz⟩ := I1.list hq
  have hl := p'.isList
  have ha : a < s1.heap.objs.size := by obtain ⟨ol, hol, _⟩ := id hl; exact Heap.lt_size hol
  refine call_enumerate_list hl fun h2 hen hit hsz k2 => args_nil ?_
  have hn : its.toArray.size ≤ sizeLine := by rw [List.size_toArray, ← rv.length]; exact hz
  have hl2 : h2.IsList a its.toArray := by obtain ⟨o, ho, r⟩ := hl; exact ⟨o, k2 _ _ ho, r⟩
  refine en_call (s := { s1 with heap := h2 }) (I1.ok.hd hc) (Nat.succ_ne_self _) (Nat.ne_of_lt (Nat.lt_succ_of_lt ha)) (Nat.ne_of_lt ha) hn hen hit hl2 fun h' tk acc c out keep hS hlen g hacc => ?_
  dsimp only at keep hS g ⊢
  have kk : ∀ b o, s1.heap.get? b = some o → h'.get? b = some o := fun b o e => by
    have hb := Heap.lt_size e
    exact keep b o (Nat.ne_of_lt (Nat.lt_succ_of_lt hb)) (Nat.ne_of_lt hb) (k2 b o e)
  have hge : ∀ t ∈ out, s1.heap.objs.size ≤ t := fun t ht => by
    have h9 : h2.objs.size < t := g.hi t ht
    omega
  have hSge : s1.heap.objs.size ≤ h2.objs.size := by omega
  have hSo : h2.objs.size ∉ out := fun z => Nat.lt_irrefl _ (g.hi _ z)
  have hnd : out.Nodup := g.up.imp fun {a b} z => Nat.ne_of_lt z
  have hxl : xs.length = out.length := by rw [rv.length, hlen, List.size_toArray]
  obtain ⟨f, hf⟩ : ∃ f : Addr → HO, f = fun b => if b ∈ out then .tup [.int ((out.idxOf b : Nat) : Int), xs.getD (out.idxOf b) .non] else .lst (out.map V.ref) := ⟨_, rfl⟩
  have hft : ∀ (j : Nat) (t : Addr) (x : V), out[j]? = some t → xs[j]? = some x → f t = .tup [.int (j : Int), x] := fun j t x e1 e2 => by
    have hj : j < out.length := (List.getElem?_eq_some_iff.mp e1).1
    have hte : out[j] = t := (List.getElem?_eq_some_iff.mp e1).2
    have hid : out.idxOf t = j := by rw [← hte]; exact hnd.idxOf_getElem j hj
    rw [hf]
    dsimp only
    rw [if_pos (List.mem_of_getElem? e1), hid, List.getD_eq_getElem?_getD, e2]
    rfl
  have hfS : f h2.objs.size = .lst (out.map V.ref) := by rw [hf]; exact if_neg hSo
  have hnone : ∀ t ∈ h2.objs.size :: out, H1 t = none := fun t ht => by
    rcases List.mem_cons.mp ht with z | z
    · rw [z]; exact I1.hok.fresh hSge
    · exact I1.hok.fresh (hge t z)
  have I2 : Inv X pins σ (layT H1 (h2.objs.size :: out) f) { s1 with heap := h', toks := tk } := by
    refine I1.un (t' := tk) (un_layT kk (fun t ht => ?_) hnone) (hok_layT I1.hok kk hnone fun t ht => ?_)
    · rcases List.mem_cons.mp ht with z | z
      · rw [z]; exact hSge
      · exact hge t z
    · rcases List.mem_cons.mp ht with z | z
      · subst z
        rw [hfS]
        refine ⟨by rw [List.length_map, ← hxl]; exact hz, acc.toList, c, ?_, by rw [hS, Array.toArray_toList]⟩
        rw [hacc]
        have : ∀ l : List Addr, Vals (l.map V.ref) (l.map Value.ref) := fun l => by
          induction l with
          | nil => exact .nil
          | cons x r ih => exact .cons (show RelV (.ref x) (.ref x) from rfl) ih
        exact this out
      · obtain ⟨j, hj⟩ := List.mem_iff_getElem?.mp z
        obtain ⟨tt, y, e1, e2⟩ := g.pr j t hj
        have hjx : j < xs.length := by rw [hxl]; exact (List.getElem?_eq_some_iff.mp hj).1
        rw [hft j t _ hj (List.getElem?_eq_getElem hjx)]
        refine ⟨by show 2 ≤ sizeLine; decide, [.int j tt, y], .cons ⟨tt, rfl⟩ (.cons ?_ .nil), ⟨_, e2, rfl, _, rfl⟩⟩
        obtain ⟨y2, ey, ry⟩ := Vals.get rv (List.getElem?_eq_getElem hjx)
        rw [show its.toArray[j]? = its[j]? by simp] at e1
        rw [e1] at ey
        cases ey
        exact ry
  refine ⟨.ref h2.objs.size, _, I2, rfl, ?_⟩
  have fin := q out h2.objs.size (layT H1 out f) hnd (fun t ht => hnone t (List.mem_cons_of_mem _ ht)) (hnone _ List.mem_cons_self) hSo hxl.symm (fun b hb => layT_out hb) fun j t x e1 e2 => by
    rw [layT_in (List.mem_of_getElem? e1), hft j t x e1 e2]
  have ee : layT H1 (h2.objs.size :: out) f = upd (layT H1 out f) h2.objs.size (.lst (out.map V.ref)) := by
    funext b
    by_cases hb : b = h2.objs.size
    · subst hb
      rw [upd_same, layT_in List.mem_cons_self, hfS]
    · rw [upd_ne hb]
      by_cases hb2 : b ∈ out
      · rw [layT_in hb2, layT_in (List.mem_cons_of_mem _ hb2)]
      · rw [layT_out hb2, layT_out fun z => by rcases List.mem_cons.mp z with z | z <;> first | exact hb z | exact hb2 z]
  rw [ee]
  exact fin
end
def LeK (K : PySem.W.Frag) (a : Addr) (H : Hp) (G : Addr → Hp → Prop) : Prop := ∃ (xs : List V), SqL K H a xs ∧
  ∀ (out : List Addr) (p : Addr) (B' : Hp), out.Nodup → (∀ t ∈ out, H t = none) → H p = none → p ∉ out → out.length = xs.length → (∀ b, b ∉ out → B' b = H b) → (∀ (j : Nat) (t : Addr) (x : V), out[j]? = some t → xs[j]? = some x → B' t = some (.tup [.int (j : Int), x])) → G p (upd B' p (.lst (out.map V.ref)))
section
variable {K : PySem.W.Frag} {B H : Hp} {l : List (Addr × HO)} {a p : Addr} {xs ys : List V} {σ : L2.St} {Q : VK} {te : TE}
theorem e_listEnum : tListEnum K te σ H Q ↔ te σ H fun v H1 => ∃ a, v = .ref a ∧ LeK K a H1 fun p H2 => Q (.ref p) H2 :=
  Iff.of_eq (congrArg (te σ H) (funext fun v => funext fun H1 => propext ⟨fun ⟨a, xs, e, h⟩ => ⟨a, e, xs, h⟩, fun ⟨a, e, xs, h⟩ => ⟨a, xs, e, h⟩⟩))
theorem LeK.of {G : Addr → Hp → Prop} (L : Led B H l) (h : SqL K H a xs) (k : ∀ p (ts : List Addr) B' H', Same B B' → ts.length = xs.length → (∀ (j : Nat) (t : Addr) (x : V), ts[j]? = some t → xs[j]? = some x → B' t = some (.tup [.int (j : Int), x])) → Led B' H' ((p, .lst (ts.map V.ref)) :: l) → G p H') : LeK K a H G := by
  refine ⟨xs, h, fun out p B1 hnd hn hp hpo hlen hsame htup => ?_⟩
  obtain ⟨B2, e2⟩ : ∃ B2 : Hp, B2 = fun b => if b ∈ out then B1 b else B b := ⟨_, rfl⟩
  have b2i : ∀ b, b ∈ out → B2 b = B1 b := fun b hb => by rw [e2]; exact if_pos hb
  have b2o : ∀ b, b ∉ out → B2 b = B b := fun b hb => by rw [e2]; exact if_neg hb
  have Bn : ∀ b ∈ out, B b = none := fun b hb => by
    cases z : B b with
    | none => rfl
    | some o => have := L.sm _ _ z; rw [hn b hb] at this; cases this
  have L2 : Led B2 B1 l := by
    refine ⟨fun b o e => ?_, L.nd, fun e he => ?_, fun e he => ?_⟩
    · by_cases hb : b ∈ out
      · rw [b2i b hb] at e; exact e
      · rw [b2o b hb] at e; rw [hsame b hb]; exact L.sm _ _ e
    · have : e.1 ∉ out := fun z => by have := L.hs e he; rw [hn _ z] at this; cases this
      rw [b2o _ this]; exact L.fr e he
    · have : e.1 ∉ out := fun z => by have := L.hs e he; rw [hn _ z] at this; cases this
      rw [hsame _ this]; exact L.hs e he
  refine k p out B2 _ (fun b o e => ?_) hlen (fun j t x e1 e2 => by rw [b2i t (List.mem_of_getElem? e1)]; exact htup j t x e1 e2) (L2.new (by rw [hsame p hpo]; exact hp))
  rw [b2o b fun z => by rw [Bn b z] at e; cases e]
  exact e
theorem u65 {k : Nat} {A : Around} (r : Room k A) : A.units + 65 < cLine := by have := r.un; omega
/-! ### (x,) * n -/
def RptTK (K : PySem.W.Frag) (a : Addr) (n : Int) (H : Hp) (G : Addr → Hp → Prop) : Prop := ∃ xs, SqT K H a xs ∧ xs ≠ [] ∧ 2 ≤ n ∧ n ≤ 1000 ∧ xs.length ≤ 1000 ∧ NewK (.tup (List.replicate n.toNat xs).flatten) H G
theorem x_repT {n : Int} : rRepT K (.ref a) (.int n) H Q ↔ RptTK K a n H fun p H1 => Q (.ref p) H1 := ⟨fun ⟨_, _, xs, e1, e2, h, h1, h2, h3, h4, q⟩ => by cases e1; cases e2; exact ⟨xs, h, h1, h2, h3, h4, q⟩, fun ⟨xs, h, h1, h2, h3, h4, q⟩ => ⟨a, n, xs, rfl, rfl, h, h1, h2, h3, h4, q⟩⟩
theorem RptTK.of {n : Nat} {v : V} {G : Addr → Hp → Prop} (L : Led B H l) (h : SqT K H a [v]) (h2 : 2 ≤ n) (hn : n ≤ 1000) (k : ∀ p H1, Led B H1 ((p, .tup (List.replicate n v)) :: l) → G p H1) : RptTK K a (n : Int) H G :=
  ⟨[v], h, by simp, by omega, by omega, by simp, by rw [Int.toNat_natCast, flat_one]; exact NewK.of L k⟩
/-! ### d.pop(k, x) -/
def DPopK (H : Hp) (a : Addr) (y z : V) (Q : V → Hp → Prop) : Prop := ∃ kvs k, H a = some (.dK kvs) ∧ y = kV k ∧ (∀ v, valV kvs k = some v → Q v (upd H a (.dK (dropK kvs k)))) ∧ (valV kvs k = none → Q z H)
theorem e_dpop2 {td ty tx : TE} : tDPop2 td ty tx σ H Q = td σ H fun x H1 => ∃ a, x = .ref a ∧ IsD H1 a ∧ ty σ H1 fun y H2 => tx σ H2 fun z H3 => DPopK H3 a y z Q := propext ⟨fun h => h, fun h => h⟩
/-! ### sorted of tuples of ints -/
def SrtUK (K : PySem.W.Frag) (d : Nat) (Bd : Int) (a : Addr) (H : Hp) (G : Addr → Hp → Prop) : Prop := ∃ xs, SqL K H a xs ∧ xs.length < 64 ∧ (∀ x ∈ xs, ∃ ns, TupI K H x ns ∧ ns.length = d ∧ TS.Bd Bd ns) ∧ ∀ ys : List V, ys.Perm xs → ys.Pairwise (fun x y => ∀ n m, TupI K H x n → TupI K H y m → TS.code Bd n ≤ TS.code Bd m) → NewK (.lst ys) H G
theorem x_sortU {d : Nat} {Bd : Int} : rSortU K d Bd [.ref a] H Q ↔ SrtUK K d Bd a H fun p H1 => Q (.ref p) H1 :=
  ⟨fun ⟨_, xs, e, h1, h2, h3, q⟩ => by cases e; exact ⟨xs, h1, h2, h3, fun ys hp hs p hn => q ys p hp hs hn⟩, fun ⟨xs, h1, h2, h3, q⟩ => ⟨a, xs, rfl, h1, h2, h3, fun ys p hp hs hn => q ys hp hs p hn⟩⟩
/-! ### x not in a list of data -/
def NInK (K : PySem.W.Frag) (x y : V) (H : Hp) (G : Bool → Prop) : Prop := ∃ d ds, Dp K H x d ∧ Dp K H y (.list ds) ∧ SeqAt.shaped d = true ∧ SeqAt.shaped (.list ds) = true ∧ G (!ds.any fun z => PyData.eqv z d)
theorem x_notInD {x y : V} : rNotInD K x y H Q ↔ NInK K x y H fun b => Q (.bl b) H := Iff.rfl
/-! ### for x in reversed(xs) -/
theorem i_rev {al : TA} {R : It → Hp → Prop} : iRev K al σ H R ↔ al σ H fun vs H1 => ∃ a, vs = [.ref a] ∧ ∃ xs, SqL K H1 a xs ∧ R (Itv K a xs.length) H1 := by
  unfold iRev
  exact Iff.of_eq (congrArg (al σ H) (funext fun vs => funext fun H1 => propext ⟨fun ⟨a, xs, e, h, r⟩ => ⟨a, e, xs, h, r⟩, fun ⟨a, e, xs, h, r⟩ => ⟨a, xs, e, h, r⟩⟩))
theorem loop_rev {g : TG} {tb : TS} {D : Ends} (Pv : Nat → L2.St → Hp → Prop) (h0 : Pv 0 σ H) (hq : ∀ i σ H, Pv i σ H → SqL K H a xs)
    (hs : ∀ (i : Nat) (x : V) (σ : L2.St) (H : Hp) (N : L2.St → Hp → Prop), i < xs.length → xs[xs.length - 1 - i]? = some x → Pv i σ H → (∀ σ2 H2, Pv (i + 1) σ2 H2 → N σ2 H2) → g x σ H fun σ2 H2 => tb { D with nx := N, ct := N, bk := D.nx } σ2 H2) (hd : ∀ σ H, Pv xs.length σ H → D.nx σ H) : LoopK (Itv K a xs.length) g tb D σ H :=
  RT.for_Itv Pv h0 hq (fun i x σ H h1 h2 h3 => hs i x σ H _ h1 h2 h3 fun _ _ z => z) hd
end
end Vg


set_option Elab.async false
set_option linter.all false
set_option maxRecDepth 100000
set_option maxHeartbeats 2000000
namespace Vg
open PySem PySem.Spec PyProof.Rows L2 PySem.Calls PyProof.V PySem.W NdefX
/-! ### super().__init__(e) of an own exception class that lies over ValueError -/
theorem call_mw {X : Cx} {pins : List (Addr × Obj)} {σ : L2.St} {H : Hp} {s : Shared} {a C u : Addr} {us : List Value} {Q : Value → Shared → Prop} {E : Value → Shared → Prop} {A : Around} (T : OexC X.K C) (I : Inv X pins σ H s) (e : H a = some (exo a C none))
    (hu : s.heap.get? u = some (kxs_mw "ValueError.__init__" a)) (hl : us.length ≤ sizeLine) (q : ∀ s', Inv X pins σ H s' → Q .none s') : wpAny (model X.prog X.w) A (call (.ref u) us) Q E s := by
  obtain ⟨nm, q0, N, bs, bm, sn, sub, ab, col, dd, k0, k1, k2, k3, k5, hC, hbm⟩ := T.cls
  obtain ⟨t1, ho⟩ := exo_at I.hok e
  obtain ⟨hp, g, d, t, os⟩ := s
  refine wpAny_call (codeAny_of_tree (?_ : wpAny _ A.in1 (callAny (.ref u) ⟨us, []⟩) _ _ _))
  simp only [callAny]
  refine wpAny_bind (wpAny_load hu ?_)
  have k1' : (Value.type "method-wrapper" == Value.type "method" || Value.type "method-wrapper" == Value.type "builtin_function_or_method" || Value.type "method-wrapper" == Value.type "method-wrapper") = true := by decide
  simp only [kxs_mw, k1', if_true]
  refine KFB.if_so (by decide) (wpAny_bind (check_bound_init F.excBase_ValueError.toExcCallFacts (I.kIn _ _ hC) ho rfl (wpAny_bind (wpAny_pure (wpAny_pure ⟨plainId_quiet F.excBase_ValueError.init.plain _, codeAny_builtin F.excBase_ValueError.initEntry ?_⟩)))))
  refine exc_init_tree (cls := .ref C) (t0 := t1) (dv := none) (c2 := .none) (c3 := .none) (b4 := .bool false) ho hl fun h' k e' _ => ?_
  have J := I.write (t' := t) (x := a) (e := a) (o := exo a C none) (by rw [e]; exact True.intro) (.inl rfl) k ⟨_, e'⟩ (exo_ok e')
  have eh : upd H a (exo a C none) = H := funext fun b => by
    rcases Classical.em (b = a) with hb | hb
    · rw [hb, upd_same, e]
    · exact upd_ne hb
  rw [eh] at J
  exact q _ J
/-- what the written part says of a def in an exception class that says super() -/
structure SupF (P : Program) (K : PySem.W.Frag) (mg : Str → Option Value) (params : Arguments) (qual : Str) (scope : Scope) (body : List Stmt) (x0 : Str) (f C cc : Addr) (fd : FuncData) : Prop where
  ex : ∃ (oc : Value) (od : Option Addr) (doc pm : Value) (an : Option Addr) (cda : Addr) (ct : Value) (osl : Array (Option Value)) (ccl : Value) (cdd : Option Addr) (vs : Array Value) (ccs : Array (Option Value)) (file : Str) (tf : Tok),
    fd = fnX "__init__" qual params body scope [("__class__", cc)] .none .none doc pm an (.ref cda) ct ∧ K.lookup f = some ⟨oc, od, .func fd, osl⟩ ∧ codeIn K (.ref cda) qual = true ∧ K.lookup cda = some ⟨ccl, cdd, .fields vs, ccs⟩ ∧ vs[2]? = some (.str file tf) ∧ ((P.main.file : Str) == file) = true
  cell : ∃ (cl : Value) (cld : Option Addr) (csl : Array (Option Value)), K.lookup cc = some ⟨cl, cld, .cell (some (.ref C)), csl⟩
  head : ∃ ar : Arg, (params.posonlyargs ++ params.args).head? = some ar ∧ ar.arg = x0
  cls : ∃ cd, clsIn K C = some cd
  top : (P.main.scope.names.lookup ("super" : Str)).isSome = false
  mgs : mg "super" = none
  stat : nsIn K cStatics "thirdparty.any" = some none
  init : ks_superIn K C C "__init__" = some (some (.builtin "ValueError.__init__"))
  sub : mroIn K C (.ref C) = some true
  isV : subIn K (.ref C) (.type "ValueError") = some true
  ks : scope.names.lookup ("super" : Str) = some .globalImplicit
  kc : scope.names.lookup ("__class__" : Str) = some .free
  ka : scope.names.lookup x0 = some .local
section
variable {X : Cx} {pins : List (Addr × Obj)} {σ : L2.St} {H : Hp} {s : Shared} {params : Arguments} {qual x0 : Str} {scope : Scope} {body : List Stmt} {f C cc a : Addr} {fd : FuncData} {L : Addr} {e0 : Expr} {te : TE} {p0 p1 p2 p3 : Pos} {Q : VK}
/-- the value of super().__init__(e), in the body itself -/
theorem sup_call (S : SupF X.prog X.K X.mg params qual scope body x0 f C cc fd) (T : OexC X.K C) (henv : ∀ cda, fd.code = .ref cda → X.env = envX qual scope L f (.ref cda) [("__class__", cc)]) (I : Inv X pins σ H s) (h0 : X.N[0]? = some x0) (hσ : σ[0]? = some (some (.ref a))) (ea : H a = some (exo a C none))
    (he : PE X e0 te) (q : te σ H fun v H1 => (∃ x : Str, [v] = [V.str x]) ∧ H1 a = some (exo a C none) ∧ Q .non H1) {pl : Sem Bool}
    (hc : eval (.Call (.Attribute (.Call (.Name "super" p0) [] [] p1) "__init__" p2) [e0] [] p3) X.env = (do
      let b ← attributeBase (.Call (.Name "super" p0) [] [] p1) "__init__" X.env (eval (.Call (.Name "super" p0) [] [] p1) X.env)
      standAt p2.atName
      let (g, fi) ← holding [b] (getMethod b "__init__" pl)
      callWith p3 g fi (backTo p3 (starEach [e0] X.env)) []))
    (hst : starEach [e0] X.env = (false, eval e0 X.env) :: starEach [] X.env) : _root_.PySem.wpAt (model X.prog X.w) X.A (.func body X.env) (eval (.Call (.Attribute (.Call (.Name "super" p0) [] [] p1) "__init__" p2) [e0] [] p3) X.env) (EP X pins σ Q) X.xe s := by
  obtain ⟨oc, od, doc, pm, an, cda, ct, osl, ccl, cdd, vs, ccs, file, tf, rfl, lk, hcd, hrec, hvs, hfile⟩ := S.ex
  obtain ⟨cl, cld, csl, hcell⟩ := S.cell
  obtain ⟨ar, har, har0⟩ := S.head
  obtain ⟨cd, hcl⟩ := S.cls
  have ee := henv cda rfl
  obtain ⟨t1, ho⟩ := exo_at I.hok ea
  obtain ⟨oD, hD1, hD2⟩ : ∃ oD, s.heap.get? C = some oD ∧ oD.data = .cls cd := by
    unfold clsIn at hcl
    split at hcl
    · cases hcl
      exact ⟨_, I.kIn _ _ (by assumption), rfl⟩
    · cases hcl
  have hks : X.env.kindOf "super" = some .globalImplicit := by rw [ee]; exact S.ks
  have hkc : X.env.kindOf "__class__" = some .free := by rw [ee]; exact S.kc
  have hka : X.env.kindOf x0 = some .local := by rw [ee]; exact S.ka
  have hLn : a ≠ X.env.locals := fun z => by have := I.free; rw [← z, ea] at this; cases this
  obtain ⟨mb, hb1, hb2⟩ := I.mod.blt
  refine ks_wpAt_MethodCall (he := hc) ?_
  refine ks_wpAt_super_base hks hkc (by decide) (by rw [ee]) (I.kIn _ _ lk) rfl har (by rw [ee]) (I.kIn _ _ hrec) rfl hvs hfile S.top ?_
  refine ks_loadName_global I.ok.kind hks (loadGlobal_builtin (by rw [I.ok.glob]; exact I.mod.glob.keeps I.bk) S.mgs (by rw [I.ok.blt]; exact hb1.keeps I.bk) ((hb2 "super" (by decide)).trans (by rfl)) ⟨rfl, ?_⟩)
  refine wpAny_loadName_free I.ok.kind hkc (by rw [ee]; rfl) ⟨_, I.kIn _ _ hcell, rfl⟩ ?_
  rw [har0]
  obtain ⟨m, hns, hm⟩ := I.loc
  obtain ⟨u0, ru, lk0⟩ := hm 0 x0 (.ref a) h0 hσ (by rw [ee]; exact .inl S.ka)
  obtain rfl : u0 = Value.ref a := ru
  rcases lk0 with ⟨_, hmx⟩ | ⟨z, _⟩
  rotate_left
  · rw [hka] at z
    rcases z with z | z <;> cases z
  refine wpAny_loadName_local I.ok.kind hka hns hmx ?_
  obtain ⟨hp, g, d, t, os⟩ := s
  refine ks_wpAny_isType_cls hD1 hD2 ⟨rfl, ?_⟩
  refine ks_wpAny_call_super hD1 hD2 ho rfl (fun c e => by cases e) (looks_mroIn I.kIn S.sub) fun h1 hso k1 => ?_
  have I1 : L2.Inv X pins σ H ⟨h1, g, d, t, os⟩ := I.kept (t' := t) k1
  obtain ⟨l, hl, hla⟩ : ∃ l, (cd.mro.dropWhile (· != .ref C)).drop 1 = l ∧ alongIn X.K "__init__" l = some (some (.builtin "ValueError.__init__")) := by
    have := S.init
    unfold ks_superIn at this
    rw [hcl] at this
    exact ⟨_, rfl, this⟩
  have ho1 := k1 _ _ ho
  have ia : InstAt h1 a _ C none := ⟨ho1, rfl, rfl, trivial⟩
  have hty : Looks (model X.prog X.w) h1 (isInstance (.ref a) (.type "ValueError")) true := ia.type.andThen (looks_subIn I1.kIn S.isV)
  have haC : a ≠ C := fun z => by
    have := (I.kIn _ _ lk)
    rw [z] at ho
    rw [hD1] at ho
    cases ho
    cases hD2
  refine kxs_getMethod kxs_ValueError hso (looks_opaque I1.kIn S.stat) (l₀ := cd.mro) (fun A Q E s k q => wpAny_bind ((looks_clsIn (I1.kIn.keeps k) hcl) A _ E s (fun _ _ z => z) (wpAny_pure q))) hl I1.kIn hla hty haC (by decide) ?_
  obtain ⟨h2, e2⟩ : ∃ h2, h2 = h1.push (kxs_mw "ValueError.__init__" a) := ⟨_, rfl⟩
  have k2 : ∀ b o, h1.get? b = some o → h2.get? b = some o := fun b o e => by rw [e2]; exact Heap.get?_push_of_some _ e
  have hu : h2.get? h1.objs.size = some (kxs_mw "ValueError.__init__" a) := by rw [e2]; exact Heap.get?_push_at rfl rfl
  rw [← e2]
  have I2 : L2.Inv X pins σ H ⟨h2, g, d, t + 1, os⟩ := I1.kept (t' := t + 1) k2
  have I3 : L2.Inv X ((h1.objs.size, kxs_mw "ValueError.__init__" a) :: pins) σ H ⟨h2, g, d, t + 1, os⟩ := I2.pins_of fun p hp => by
    rcases List.mem_cons.mp hp with z | z
    · subst z
      exact ⟨hu, I1.hok.fresh (Nat.le_refl _), Nat.ne_of_gt I1.lt, I1.nofs (Nat.le_refl _), fun v z => by cases z⟩
    · exact I2.pin p (List.mem_append_right _ z)
  show wpAny _ _ (callWith p3 (.ref h1.objs.size) [] (backTo p3 (starEach [e0] X.env)) []) _ _ _
  have q' : tCons te tNil σ H fun vs H1 => (∃ x, vs = [.str x]) ∧ H1 a = some (exo a C none) ∧ Q .non H1 := q
  have pa := pa_cons he pa_nil hst
  have run := pa.run p3 _ _ _ _ (fun vs H1 => (∃ x, vs = [.str x]) ∧ H1 a = some (exo a C none) ∧ Q .non H1) I3
  refine kxs_callWith (i := "ValueError.__init__") (x := a) (by rw [hst]; rfl) ?_
  rw [hst] at run ⊢
  refine evalArgs_plain (thn (run ?_) fun us s1 ⟨vs, H1, I4, r1, ⟨x, ev⟩, ea1, q1⟩ => ?_)
  · exact q'
  subst ev
  have hu1 : s1.heap.get? h1.objs.size = some (kxs_mw "ValueError.__init__" a) := (I4.pin _ (List.mem_append_right _ List.mem_cons_self)).1
  refine ⟨hu1, ?_⟩
  have I5 : L2.Inv X pins σ H1 s1 := I4.pins_of fun p hp => I4.pin p (List.mem_append_right _ (List.mem_cons_of_mem _ hp))
  have hl1 : us.length ≤ sizeLine := by
    rw [← Paired.length r1]
    show 1 ≤ sizeLine
    decide
  exact call_mw T I5 ea1 hu1 hl1 fun s' J => ⟨.non, H1, J, rfl, q1⟩
end
section
variable {CX : CXT} {P : Program} {w : World} {K : PySem.W.Frag} {mg : Str → Option Value} {base : Heap} {N ps : List Str} {params : Arguments} {qual x0 : Str} {scope : Scope} {body rest : List Stmt} {f C cc : Addr} {fd : FuncData} {e0 : Expr} {p0 p1 p2 p3 p4 : Pos} {k : Nat} {sp : Sp}
abbrev supN (qual : Str) (params : Arguments) (body : List Stmt) (scope : Scope) (cc cda : Addr) : NF := ⟨"__init__", qual, params, body, scope, [("__class__", cc)], cda⟩
/-- a def of an exception class whose first row is super().__init__(e) -/
theorem fn_super (S : SupF P K mg params qual scope body x0 f C cc fd) (T : OexC K C) (sc : NScope N (x0 :: ps) ["__class__"] scope) (hbd : body = .Expr (.Call (.Attribute (.Call (.Name "super" p0) [] [] p1) "__init__" p2) [e0] [] p3) p4 :: rest) {pl : Sem Bool}
    (hc : ∀ env : Env, eval (.Call (.Attribute (.Call (.Name "super" p0) [] [] p1) "__init__" p2) [e0] [] p3) env = (do
      let b ← attributeBase (.Call (.Name "super" p0) [] [] p1) "__init__" env (eval (.Call (.Name "super" p0) [] [] p1) env)
      standAt p2.atName
      let (g, fi) ← holding [b] (getMethod b "__init__" pl)
      callWith p3 g fi (backTo p3 (starEach [e0] env)) []))
    (hst : ∀ env : Env, starEach [e0] env = (false, eval e0 env) :: starEach [] env)
    (hsw : ∀ env : Env, swapsWith (.Call (.Attribute (.Call (.Name "super" p0) [] [] p1) "__init__" p2) [e0] [] p3) none p4.line env = pure false)
    (len : ∀ vs H Q E, sp vs H Q E → vs.length = (x0 :: ps).length)
    (hb : ∀ (cda : Addr) (A : Around) (outer : List Env) (s : Shared) (H : Hp) (vs : List V) (Q : VK) (E : XK), Room k (A.deeper (envF (supN qual params body scope cc cda) f s.heap.objs.size)) → sp vs H Q E →
      ∃ (a : Addr) (te : TE) (t : L2.TS), vs[0]? = some (.ref a) ∧ H a = some (exo a C none) ∧ PE (ncx CX P w K mg base N (supN qual params body scope cc cda) f A outer s H E) e0 te ∧ PSs (ncx CX P w K mg base N (supN qual params body scope cc cda) f A outer s H E) rest t ∧
        te (startF N vs [some (.ref C)]) H fun v H1 => (∃ x : Str, [v] = [V.str x]) ∧ H1 a = some (exo a C none) ∧ t { nx := fun _ H' => Q .non H', rt := Q } (startF N vs [some (.ref C)]) H1) :
    FnOk P w K mg base CX (k + 1) f fd (x0 :: ps) sp := by
  obtain ⟨oc, od, doc, pm, an, cda, ct, osl, ccl, cdd, vs0, ccs, file, tf, rfl, lk, hcd, hrec, hvs, hfile⟩ := id S.ex
  obtain ⟨cl, cld, csl, hcell⟩ := id S.cell
  refine ⟨len, fun A outer s H args us vs Q E hr e0' hb0 r hsp => ?_⟩
  have hl := len _ _ _ _ hsp
  have KX : K.In s.heap := e0'.mod.kin.keeps fun b o e => (e0'.bs b o e).1
  have lim : s.heap.NoLimit := e0'.mod.nolimit.keeps fun b o e => (e0'.bs b o e).1
  refine ks_codeAny_call_defAt hr.depth (KX _ _ lk) rfl lim (codeRec_of KX hcd) rfl hb0 sc.nocell (fun x hx => sc.par x.1 (List.of_mem_zip hx).1) (fun h₁ hns k1 => ?_) sc.co sc.gen sc.kind
  obtain ⟨a, te, t, ha0, hea, hpe, hps, hq⟩ := hb cda A outer s H vs Q E (hr.deeper _) hsp
  have C1 : CellsAt [("__class__", cc)] ["__class__"] [some (V.ref C)] s.heap H := by
    have h1 := e0'.bs _ _ (e0'.mod.kin _ _ hcell)
    have hl1 : ∀ y c, ([("__class__", cc)] : List (Str × Addr)).lookup y = some c → y = "__class__" ∧ c = cc := fun y c e => by
      have := PySem.mem_of_lookup e
      rw [List.mem_singleton] at this
      cases this
      exact ⟨rfl, rfl⟩
    refine ⟨rfl, fun y c e => ?_, fun x y c e1 e2 => (hl1 x c e1).1.trans (hl1 y c e2).1.symm, fun i y hi => ?_⟩
    · obtain ⟨_, rfl⟩ := hl1 y c e
      exact ⟨h1.2, _, _, h1.1, rfl⟩
    · cases i with
      | zero =>
        cases hi
        refine ⟨cc, rfl, fun v hv => ?_⟩
        cases hv
        exact ⟨.ref C, rfl, _, h1.1, rfl⟩
      | succ i => cases hi
  have I : L2.Inv (ncx CX P w K mg base N (supN qual params body scope cc cda) f A outer s H E) [] (startF N vs [some (.ref C)]) H { s with heap := h₁, toks := s.toks + ((x0 :: ps).zip us).length } := inv_startN sc hr.hd e0' hl r C1 hns k1
  show _root_.PySem.wpAt (model P w) (A.deeper (envF (supN qual params body scope cc cda) f s.heap.objs.size)) (.func body (envF (supN qual params body scope cc cda) f s.heap.objs.size)) (execs body (envF (supN qual params body scope cc cda) f s.heap.objs.size)) _ _ _
  have run := sup_call (X := ncx CX P w K mg base N (supN qual params body scope cc cda) f A outer s H E) (Q := fun _ H1 => t { nx := fun _ H' => Q .non H', rt := Q } (startF N vs [some (.ref C)]) H1) S T (fun cda' e => by cases e; rfl) I (by
      have := congrArg (fun l => l[0]?) sc.pre
      rw [List.getElem?_take_of_lt (by show 0 < _ + _; rw [List.length_cons]; omega)] at this
      exact this) (by
      unfold startF
      rw [List.getElem?_append_left (by rw [List.length_map, hl, List.length_cons]; omega), List.getElem?_map, ha0]
      rfl) hea hpe hq (hc _) (hst _)
  subst hbd
  refine ks_wpAt_execs_cons (ks_wpAt_Expr_any (ks_wpAt_mono run (fun v s1 hv => ?_) fun e s' z => z) I.quiet (hsw _))
  obtain ⟨v', H1, I1, _, ht⟩ := hv
  refine wpAt_of_wpAny (wpAny_mono (hps.run [] s1 _ H1 _ I1 ht) (fun fl s' hs => ?_) fun e s' hs => hs)
  have fin : ∀ {σ' : L2.St} {H' : Hp} {v : V} {u : Value}, L2.Inv (ncx CX P w K mg base N (supN qual params (.Expr (.Call (.Attribute (.Call (.Name "super" p0) [] [] p1) "__init__" p2) [e0] [] p3) p4 :: rest) scope cc cda) f A outer s H E) [] σ' H' s' → L2.RelV v u → Q v H' → CE outer P w H s Q u s' := fun {σ' H' v u} J rv q => ⟨v, H', J.os, J.bare, J.base, J.hok, rv, q⟩
  cases fl with
  | ret u =>
    obtain ⟨v, σ', H', J, rv, q⟩ := hs
    exact fin J rv q
  | next =>
    obtain ⟨σ', H', J, q⟩ := hs
    exact fin (v := V.non) (u := Value.none) J rfl q
  | brk => obtain ⟨_, _, _, q⟩ := hs; exact q.elim
  | cont => obtain ⟨_, _, _, q⟩ := hs; exact q.elim
end
/-! ### such a class with one field -/
structure OwnX (P : Program) (K : PySem.W.Frag) (mg : Str → Option Value) (st : Stmt) (qual pn fld : Str) (C f cc : Addr) (fd : FuncData) : Prop where
  S : SupF P K mg (defArgs st) qual (defScope st) (defBody st) "self" f C cc fd
  T : OexC K C
  iC : findIn K (.ref C) "__init__" = some (some (.ref f))
  tI : typeIn K (.ref f) = some (.type "function")
  b : Binds K fd ["self", pn] []
  no : findIn K (.ref C) fld = some none
  X : XfC K C
/-- its __init__(self, n) -/
def sp_xinit (C : Addr) (fld : Str) : Sp := fun vs H Q _ => ∃ (a : Addr) (n : Int), vs = [.ref a, .int n] ∧ n.natAbs < 2 ^ 1900 ∧ (Str.ofString (toString n)).length ≤ 1000 ∧ H a = some (exo a C none) ∧ ∀ dx, H dx = none → dx ≠ a → Q .non (upd (upd H dx (exd dx [(fld, .int n)])) a (exo a C (some dx)))
/-- .. its text and its store -/
theorem xinit_go {K : PySem.W.Frag} {C a : Addr} {fld t0 : Str} {n : Int} {H : Hp} {Q : VK} {v2 : Option V} (T : OexC K C) (no : findIn K (.ref C) fld = some none) (h0 : Str.empty.length + t0.length ≤ 50000) (h : n.natAbs < 2 ^ 1900) (h2 : (Str.ofString (toString n)).length ≤ 1000) (ha : H a = some (exo a C none))
    (q : ∀ dx, H dx = none → dx ≠ a → Q .non (upd (upd H dx (exd dx [(fld, .int n)])) a (exo a C (some dx)))) :
    tJs [tC (V.str t0), tFmt (tVar 1)] Str.empty [some (.ref a), some (.int n), v2] H fun out H1 => (∃ x : Str, [V.str out] = [V.str x]) ∧ H1 a = some (exo a C none) ∧ tOst K fld (tVar 0) (tVar 1) { nx := fun _ H' => Q .non H', rt := Q } [some (.ref a), some (.int n), v2] H1 := by
  rw [e_jo, e_c]
  refine JoK.of (acc := Str.empty) (y := t0) (Nat.le_trans h0 (by decide)) ?_
  rw [e_jo, e_fmt]
  refine ⟨.int n, rfl, FmtK.int h (JoK.of (by have e1 : (Str.empty ++ t0).length = Str.empty.length + t0.length := strLen_append _ _; have e2 : (Str.ofString (toString n)).length ≤ 1000 := h2; clear h; show (Str.empty ++ t0).length + (Str.ofString (toString n)).length ≤ _; omega) ?_)⟩
  rw [e_jo0]
  exact ⟨⟨_, rfl⟩, ha, _, rfl, _, rfl, a, C, rfl, T, no, .inl ⟨ha, q⟩⟩
/-- C(n), as it is raised -/
def MkXK (C : Addr) (fld : Str) (v : V) (H : Hp) (Q : XK) : Prop := [v].length ≤ 1000 ∧ ∀ a, H a = none → sp_xinit C fld (.ref a :: ([v] ++ [])) (upd H a (exo a C none)) (fun v H2 => v = .non ∧ ∃ (d : Addr) (fs : List (Str × V)), H2 a = some (exo a C (some d)) ∧ H2 d = some (exd d fs) ∧ H d = none ∧ Q (.ref C) (some d) (upd (del H2 a) d (.xd fs))) fun _ _ _ => False
theorem e_mkX {C : Addr} {fld : Str} {te : TE} {σ : L2.St} {H : Hp} {Q : XK} : tMkO C (sp_xinit C fld) [] (tCons te tNil) σ H Q = te σ H fun v H1 => MkXK C fld v H1 Q := propext ⟨fun h => h, fun h => h⟩
theorem MkXK.of {C : Addr} {fld : Str} {n : Int} {H : Hp} {Q : XK} (h : n.natAbs < 2 ^ 1900) (h2 : (Str.ofString (toString n)).length ≤ 1000) (q : ∀ d, H d = none → Q (.ref C) (some d) (upd H d (.xd [(fld, .int n)]))) : MkXK C fld (.int n) H Q := by
  refine ⟨by show 1 ≤ 1000; decide, fun a ha => ⟨a, n, rfl, h, h2, upd_same, fun dx hdx hne => ⟨rfl, dx, [(fld, .int n)], upd_same, ?_, ?_, ?_⟩⟩⟩
  · rw [upd_ne hne, upd_same]
  · rwa [upd_ne hne] at hdx
  · have hdx2 : H dx = none := by rwa [upd_ne hne] at hdx
    have e : upd (del (upd (upd (upd H a (exo a C none)) dx (exd dx [(fld, .int n)])) a (exo a C (some dx))) a) dx (.xd [(fld, .int n)]) = upd H dx (.xd [(fld, .int n)]) := by
      funext b
      by_cases hb : b = dx
      · subst hb
        rw [upd_same, upd_same]
      · rw [upd_ne hb, upd_ne hb]
        by_cases hb2 : b = a
        · subst hb2
          rw [del_same, ha]
        · rw [del_ne hb2, upd_ne hb2, upd_ne hb, upd_ne hb2]
    rw [e]
    exact q dx hdx2
/-- the field of the caught one -/
def XfK (a : Addr) (cls : Value) (d : Option Addr) (C : Addr) (f : Str) (x : V) (H : Hp) (G : V → Prop) : Prop := x = .ref a ∧ cls = .ref C ∧ ∃ (dd : Addr) (fs : List (Str × V)) (v : V), d = some dd ∧ H dd = some (.xd fs) ∧ fs.lookup f = some v ∧ G v
theorem e_xf {a C : Addr} {cls : Value} {d : Option Addr} {f : Str} {te : TE} {σ : L2.St} {H : Hp} {Q : VK} : tXf a cls d C f te σ H Q = te σ H fun x H1 => XfK a cls d C f x H1 fun v => Q v H1 := propext ⟨fun h => h, fun h => h⟩
theorem XfK.of {a dd C : Addr} {f : Str} {H : Hp} {v : V} {G : V → Prop} (h : H dd = some (.xd [(f, v)])) (g : G v) : XfK a (.ref C) (some dd) C f (.ref a) H G := ⟨rfl, rfl, dd, _, v, rfl, h, by simp [List.lookup], g⟩
/-! ### what the head finds -/
def oexB (C : Addr) (cd : ClassData) (sl : Array (Option Value)) : Bool := match cd.mro, sl.toList with
  | .ref C' :: bm, [_, _, _, _, some (.builtin n), _] => C' == C && n == "ValueError.__new__" && !cd.hasDel && PySem.HandSPX.refsVE bm && cd.hasDict
  | _, _ => false
theorem OexC.of {K : PySem.W.Frag} {C : Addr} {dd : Option Addr} {cd : ClassData} {sl : Array (Option Value)} (h : K.lookup C = some ⟨.type "type", dd, .cls cd, sl⟩) (b : oexB C cd sl = true) (sa : findIn K (.ref C) "__setattr__" = some (some (.builtin "object.__setattr__"))) (exC : subIn K (.ref C) (.type "BaseException") = some true)
    (tyC : typeIn K (.ref C) = some (.type "type")) (kC : keepIn K (.ref C) = true) : OexC K C := by
  refine ⟨?_, sa, exC, tyC, kC⟩
  unfold oexB at b
  split at b
  · rename_i C' bm k0 k1 k2 k3 n k5 hm hs
    simp only [Bool.and_eq_true, beq_iff_eq, Bool.not_eq_true'] at b
    obtain ⟨⟨⟨⟨rfl, rfl⟩, hdel⟩, hv⟩, hd⟩ := b
    obtain ⟨nm, bs, mro, ns, qn, hdd, sn, sub, ab, col, del⟩ := cd
    dsimp only at hm hdel hd
    subst hm hdel hd
    obtain ⟨l⟩ := sl
    dsimp only at hs
    subst hs
    exact ⟨_, _, _, _, bm, _, _, _, _, _, k0, k1, k2, k3, k5, h, hv⟩
  · cases b
theorem OwnX.of {P : Program} {K : PySem.W.Frag} {mg : Str → Option Value} {st : Stmt} {qual pn fld : Str} {C f cc cda : Addr} {dd od cdd cld an : Option Addr} {cd : ClassData} {sl osl ccs csl : Array (Option Value)} {oc doc pm ct ccl cl : Value} {vs : Array Value} {file : Str} {tf : Tok}
    (hC : K.lookup C = some ⟨.type "type", dd, .cls cd, sl⟩) (b : oexB C cd sl = true) (sa : findIn K (.ref C) "__setattr__" = some (some (.builtin "object.__setattr__"))) (exC : subIn K (.ref C) (.type "BaseException") = some true) (tyC : typeIn K (.ref C) = some (.type "type")) (kC : keepIn K (.ref C) = true)
    (lk : K.lookup f = some ⟨oc, od, .func (fnX "__init__" qual (defArgs st) (defBody st) (defScope st) [("__class__", cc)] .none .none doc pm an (.ref cda) ct), osl⟩) (hcd : codeIn K (.ref cda) qual = true) (hrec : K.lookup cda = some ⟨ccl, cdd, .fields vs, ccs⟩) (hvs : vs[2]? = some (.str file tf)) (hfile : ((P.main.file : Str) == file) = true)
    (hcell : K.lookup cc = some ⟨cl, cld, .cell (some (.ref C)), csl⟩) (head : ∃ ar : Arg, ((defArgs st).posonlyargs ++ (defArgs st).args).head? = some ar ∧ ar.arg = "self") (top : (P.main.scope.names.lookup ("super" : Str)).isSome = false) (mgs : mg "super" = none) (stat : nsIn K cStatics "thirdparty.any" = some none)
    (init : ks_superIn K C C "__init__" = some (some (.builtin "ValueError.__init__"))) (sub : mroIn K C (.ref C) = some true) (isV : subIn K (.ref C) (.type "ValueError") = some true) (ks : (defScope st).names.lookup ("super" : Str) = some .globalImplicit) (kc : (defScope st).names.lookup ("__class__" : Str) = some .free) (ka : (defScope st).names.lookup ("self" : Str) = some .local)
    (iC : findIn K (.ref C) "__init__" = some (some (.ref f))) (tI : typeIn K (.ref f) = some (.type "function")) (bb : Binds K (fnX "__init__" qual (defArgs st) (defBody st) (defScope st) [("__class__", cc)] .none .none doc pm an (.ref cda) ct) ["self", pn] []) (no : findIn K (.ref C) fld = some none)
    (ga : findIn K (.ref C) "__getattribute__" = some (some (.builtin "BaseException.__getattribute__"))) (gg : findIn K (.ref C) "__getattr__" = some none) (hdC : hasDictIn K C = true) :
    OwnX P K mg st qual pn fld C f cc (fnX "__init__" qual (defArgs st) (defBody st) (defScope st) [("__class__", cc)] .none .none doc pm an (.ref cda) ct) where
  S := ⟨⟨oc, od, doc, pm, an, cda, ct, osl, ccl, cdd, vs, ccs, file, tf, rfl, lk, hcd, hrec, hvs, hfile⟩, ⟨cl, cld, csl, hcell⟩, head, ⟨cd, by unfold clsIn; rw [hC]⟩, top, mgs, stat, init, sub, isV, ks, kc, ka⟩
  T := OexC.of hC b sa exC tyC kC
  iC := iC
  tI := tI
  b := bb
  no := no
  X := ⟨ga, gg, exC, hdC⟩
/-! ### d.pop(k) -/
def DPop1K (H : Hp) (a : Addr) (y : V) (Q : V → Hp → Prop) : Prop := ∃ kvs k v, H a = some (.dK kvs) ∧ y = kV k ∧ valV kvs k = some v ∧ Q v (upd H a (.dK (dropK kvs k)))
theorem e_dpop1 {td ty : TE} {σ : L2.St} {H : Hp} {Q : VK} : tDPop1 td ty σ H Q = td σ H fun x H1 => ∃ a, x = .ref a ∧ IsD H1 a ∧ ty σ H1 fun y H2 => DPop1K H2 a y Q := propext ⟨fun h => h, fun h => h⟩
end Vg


set_option Elab.async false
set_option linter.all false
set_option maxRecDepth 100000
set_option maxHeartbeats 4000000
namespace My
open PySem PySem.Spec PyProof.Rows L2 Vg
theorem cp_10_15 : CPow 10 15 ↔ True := iff_true_intro ⟨by decide, by decide, by decide⟩
theorem cp_10_30 : CPow 10 30 ↔ True := iff_true_intro ⟨by decide, by decide, by decide⟩
theorem sz_2 : 2 ≤ sizeLine ↔ True := iff_true_intro (by decide)
theorem sz_0 : 0 ≤ sizeLine ↔ True := iff_true_intro (by decide)
theorem sz_1 : 1 ≤ sizeLine ↔ True := iff_true_intro (by decide)
theorem sz_3 : 3 ≤ sizeLine ↔ True := iff_true_intro (by decide)
theorem sz_4 : 4 ≤ sizeLine ↔ True := iff_true_intro (by decide)
theorem cp_10_41 : CPow 10 41 ↔ True := iff_true_intro ⟨by decide, by decide, by decide⟩
theorem cp_10_40 : CPow 10 40 ↔ True := iff_true_intro ⟨by decide, by decide, by decide⟩
theorem cp_10_18 : CPow 10 18 ↔ True := iff_true_intro ⟨by decide, by decide, by decide⟩
theorem cp_10_39 : CPow 10 39 ↔ True := iff_true_intro ⟨by decide, by decide, by decide⟩
end My

open PySem PySem.Spec PyProof.Rows L2 Vg
set_option hygiene false in
local macro_rules | `(tactic| walk_at "vc") => `(tactic| try simp only [k_cx, k_cx2, x_isI_list, x_isI_str, x_isI_dict, x_isI_tuple, x_isB_list, x_isB_str, x_isB_dict, x_isB_tuple, x_isN_list, x_isN_str, x_isN_dict, x_isN_tuple, x_isS_list, x_isS_dict, x_isS_tuple, x_reprQ, x_cnt, e_revL, x_tupL, e_dn, e_d1, x_dctP, x_strI, x_intB, e_din, e_dnin, x_sortedP, Option.isSome_none, Option.isSome_some, e_dget, e_dget2, s_dput, e_dnT, i_zip, e_disp, tp_nil, tp_cons, x_joinS, x_splitS, x_asciiS, x_digitS, x_intS, x_lenS, x_mulS, x_ixS, ty_S, x_listOf, e_call, e_meth, e_methR, e_make, e_prop, x_lenO, s_par3, e_icon, e_cval, e_fmt, e_jo, e_jo0, g_unl, e_cmeth, e_makeV, x_isX, x_isXT, x_oeq, x_one, x_isW, x_intI, x_lenD, x_mkset, x_srtS, k_cxw, e_d1T, i_itemsN, i_keysN, i_zipTL, i_enumT, x_eqE, x_isB, x_notB, x_lstD, x_sumN, e_callL, x_catA, x_slA, x_inKd, x_ixKd, x_partS, e_repl, i_rev, e_listEnum, x_repT, e_dpop2, x_sortU, x_notInD, e_mkX, e_xf, e_dpop1, My.cp_10_15, My.cp_10_30, My.sz_2, My.sz_0, My.sz_1, My.sz_3, My.sz_4, My.cp_10_41, My.cp_10_40, My.cp_10_18, My.cp_10_39, List.lookup, putF, beq_self_eq_true, e_var, e_c, e_op, e_un, e_if, e_andV, e_orV, e_notV, e_lst, e_tup, e_CB, e_BM, e_BM0, e_G, e_chain, e_sl, e_part, e_nopart, a_nil, a_cons, t_B, t_test, t_and, t_or, t_not, t_yes,
  s_seq, s_next, s_break, s_cont, s_drop, s_ret, s_retN, s_ifS, s_asg, s_aug, s_par, Int.zero_add, g_name, g_tup, g_nil, g_cons, g_sub, i_list, i_tup, i_rng1, i_rng2, i_enum, s_for, e_lc, x_I, x_I0, x_U, x_eq, x_ne, x_ixL, x_ixT, x_setL, x_app, x_ext, x_cat, x_slL, x_in, x_repr, e_fld, s_fld, e_MG, e_KG, x_rpt, x_rem, x_min, e_lrg1, e_rg1, x_rev, s_augS, x_ip, i_rng3, x_isR, x_is_int, x_is_bool, x_is_bi, x_is_bb, x_is_ib, x_is_nb, x_is_ni, x_is_sb, x_is_si, x_len, x_mx, x_mn,
  wipe, sc_ii, sc_ss, sc_bb, sc_nn, sc_ns, sc_sn, sc_ni, sc_in, List.set_cons_zero, List.set_cons_succ, List.getElem?_cons_zero, List.getElem?_cons_succ, Option.some.injEq, exists_eq_left', exists_eq_left, exists_and_left, exists_and_right, V.int.injEq, V.bl.injEq, V.ref.injEq, V.str.injEq, List.cons.injEq, and_true, true_and, decide_eq_true_eq, List.append_nil, reduceCtorEq, and_assoc,
  L2.start, List.map_cons, List.map_nil, List.length_cons, List.length_nil, List.replicate, List.cons_append, List.nil_append, Nat.reduceAdd, Nat.reduceSub, Nat.zero_add, ipI, decide_true, decide_false, if_true, if_false, Bool.not_true, Bool.not_false, Bool.false_eq_true, Int.reduceToNat, Int.reducePow, Int.reduceAdd, Int.reduceSub, Int.reduceMul, Int.reduceNeg, List.length_map])
set_option hygiene false in
local macro_rules | `(tactic| walk_at "v1") => `(tactic| try simp only [k_cx, k_cx2, x_isI_list, x_isI_str, x_isI_dict, x_isI_tuple, x_isB_list, x_isB_str, x_isB_dict, x_isB_tuple, x_isN_list, x_isN_str, x_isN_dict, x_isN_tuple, x_isS_list, x_isS_dict, x_isS_tuple, x_reprQ, x_cnt, e_revL, x_tupL, e_dn, e_d1, x_dctP, x_strI, x_intB, e_din, e_dnin, x_sortedP, Option.isSome_none, Option.isSome_some, e_dget, e_dget2, s_dput, e_dnT, i_zip, e_disp, tp_nil, tp_cons, x_joinS, x_splitS, x_asciiS, x_digitS, x_intS, x_lenS, x_mulS, x_ixS, ty_S, x_listOf, e_call, e_meth, e_methR, e_make, e_prop, x_lenO, s_par3, e_icon, e_cval, e_fmt, e_jo, e_jo0, g_unl, e_cmeth, e_makeV, x_isX, x_isXT, x_oeq, x_one, x_isW, x_intI, x_lenD, x_mkset, x_srtS, k_cxw, e_d1T, i_itemsN, i_keysN, i_zipTL, i_enumT, x_eqE, x_isB, x_notB, x_lstD, x_sumN, e_callL, x_catA, x_slA, x_inKd, x_ixKd, x_partS, e_repl, i_rev, e_listEnum, x_repT, e_dpop2, x_sortU, x_notInD, e_mkX, e_xf, e_dpop1, My.cp_10_15, My.cp_10_30, My.sz_2, My.sz_0, My.sz_1, My.sz_3, My.sz_4, My.cp_10_41, My.cp_10_40, My.cp_10_18, My.cp_10_39, List.lookup, putF, beq_self_eq_true, e_var, e_c, e_op, e_un, e_if, e_andV, e_orV, e_notV, e_lst, e_tup, e_CB, e_BM, e_BM0, e_G, e_chain, e_sl, e_part, e_nopart, a_nil, a_cons, t_B, t_test, t_and, t_or, t_not, t_yes,
  s_next, s_break, s_cont, s_drop, s_ret, s_retN, s_ifS, s_asg, s_aug, s_par, Int.zero_add, g_name, g_tup, g_nil, g_cons, g_sub, i_list, i_tup, i_rng1, i_rng2, i_enum, s_for, e_lc, x_I, x_I0, x_U, x_eq, x_ne, x_ixL, x_ixT, x_setL, x_app, x_ext, x_cat, x_slL, x_in, x_repr, e_fld, s_fld, e_MG, e_KG, x_rpt, x_rem, x_min, e_lrg1, e_rg1, x_rev, s_augS, x_ip, i_rng3, x_isR, x_is_int, x_is_bool, x_is_bi, x_is_bb, x_is_ib, x_is_nb, x_is_ni, x_is_sb, x_is_si, x_len, x_mx, x_mn,
  wipe, sc_ii, sc_ss, sc_bb, sc_nn, sc_ns, sc_sn, sc_ni, sc_in, List.set_cons_zero, List.set_cons_succ, List.getElem?_cons_zero, List.getElem?_cons_succ, Option.some.injEq, exists_eq_left', exists_eq_left, exists_and_left, exists_and_right, V.int.injEq, V.bl.injEq, V.ref.injEq, V.str.injEq, List.cons.injEq, and_true, true_and, decide_eq_true_eq, List.append_nil, reduceCtorEq, and_assoc,
  L2.start, List.map_cons, List.map_nil, List.length_cons, List.length_nil, List.replicate, List.cons_append, List.nil_append, Nat.reduceAdd, Nat.reduceSub, Nat.zero_add, ipI, decide_true, decide_false, if_true, if_false, Bool.not_true, Bool.not_false, Bool.false_eq_true, Int.reduceToNat, Int.reducePow, Int.reduceAdd, Int.reduceSub, Int.reduceMul, Int.reduceNeg, List.length_map])
local macro_rules | `(tactic| walk_at "sd") => `(tactic| first | assumption | omega | decide | exact ⟨by decide, by decide, by decide⟩ | exact ⟨by decide, by decide⟩ | (unfold CMul; omega) | (unfold CDiv; omega) | (show (_ : Nat) ≤ sizeLine; decide) | rfl)
local macro_rules | `(tactic| walk_at "mem") => `(tactic| (repeat (first | exact List.Mem.head _ | apply List.Mem.tail)))
local macro_rules | `(tactic| walk_at "put") => `(tactic| (repeat (first | exact Put.hd | apply Put.tl)))
local macro_rules | `(tactic| walk_at "pick") => `(tactic| (repeat (first | exact Pick.hd | apply Pick.tl)))
local macro_rules | `(tactic| walk_at "sel") => `(tactic| first | exact Sel.all | exact Sel.nil | (refine Sel.cons (by walk_at "pick") ?_; walk_at "sel") | (refine Sel.skip ?_; walk_at "sel"))
local macro_rules | `(tactic| walk_at "ifs") => `(tactic| repeat (first | rw [if_pos (by omega)] | rw [if_neg (by omega)]))
local macro_rules | `(tactic| walk_at "v2") => `(tactic| ((try dsimp only); rw [s_seq]; walk_at "v1"))
local macro_rules | `(tactic| walk_at "sds") => `(tactic| repeat (with_reducible refine And.intro (by walk_at "sd") ?_))
local macro_rules | `(tactic| walk_at "fs") => `(tactic| first | rfl | simp only [putF, List.lookup, beq_self_eq_true, if_true, if_false, reduceIte, ])
namespace My
open PySem PySem.Spec PyProof.Rows L2 Vg
def topS (i : Nat) : Stmt := PySem.Challenge.pw_splitnames_k20_routings_returned.main.body.getD i (.Pass ⟨0, 0, 0, 0⟩)
abbrev s_is_integer : Stmt := topS 9
theorem sc_is_integer : FnScope ["value"] ["value"] (defScope s_is_integer) := ⟨rfl, rfl, rfl, by decide +kernel, rfl, by decide +kernel, by decide +kernel⟩
abbrev s_is_integer_list : Stmt := topS 11
theorem sc_is_integer_list : FnScope ["value", "item"] ["value"] (defScope s_is_integer_list) := ⟨rfl, rfl, rfl, by decide +kernel, rfl, by decide +kernel, by decide +kernel⟩
abbrev s_is_name_list : Stmt := topS 12
theorem sc_is_name_list : FnScope ["value", "last", "name"] ["value"] (defScope s_is_name_list) := ⟨rfl, rfl, rfl, by decide +kernel, rfl, by decide +kernel, by decide +kernel⟩
abbrev s_check_names : Stmt := topS 13
theorem sc_check_names : FnScope ["names"] ["names"] (defScope s_check_names) := ⟨rfl, rfl, rfl, by decide +kernel, rfl, by decide +kernel, by decide +kernel⟩
abbrev s_ways_on : Stmt := topS 23
theorem sc_ways_on : FnScope ["entered", "listed", "right"] ["entered", "listed"] (defScope s_ways_on) := ⟨rfl, rfl, rfl, by decide +kernel, rfl, by decide +kernel, by decide +kernel⟩
abbrev s_row_with_cell : Stmt := topS 24
theorem sc_row_with_cell : FnScope ["later", "right", "down"] ["later", "right", "down"] (defScope s_row_with_cell) := ⟨rfl, rfl, rfl, by decide +kernel, rfl, by decide +kernel, by decide +kernel⟩
abbrev s_ways_from : Stmt := topS 27
theorem sc_ways_from : FnScope ["row", "listed", "ways", "found", "entered", "is_listed", "longer", "later", "way", "right", "down"] ["row", "listed", "ways"] (defScope s_ways_from) := ⟨rfl, rfl, rfl, by decide +kernel, rfl, by decide +kernel, by decide +kernel⟩
abbrev s_stage_after : Stmt := topS 26
theorem sc_stage_after : FnScope ["rows", "listed", "ways", "stage", "row", "later", "way"] ["rows", "listed", "ways"] (defScope s_stage_after) := ⟨rfl, rfl, rfl, by decide +kernel, rfl, by decide +kernel, by decide +kernel⟩
abbrev s_is_integer_within : Stmt := topS 10
theorem sc_is_integer_within : FnScope ["value", "least", "greatest"] ["value", "least", "greatest"] (defScope s_is_integer_within) := ⟨rfl, rfl, rfl, by decide +kernel, rfl, by decide +kernel, by decide +kernel⟩
abbrev s_check_coordinate : Stmt := topS 19
theorem sc_check_coordinate : FnScope ["value"] ["value"] (defScope s_check_coordinate) := ⟨rfl, rfl, rfl, by decide +kernel, rfl, by decide +kernel, by decide +kernel⟩
abbrev s_cells_before : Stmt := topS 20
theorem sc_cells_before : FnScope ["diagonal"] ["diagonal"] (defScope s_cells_before) := ⟨rfl, rfl, rfl, by decide +kernel, rfl, by decide +kernel, by decide +kernel⟩
abbrev s_name_of : Stmt := topS 17
theorem sc_name_of : FnScope ["right", "down"] ["right", "down"] (defScope s_name_of) := ⟨rfl, rfl, rfl, by decide +kernel, rfl, by decide +kernel, by decide +kernel⟩
abbrev s_stages_of : Stmt := topS 25
theorem sc_stages_of : FnScope ["count", "names", "ways", "stages", "rows", "diagonal", "listed", "right"] ["count", "names", "ways"] (defScope s_stages_of) := ⟨rfl, rfl, rfl, by decide +kernel, rfl, by decide +kernel, by decide +kernel⟩
abbrev s_stages_of_p : Stmt := topS 31
theorem sc_stages_of_p : FnScope ["names"] ["names"] (defScope s_stages_of_p) := ⟨rfl, rfl, rfl, by decide +kernel, rfl, by decide +kernel, by decide +kernel⟩
abbrev s_stuck_in : Stmt := topS 32
theorem sc_stuck_in : FnScope ["stages"] ["stages"] (defScope s_stuck_in) := ⟨rfl, rfl, rfl, by decide +kernel, rfl, by decide +kernel, by decide +kernel⟩
abbrev s_routing_in : Stmt := topS 33
theorem sc_routing_in : FnScope ["stages", "routing", "row", "diagonal", "stage", "way", "at", "entered", "right", "down"] ["stages"] (defScope s_routing_in) := ⟨rfl, rfl, rfl, by decide +kernel, rfl, by decide +kernel, by decide +kernel⟩
abbrev s_routing_for : Stmt := topS 29
theorem sc_routing_for : FnScope ["names", "stages", "diagonal"] ["names"] (defScope s_routing_for) := ⟨rfl, rfl, rfl, by decide +kernel, rfl, by decide +kernel, by decide +kernel⟩
abbrev s_diagonal_of : Stmt := topS 21
theorem sc_diagonal_of : FnScope ["name"] ["name"] (defScope s_diagonal_of) := ⟨rfl, rfl, rfl, by decide +kernel, rfl, by decide +kernel, by decide +kernel⟩
abbrev s_cell_of : Stmt := topS 18
theorem sc_cell_of : FnScope ["name", "diagonal", "right"] ["name"] (defScope s_cell_of) := ⟨rfl, rfl, rfl, by decide +kernel, rfl, by decide +kernel, by decide +kernel⟩
abbrev s_send : Stmt := topS 36
theorem sc_send : FnScope ["coming", "name", "many"] ["coming", "name", "many"] (defScope s_send) := ⟨rfl, rfl, rfl, by decide +kernel, rfl, by decide +kernel, by decide +kernel⟩
abbrev s_send_on : Stmt := topS 35
theorem sc_send_on : FnScope ["coming", "name", "right", "down", "at_right", "at_down"] ["coming", "name", "right", "down"] (defScope s_send_on) := ⟨rfl, rfl, rfl, by decide +kernel, rfl, by decide +kernel, by decide +kernel⟩
abbrev s_is_routing_item : Stmt := topS 34
theorem sc_is_routing_item : FnScope ["value", "item"] ["value"] (defScope s_is_routing_item) := ⟨rfl, rfl, rfl, by decide +kernel, rfl, by decide +kernel, by decide +kernel⟩
abbrev s_is_routing : Stmt := topS 30
theorem sc_is_routing : FnScope ["names", "value", "coming", "last", "item", "entered", "right", "down"] ["names", "value"] (defScope s_is_routing) := ⟨rfl, rfl, rfl, by decide +kernel, rfl, by decide +kernel, by decide +kernel⟩
abbrev s_law_pot : Stmt := topS 38
theorem sc_law_pot : FnScope ["script", "k", "cell"] ["script", "k"] (defScope s_law_pot) := ⟨rfl, rfl, rfl, by decide +kernel, rfl, by decide +kernel, by decide +kernel⟩
abbrev s_law_take : Stmt := topS 39
theorem sc_law_take : FnScope ["pot", "many", "found", "mixed"] ["pot", "many"] (defScope s_law_take) := ⟨rfl, rfl, rfl, by decide +kernel, rfl, by decide +kernel, by decide +kernel⟩
abbrev s_law_drawn : Stmt := topS 41
theorem sc_law_drawn : FnScope ["pot", "count", "state", "found", "first", "later", "at", "entered", "stop", "right"] ["pot", "count"] (defScope s_law_drawn) := ⟨rfl, rfl, rfl, by decide +kernel, rfl, by decide +kernel, by decide +kernel⟩
abbrev s_law_some : Stmt := topS 40
theorem sc_law_some : FnScope ["pot", "things", "many", "left", "k"] ["pot", "things", "many"] (defScope s_law_some) := ⟨rfl, rfl, rfl, by decide +kernel, rfl, by decide +kernel, by decide +kernel⟩
abbrev s_law_list : Stmt := topS 42
theorem sc_law_list : FnScope ["pot", "count", "found", "way", "at"] ["pot", "count"] (defScope s_law_list) := ⟨rfl, rfl, rfl, by decide +kernel, rfl, by decide +kernel, by decide +kernel⟩
abbrev s_law_sends : Stmt := topS 43
theorem sc_law_sends : FnScope ["entered", "is_listed", "right"] ["entered", "is_listed"] (defScope s_law_sends) := ⟨rfl, rfl, rfl, by decide +kernel, rfl, by decide +kernel, by decide +kernel⟩
abbrev s_law_next : Stmt := topS 44
theorem sc_law_next : FnScope ["state", "names", "diagonal", "first", "found", "at", "entered", "longer", "part", "right", "down"] ["state", "names", "diagonal"] (defScope s_law_next) := ⟨rfl, rfl, rfl, by decide +kernel, rfl, by decide +kernel, by decide +kernel⟩
abbrev s_law_stuck : Stmt := topS 45
theorem sc_law_stuck : FnScope ["names", "states", "diagonal", "later", "state", "other"] ["names"] (defScope s_law_stuck) := ⟨rfl, rfl, rfl, by decide +kernel, rfl, by decide +kernel, by decide +kernel⟩
abbrev s_law_told : Stmt := topS 47
theorem sc_law_told : FnScope ["names", "e"] ["names"] (defScope s_law_told) := ⟨rfl, rfl, rfl, by decide +kernel, rfl, by decide +kernel, by decide +kernel⟩
abbrev s_law_is_routing : Stmt := topS 46
theorem sc_law_is_routing : FnScope ["names", "value", "coming", "seen", "row", "name", "entered", "right", "down", "diagonal", "later", "number"] ["names", "value"] (defScope s_law_is_routing) := ⟨rfl, rfl, rfl, by decide +kernel, rfl, by decide +kernel, by decide +kernel⟩
abbrev s_law : Stmt := topS 48
theorem sc_law : FnScope ["script", "k", "pot", "turn", "names", "first", "kept", "due", "told"] ["script"] (defScope s_law) := ⟨rfl, rfl, rfl, by decide +kernel, rfl, by decide +kernel, by decide +kernel⟩
abbrev s_x_Impossible : Stmt := inClass (topS 6) 0
/-- where the top has laid what the text names -/
structure Ad where
  a_is_integer : Addr
  fd_is_integer : FuncData
  a_is_integer_list : Addr
  fd_is_integer_list : FuncData
  a_is_name_list : Addr
  fd_is_name_list : FuncData
  a_check_names : Addr
  fd_check_names : FuncData
  a_ways_on : Addr
  fd_ways_on : FuncData
  a_row_with_cell : Addr
  fd_row_with_cell : FuncData
  a_ways_from : Addr
  fd_ways_from : FuncData
  a_stage_after : Addr
  fd_stage_after : FuncData
  a_is_integer_within : Addr
  fd_is_integer_within : FuncData
  a_check_coordinate : Addr
  fd_check_coordinate : FuncData
  a_cells_before : Addr
  fd_cells_before : FuncData
  a_name_of : Addr
  fd_name_of : FuncData
  a_stages_of : Addr
  fd_stages_of : FuncData
  a_stages_of_p : Addr
  fd_stages_of_p : FuncData
  a_stuck_in : Addr
  fd_stuck_in : FuncData
  a_routing_in : Addr
  fd_routing_in : FuncData
  a_routing_for : Addr
  fd_routing_for : FuncData
  a_diagonal_of : Addr
  fd_diagonal_of : FuncData
  a_cell_of : Addr
  fd_cell_of : FuncData
  a_send : Addr
  fd_send : FuncData
  a_send_on : Addr
  fd_send_on : FuncData
  a_is_routing_item : Addr
  fd_is_routing_item : FuncData
  a_is_routing : Addr
  fd_is_routing : FuncData
  a_law_pot : Addr
  fd_law_pot : FuncData
  a_law_take : Addr
  fd_law_take : FuncData
  a_law_drawn : Addr
  fd_law_drawn : FuncData
  a_law_some : Addr
  fd_law_some : FuncData
  a_law_list : Addr
  fd_law_list : FuncData
  a_law_sends : Addr
  fd_law_sends : FuncData
  a_law_next : Addr
  fd_law_next : FuncData
  a_law_stuck : Addr
  fd_law_stuck : FuncData
  a_law_told : Addr
  fd_law_told : FuncData
  a_law_is_routing : Addr
  fd_law_is_routing : FuncData
  a_law : Addr
  fd_law : FuncData
  c_Impossible : Addr
  xf_Impossible : Addr
  xd_Impossible : FuncData
  xc_Impossible : Addr
structure Mo (P : Program) (K : PySem.W.Frag) (mg : Str → Option Value) (d : Ad) : Prop where
  F_is_integer : Fun K "is_integer" "is_integer" s_is_integer d.a_is_integer d.fd_is_integer
  b_is_integer : Binds K d.fd_is_integer ["value"] []
  g_is_integer : mg "is_integer" = some (.ref d.a_is_integer)
  F_is_integer_list : Fun K "is_integer_list" "is_integer_list" s_is_integer_list d.a_is_integer_list d.fd_is_integer_list
  b_is_integer_list : Binds K d.fd_is_integer_list ["value"] []
  g_is_integer_list : mg "is_integer_list" = some (.ref d.a_is_integer_list)
  F_is_name_list : Fun K "is_name_list" "is_name_list" s_is_name_list d.a_is_name_list d.fd_is_name_list
  b_is_name_list : Binds K d.fd_is_name_list ["value"] []
  g_is_name_list : mg "is_name_list" = some (.ref d.a_is_name_list)
  F_check_names : Fun K "check_names" "check_names" s_check_names d.a_check_names d.fd_check_names
  b_check_names : Binds K d.fd_check_names ["names"] []
  g_check_names : mg "check_names" = some (.ref d.a_check_names)
  F_ways_on : Fun K "ways_on" "ways_on" s_ways_on d.a_ways_on d.fd_ways_on
  b_ways_on : Binds K d.fd_ways_on ["entered", "listed"] []
  g_ways_on : mg "ways_on" = some (.ref d.a_ways_on)
  F_row_with_cell : Fun K "row_with_cell" "row_with_cell" s_row_with_cell d.a_row_with_cell d.fd_row_with_cell
  b_row_with_cell : Binds K d.fd_row_with_cell ["later", "right", "down"] []
  g_row_with_cell : mg "row_with_cell" = some (.ref d.a_row_with_cell)
  F_ways_from : Fun K "_ways_from" "_ways_from" s_ways_from d.a_ways_from d.fd_ways_from
  b_ways_from : Binds K d.fd_ways_from ["row", "listed", "ways"] []
  g_ways_from : mg "_ways_from" = some (.ref d.a_ways_from)
  F_stage_after : Fun K "_stage_after" "_stage_after" s_stage_after d.a_stage_after d.fd_stage_after
  b_stage_after : Binds K d.fd_stage_after ["rows", "listed", "ways"] []
  g_stage_after : mg "_stage_after" = some (.ref d.a_stage_after)
  F_is_integer_within : Fun K "is_integer_within" "is_integer_within" s_is_integer_within d.a_is_integer_within d.fd_is_integer_within
  b_is_integer_within : Binds K d.fd_is_integer_within ["value", "least", "greatest"] []
  g_is_integer_within : mg "is_integer_within" = some (.ref d.a_is_integer_within)
  F_check_coordinate : Fun K "_check_coordinate" "_check_coordinate" s_check_coordinate d.a_check_coordinate d.fd_check_coordinate
  b_check_coordinate : Binds K d.fd_check_coordinate ["value"] []
  g_check_coordinate : mg "_check_coordinate" = some (.ref d.a_check_coordinate)
  F_cells_before : Fun K "_cells_before" "_cells_before" s_cells_before d.a_cells_before d.fd_cells_before
  b_cells_before : Binds K d.fd_cells_before ["diagonal"] []
  g_cells_before : mg "_cells_before" = some (.ref d.a_cells_before)
  F_name_of : Fun K "name_of" "name_of" s_name_of d.a_name_of d.fd_name_of
  b_name_of : Binds K d.fd_name_of ["right", "down"] []
  g_name_of : mg "name_of" = some (.ref d.a_name_of)
  F_stages_of : Fun K "stages_of" "stages_of" s_stages_of d.a_stages_of d.fd_stages_of
  b_stages_of : Binds K d.fd_stages_of ["count", "names", "ways"] []
  g_stages_of : mg "stages_of" = some (.ref d.a_stages_of)
  F_stages_of_p : Fun K "_stages_of" "_stages_of" s_stages_of_p d.a_stages_of_p d.fd_stages_of_p
  b_stages_of_p : Binds K d.fd_stages_of_p ["names"] []
  g_stages_of_p : mg "_stages_of" = some (.ref d.a_stages_of_p)
  F_stuck_in : Fun K "_stuck_in" "_stuck_in" s_stuck_in d.a_stuck_in d.fd_stuck_in
  b_stuck_in : Binds K d.fd_stuck_in ["stages"] []
  g_stuck_in : mg "_stuck_in" = some (.ref d.a_stuck_in)
  F_routing_in : Fun K "_routing_in" "_routing_in" s_routing_in d.a_routing_in d.fd_routing_in
  b_routing_in : Binds K d.fd_routing_in ["stages"] []
  g_routing_in : mg "_routing_in" = some (.ref d.a_routing_in)
  F_routing_for : Fun K "routing_for" "routing_for" s_routing_for d.a_routing_for d.fd_routing_for
  b_routing_for : Binds K d.fd_routing_for ["names"] []
  g_routing_for : mg "routing_for" = some (.ref d.a_routing_for)
  F_diagonal_of : Fun K "_diagonal_of" "_diagonal_of" s_diagonal_of d.a_diagonal_of d.fd_diagonal_of
  b_diagonal_of : Binds K d.fd_diagonal_of ["name"] []
  g_diagonal_of : mg "_diagonal_of" = some (.ref d.a_diagonal_of)
  F_cell_of : Fun K "cell_of" "cell_of" s_cell_of d.a_cell_of d.fd_cell_of
  b_cell_of : Binds K d.fd_cell_of ["name"] []
  g_cell_of : mg "cell_of" = some (.ref d.a_cell_of)
  F_send : Fun K "_send" "_send" s_send d.a_send d.fd_send
  b_send : Binds K d.fd_send ["coming", "name", "many"] []
  g_send : mg "_send" = some (.ref d.a_send)
  F_send_on : Fun K "_send_on" "_send_on" s_send_on d.a_send_on d.fd_send_on
  b_send_on : Binds K d.fd_send_on ["coming", "name", "right", "down"] []
  g_send_on : mg "_send_on" = some (.ref d.a_send_on)
  F_is_routing_item : Fun K "_is_routing_item" "_is_routing_item" s_is_routing_item d.a_is_routing_item d.fd_is_routing_item
  b_is_routing_item : Binds K d.fd_is_routing_item ["value"] []
  g_is_routing_item : mg "_is_routing_item" = some (.ref d.a_is_routing_item)
  F_is_routing : Fun K "is_routing" "is_routing" s_is_routing d.a_is_routing d.fd_is_routing
  b_is_routing : Binds K d.fd_is_routing ["names", "value"] []
  g_is_routing : mg "is_routing" = some (.ref d.a_is_routing)
  F_law_pot : Fun K "_law_pot" "_law_pot" s_law_pot d.a_law_pot d.fd_law_pot
  b_law_pot : Binds K d.fd_law_pot ["script", "k"] []
  g_law_pot : mg "_law_pot" = some (.ref d.a_law_pot)
  F_law_take : Fun K "_law_take" "_law_take" s_law_take d.a_law_take d.fd_law_take
  b_law_take : Binds K d.fd_law_take ["pot", "many"] []
  g_law_take : mg "_law_take" = some (.ref d.a_law_take)
  F_law_drawn : Fun K "_law_drawn" "_law_drawn" s_law_drawn d.a_law_drawn d.fd_law_drawn
  b_law_drawn : Binds K d.fd_law_drawn ["pot", "count"] []
  g_law_drawn : mg "_law_drawn" = some (.ref d.a_law_drawn)
  F_law_some : Fun K "_law_some" "_law_some" s_law_some d.a_law_some d.fd_law_some
  b_law_some : Binds K d.fd_law_some ["pot", "things", "many"] []
  g_law_some : mg "_law_some" = some (.ref d.a_law_some)
  F_law_list : Fun K "_law_list" "_law_list" s_law_list d.a_law_list d.fd_law_list
  b_law_list : Binds K d.fd_law_list ["pot", "count"] []
  g_law_list : mg "_law_list" = some (.ref d.a_law_list)
  F_law_sends : Fun K "_law_sends" "_law_sends" s_law_sends d.a_law_sends d.fd_law_sends
  b_law_sends : Binds K d.fd_law_sends ["entered", "is_listed"] []
  g_law_sends : mg "_law_sends" = some (.ref d.a_law_sends)
  F_law_next : Fun K "_law_next" "_law_next" s_law_next d.a_law_next d.fd_law_next
  b_law_next : Binds K d.fd_law_next ["state", "names", "diagonal"] []
  g_law_next : mg "_law_next" = some (.ref d.a_law_next)
  F_law_stuck : Fun K "_law_stuck" "_law_stuck" s_law_stuck d.a_law_stuck d.fd_law_stuck
  b_law_stuck : Binds K d.fd_law_stuck ["names"] []
  g_law_stuck : mg "_law_stuck" = some (.ref d.a_law_stuck)
  F_law_told : Fun K "_law_told" "_law_told" s_law_told d.a_law_told d.fd_law_told
  b_law_told : Binds K d.fd_law_told ["names"] []
  g_law_told : mg "_law_told" = some (.ref d.a_law_told)
  F_law_is_routing : Fun K "_law_is_routing" "_law_is_routing" s_law_is_routing d.a_law_is_routing d.fd_law_is_routing
  b_law_is_routing : Binds K d.fd_law_is_routing ["names", "value"] []
  g_law_is_routing : mg "_law_is_routing" = some (.ref d.a_law_is_routing)
  F_law : Fun K "law" "law" s_law d.a_law d.fd_law
  b_law : Binds K d.fd_law ["script"] []
  g_law : mg "law" = some (.ref d.a_law)
  g_Impossible : mg "Impossible" = some (.ref d.c_Impossible)
  s_Impossible : PySem.W.subIn K (.ref d.c_Impossible) (.type "BaseException") = some true
  t_Impossible : PySem.W.typeIn K (.ref d.c_Impossible) = some (.type "type")
  k_Impossible : PySem.W.keepIn K (.ref d.c_Impossible) = true
  D_Impossible : PySem.W.hasDictIn K d.c_Impossible = true
  e_Impossible_Impossible : PySem.W.subIn K (.ref d.c_Impossible) (.ref d.c_Impossible) = some true
  n_bool : mg "bool" = none
  n_enumerate : mg "enumerate" = none
  n_int : mg "int" = none
  n_isinstance : mg "isinstance" = none
  n_len : mg "len" = none
  n_list : mg "list" = none
  n_max : mg "max" = none
  n_min : mg "min" = none
  n_range : mg "range" = none
  n_repr : mg "repr" = none
  n_reversed : mg "reversed" = none
  n_set : mg "set" = none
  n_sorted : mg "sorted" = none
  n_sum : mg "sum" = none
  n_tuple : mg "tuple" = none
  n_zip : mg "zip" = none
  i_isqrt : mg "isqrt" = some (.builtin "math.isqrt")
  mg_GREATEST_COORDINATE : ∃ t, mg "GREATEST_COORDINATE" = some (.int (1000000000000000) t)
  mg_GREATEST_NAME : ∃ t, mg "GREATEST_NAME" = some (.int (1000000000000000000000000000000) t)
  mg_MOST_NAMES : ∃ t, mg "MOST_NAMES" = some (.int (8) t)
  O_Impossible : OwnX P K mg s_x_Impossible "Impossible.__init__" "diagonal" "diagonal" d.c_Impossible d.xf_Impossible d.xc_Impossible d.xd_Impossible
/-- a drawer of numbers stands at u, besides l -/
def Urn (B H : Hp) (u : Addr) (l : List (Addr × HO)) (c : Nat) : Prop := ∃ x y z : Int, Led B H ((u, .lst [.int x, .int y, .int z]) :: l) ∧ 0 ≤ x ∧ 0 ≤ y ∧ y < 2 ^ 150 ∧ 0 ≤ z ∧ z ≤ (c : Int)
theorem Urn.led {B H : Hp} {u : Addr} {l : List (Addr × HO)} {c : Nat} (U : Urn B H u l c) : Led B H l := by
  obtain ⟨x, y, z, L, _⟩ := U
  exact L.drop (n := 1)
theorem Urn.map {B H B' H' : Hp} {u : Addr} {l l' : List (Addr × HO)} {c : Nat} (U : Urn B H u l c) (h : ∀ o, Led B H ((u, o) :: l) → Led B' H' ((u, o) :: l')) : Urn B' H' u l' c := by
  obtain ⟨x, y, z, L, r⟩ := U
  exact ⟨x, y, z, h _ L, r⟩
theorem Urn.up {B H : Hp} {u : Addr} {l : List (Addr × HO)} {c d : Nat} (U : Urn B H u l c) (h : c ≤ d) : Urn B H u l d := by
  obtain ⟨x, y, z, L, r1, r2, r3, r4, r5⟩ := U
  exact ⟨x, y, z, L, r1, r2, r3, r4, by omega⟩
theorem Urn.new {B H : Hp} {u : Addr} {l : List (Addr × HO)} {c : Nat} {o : HO} {G : Addr → Hp → Prop} (U : Urn B H u l c) (k : ∀ p H1, Urn B H1 u ((p, o) :: l) c → G p H1) : NewK o H G := fun p hp =>
  k p _ (U.map fun o L => (L.new hp).sel (.cons (.tl .hd) .all))
theorem Urn.sel {B H : Hp} {u : Addr} {l l' : List (Addr × HO)} {c : Nat} (U : Urn B H u l c) (h : Sel l l') : Urn B H u l' c := U.map fun o L => L.sel (.cons .hd h)
theorem Urn.put {B H : Hp} {u p : Addr} {o : HO} {l l' : List (Addr × HO)} {c : Nat} (U : Urn B H u l c) (h : Put l p o l') : Urn B (upd H p o) u l' c := U.map fun _ L => L.put (.tl h)
theorem Urn.catK {B H : Hp} {u p q : Addr} {l : List (Addr × HO)} {c : Nat} {xs ys : List V} {G : Addr → Hp → Prop} (U : Urn B H u l c) (h : (p, HO.lst xs) ∈ l) (h2 : (q, HO.lst ys) ∈ l) (a : xs.length + ys.length ≤ sizeLine)
    (k : ∀ r H1, Urn B H1 u ((r, .lst (xs ++ ys)) :: l) c → G r H1) : CatK p q H G := ⟨xs, ys, U.led.at h, U.led.at h2, a, U.new k⟩
theorem Urn.appK {B H : Hp} {u p : Addr} {l l' : List (Addr × HO)} {c : Nat} {xs : List V} {v : V} {G : Hp → Prop} (U : Urn B H u l c) (h : (p, HO.lst xs) ∈ l) (a : xs.length < sizeLine) (t : Put l p (.lst (xs ++ [v])) l')
    (k : ∀ H1, Urn B H1 u l' c → G H1) : AppK p v H G := ⟨xs, U.led.at h, a, k _ (U.put t)⟩
theorem Urn.setK {B H : Hp} {u p : Addr} {l l' : List (Addr × HO)} {c j : Nat} {i : Int} {xs : List V} {v : V} {G : Hp → Prop} (U : Urn B H u l c) (h : (p, HO.lst xs) ∈ l) (a : ixN xs.length i = some j) (t : Put l p (.lst (xs.set j v)) l')
    (k : ∀ H1, Urn B H1 u l' c → G H1) : SetK p i v H G := ⟨xs, j, U.led.at h, a, k _ (U.put t)⟩
theorem Urn.rptK {B H : Hp} {u a : Addr} {l : List (Addr × HO)} {c n : Nat} {v : V} {G : Addr → Hp → Prop} (U : Urn B H u l c) (h : (a, HO.lst [v]) ∈ l) (hn : n ≤ 100000) (k : ∀ p H1, Urn B H1 u ((p, .lst (List.replicate n v)) :: l) c → G p H1) : RptK a (n : Int) H G :=
  ⟨[v], U.led.at h, by omega, by omega, Nat.le_trans (m := 100000) (by rw [Int.toNat_natCast]; simpa using hn) (by decide), by rw [Int.toNat_natCast, flat_one]; exact U.new k⟩
theorem Urn.remK {B H : Hp} {u a : Addr} {l l' : List (Addr × HO)} {c : Nat} {n : Int} {ns : List Int} {G : Hp → Prop} (U : Urn B H u l c) (h : (a, HO.lst (ns.map V.int)) ∈ l) (hm : n ∈ ns) (t : Put l a (.lst ((ns.erase n).map V.int)) l') (k : ∀ H1, Urn B H1 u l' c → G H1) : RemK a n H G := by
  obtain ⟨j, h1, h2, h3⟩ := first_at hm
  exact ⟨ns, j, U.led.at h, h1, h2, by rw [h3]; exact k _ (U.put t)⟩
/-! ### lists of numbers -/
def nv (l : List Nat) : List V := l.map fun (p : Nat) => V.int (p : Int)
theorem nv_len (l : List Nat) : (nv l).length = l.length := by unfold nv; rw [List.length_map]
theorem nv_at {l : List Nat} {i : Nat} {x : V} (h : (nv l)[i]? = some x) : ∃ p, l[i]? = some p ∧ x = V.int (p : Int) := by
  unfold nv at h
  rw [List.getElem?_map] at h
  cases e : l[i]? with
  | none => rw [e] at h; cases h
  | some p => rw [e] at h; cases h; exact ⟨p, rfl, rfl⟩
theorem nv_atI {l : List Nat} {i d : Nat} (h : l[i]? = some d) : atI (nv l) (i : Int) = some (V.int (d : Int)) := by
  have hi : i < l.length := (List.getElem?_eq_some_iff.mp h).1
  rw [atI_in (by omega) (by rw [nv_len]; omega)]
  have : (nv l)[i]? = some (V.int (d : Int)) := by unfold nv; rw [List.getElem?_map, h]; rfl
  rw [← this]
  simp only [Int.toNat_natCast]
  exact (List.getElem?_eq_getElem _).symm
theorem atI_nat' {α : Type} {l : List α} {i : Nat} {x : α} (h : l[i]? = some x) : atI l (i : Int) = some x := by
  have hi : i < l.length := (List.getElem?_eq_some_iff.mp h).1
  rw [atI_in (by omega) (by omega), ← h]
  simp only [Int.toNat_natCast]
  exact (List.getElem?_eq_getElem _).symm
theorem ixN_nat {n i : Nat} (h : i < n) : ixN n (i : Int) = some i := by
  unfold ixN
  rw [if_pos (by omega), if_pos (by omega), Int.toNat_natCast]
theorem nv_set (l : List Nat) (i d : Nat) : (nv l).set i (V.int (d : Int)) = nv (l.set i d) := by
  unfold nv
  rw [List.map_set]
theorem nv_put (l : List Nat) (p k : Nat) : (nv l).set p (V.int ((k : Int) + 1)) = nv (l.set p (k + 1)) := by rw [← nv_set]; rfl
theorem dp_nv {K : PySem.W.Frag} {H : Hp} : ∀ l : List Nat, DpAll K H (nv l) (l.map fun (p : Nat) => .int (p : Int))
  | [] => .nil
  | p :: r => .cons (.int (p : Int)) (dp_nv r)
theorem nv_pick {l : List Nat} {r : Int} (h0 : 0 ≤ r) (h : r < l.length) : ∃ p, p ∈ l ∧ atI (nv l) r = some (V.int (p : Int)) := by
  have hr : r.toNat < l.length := by omega
  refine ⟨l[r.toNat], List.getElem_mem _, ?_⟩
  have := nv_atI (List.getElem?_eq_getElem hr)
  rw [Int.toNat_of_nonneg h0] at this
  exact this
theorem nv_app (l : List Nat) (d : Nat) : nv (l ++ [d]) = nv l ++ [V.int (d : Int)] := by
  unfold nv
  rw [List.map_append]
  rfl
theorem nv_ints (l : List Nat) : nv l = (l.map fun (p : Nat) => (p : Int)).map V.int := by
  unfold nv
  rw [List.map_map]
  rfl
theorem flat_nv (l : List Nat) : (nv l).all flatV = true := by
  unfold nv
  rw [List.all_map]
  exact List.all_eq_true.mpr fun p _ => rfl
theorem in_nv {l : List Nat} {z : Int} (h : inV (.int z) (nv l) = true) : ∃ p, p ∈ l ∧ (p : Int) = z := by
  unfold inV nv at h
  rw [List.any_map] at h
  obtain ⟨p, hp, e⟩ := List.any_eq_true.mp h
  exact ⟨p, hp, by simpa [eqV] using e⟩
theorem nv_nil : nv [] = [] := rfl
theorem erase_nv (p : Nat) : ∀ A : List Nat, ((A.map fun (q : Nat) => (q : Int)).erase (p : Int)).map V.int = nv (A.erase p)
  | [] => rfl
  | q :: r => by
    by_cases c : q = p
    · subst c
      rw [List.map_cons, List.erase_cons_head, List.erase_cons_head, ← nv_ints]
    · have h1 : ((q : Int) == (p : Int)) = false := by
        rw [beq_eq_false_iff_ne]
        omega
      have h2 : (q == p) = false := by rw [beq_eq_false_iff_ne]; exact c
      rw [List.map_cons, List.erase_cons_tail (by rw [h1]; decide), List.erase_cons_tail (by rw [h2]; decide), List.map_cons, erase_nv p r]
      rfl
theorem nv_take (l : List Nat) (k : Nat) : (nv l).take k = nv (l.take k) := by
  unfold nv
  rw [List.map_take]
theorem cut_take {α : Type} (xs : List V) (k : Nat) : cutV xs none (some (k : Int)) = xs.take k := by
  unfold cutV
  rw [HT.sIx_none, HT.sIx_nat]
  show (xs.drop 0).take (min k xs.length - 0) = _
  rw [List.drop_zero, Nat.sub_zero, List.take_eq_take_iff]
  omega
theorem take_more {l : List Nat} {i p : Nat} (h : l[i]? = some p) : l.take (i + 1) = l.take i ++ [p] := by rw [List.take_add_one, h]; rfl
def Asc (ms : List Nat) : Prop := ms.Pairwise (· < ·)
def lastZ (l : List Nat) : Int := match l.getLast? with
  | none => -1
  | some p => (p : Int)
theorem lastZ_app (l : List Nat) (p : Nat) : lastZ (l ++ [p]) = (p : Int) := by unfold lastZ; rw [List.getLast?_concat]
theorem Asc.last {l : List Nat} {p : Nat} (h : Asc (l ++ [p])) : lastZ l < (p : Int) := by
  unfold lastZ
  cases e : l.getLast? with
  | none => dsimp only; omega
  | some q =>
    have := (List.pairwise_append.mp h).2.2 q (List.mem_of_getLast? e) p (List.mem_singleton.mpr rfl)
    dsimp only
    omega
theorem Asc.app {l : List Nat} {p : Nat} (h : Asc l) (h2 : lastZ l < (p : Int)) : Asc (l ++ [p]) := by
  refine List.pairwise_append.mpr ⟨h, List.pairwise_singleton _ _, fun a ha b hb => ?_⟩
  rw [List.mem_singleton.mp hb]
  unfold lastZ at h2
  have hne : l ≠ [] := List.ne_nil_of_mem ha
  cases e : l.getLast? with
  | none => rw [List.getLast?_eq_none_iff] at e; exact absurd e hne
  | some q =>
    rw [e] at h2
    dsimp only at h2
    have : a ≤ q := by
      obtain ⟨k, hk, e2⟩ := List.mem_iff_getElem.mp ha
      rw [List.getLast?_eq_getElem?] at e
      obtain ⟨h3, e3⟩ := List.getElem?_eq_some_iff.mp e
      by_cases c : k = l.length - 1
      · subst c; omega
      · have := List.pairwise_iff_getElem.mp h k (l.length - 1) hk h3 (by omega)
        omega
    omega
theorem Asc.take {l : List Nat} (h : Asc l) (k : Nat) : Asc (l.take k) := List.Pairwise.sublist (List.take_sublist k l) h
theorem pow40 : (10 : Nat) ^ 40 < 2 ^ 140 := by decide +kernel
theorem rep_nvB {K : PySem.W.Frag} {H : Hp} {a : Addr} {l : List Nat} {G : Str → Prop} (h : SqL K H a (nv l)) (hp : ∀ p ∈ l, p < 2 ^ 140) (hl : l.length ≤ 100) (q : G (PyData.list (l.map fun (p : Nat) => .int (p : Int))).shown) : RepQ K (.ref a) H G := by
  refine ⟨_, Dq.lst h (DqAll.of (dp_nv l)), ?_, q⟩
  have := Shw.lst (n := 141) (k := 1) (ds := l.map fun (p : Nat) => PyData.int (p : Int)) (fun x hx => by
    obtain ⟨p, hp2, rfl⟩ := List.mem_map.mp hx
    exact (Shw.int (k := 140) (by decide) (by decide) (by have := hp p hp2; rw [Int.natAbs_natCast]; exact this)))
  rw [List.length_map] at this
  exact this.q.up (by omega) (by decide)
theorem ne_nvB {K : PySem.W.Frag} {H : Hp} {a b : Addr} {l : List Nat} {Q : VK} (h : SqL K H a (nv l)) (h2 : SqL K H b (nv l)) (q : Q (.bl false) H) : rNeD K (.ref a) (.ref b) H Q := by
  have g : Eqd 2 (.list (l.map fun (p : Nat) => .int (p : Int))) := Eqd.lst fun d hd => by obtain ⟨x, hx, rfl⟩ := List.mem_map.mp hd; exact Eqd.int _
  refine NeD.of (.lst h (dp_nv l)) (.lst h2 (dp_nv l)) (g.sh (by decide)) (g.sh (by decide)) ?_
  rw [SeqAt.eqv_refl _ g.c]
  exact q
theorem eq_nvB {K : PySem.W.Frag} {H : Hp} {a b : Addr} {l : List Nat} {Q : VK} (h : SqL K H a (nv l)) (h2 : SqL K H b (nv l)) (q : Q (.bl true) H) : rEqL K (.ref a) (.ref b) H Q := by
  have g : Eqd 2 (.list (l.map fun (p : Nat) => .int (p : Int))) := Eqd.lst fun d hd => by obtain ⟨x, hx, rfl⟩ := List.mem_map.mp hd; exact Eqd.int _
  refine Or.inl (EqD.of (.lst h (dp_nv l)) (.lst h2 (dp_nv l)) (g.sh (by decide)) (g.sh (by decide)) ?_)
  rw [SeqAt.eqv_refl _ g.c]
  exact q
/-! ### rows of a diagonal -/
/-- in which ways those that enter a cell go on -/
def ways (e : Nat) (l : Bool) : List (Nat × Nat) := if l = true then (List.range e).map fun r => (r, e - 1 - r) else if e = 0 then [(0, 0)] else (List.range (e - 1)).map fun r => (r + 1, e - (r + 1))
theorem ways_mem {e : Nat} {l : Bool} {r d : Nat} : (r, d) ∈ ways e l ↔ (l = true ∧ r + d + 1 = e) ∨ (l = false ∧ r + d = e ∧ (e = 0 ∨ (0 < r ∧ 0 < d))) := by
  unfold ways
  cases l with
  | true =>
    rw [if_pos rfl, List.mem_map]
    constructor
    · rintro ⟨a, ha, h⟩
      have := List.mem_range.mp ha
      cases h
      exact Or.inl ⟨rfl, by omega⟩
    · rintro (⟨_, h⟩ | ⟨h, _⟩)
      · exact ⟨r, List.mem_range.mpr (by omega), by rw [show e - 1 - r = d by omega]⟩
      · cases h
  | false =>
    rw [if_neg Bool.false_ne_true]
    split
    · rename_i e0
      rw [List.mem_singleton]
      constructor
      · intro h; cases h; exact Or.inr ⟨rfl, by omega, Or.inl e0⟩
      · rintro (⟨h, _⟩ | ⟨_, h, _⟩)
        · cases h
        · rw [show r = 0 by omega, show d = 0 by omega]
    · rename_i e0
      rw [List.mem_map]
      constructor
      · rintro ⟨a, ha, h⟩
        have := List.mem_range.mp ha
        cases h
        exact Or.inr ⟨rfl, by omega, Or.inr ⟨by omega, by omega⟩⟩
      · rintro (⟨h, _⟩ | ⟨_, h, h2⟩)
        · cases h
        · rcases h2 with h2 | ⟨h2, h3⟩
          · exact absurd h2 e0
          · exact ⟨r - 1, List.mem_range.mpr (by omega), by rw [show r - 1 + 1 = r by omega, show e - r = d by omega]⟩
theorem ways_len (e : Nat) (l : Bool) : (ways e l).length ≤ 2 ^ e := by
  have h : e ≤ 2 ^ e := Nat.le_of_lt Nat.lt_two_pow_self
  unfold ways
  split
  · rw [List.length_map, List.length_range]; exact h
  · split
    · rename_i e0; rw [e0]; decide
    · rw [List.length_map, List.length_range]; omega
/-- what a way of walking must keep -/
structure WayOk (wf : Nat → Bool → List (Nat × Nat)) : Prop where
  le : ∀ {e l r d}, (r, d) ∈ wf e l → r + d ≤ e
  lt : ∀ {e l r d}, 0 < e → (r, d) ∈ wf e l → r < e ∧ d < e
  len : ∀ e l, (wf e l).length ≤ 2 ^ e
theorem ways_ok : WayOk ways := ⟨fun {e l r d} h => by rcases ways_mem.mp h with ⟨_, h⟩ | ⟨_, h, _⟩ <;> omega, fun {e l r d} h0 h => by rcases ways_mem.mp h with ⟨_, h⟩ | ⟨_, h, h2⟩ <;> omega, ways_len⟩
def ext (a : List Nat) (r d : Nat) : List Nat := a.dropLast ++ [a.getLastD 0 + d, r]
/-- the row that a choice of ways gives -/
def mg : Nat → List (Nat × Nat) → List Nat
  | k, [] => [k]
  | k, (r, d) :: c => (k + d) :: mg r c
theorem ext_snoc (pre : List Nat) (k r d : Nat) : ext (pre ++ [k]) r d = (pre ++ [k + d]) ++ [r] := by
  unfold ext
  rw [List.dropLast_concat]
  simp
theorem fold_ext : ∀ (c : List (Nat × Nat)) (pre : List Nat) (k : Nat), c.foldl (fun a rd => ext a rd.1 rd.2) (pre ++ [k]) = pre ++ mg k c
  | [], _, _ => rfl
  | (r, d) :: c, pre, k => by
    rw [List.foldl_cons, ext_snoc, fold_ext c]
    show _ = pre ++ ((k + d) :: mg r c)
    rw [List.append_assoc]
    rfl
theorem mg_len : ∀ (c : List (Nat × Nat)) (k : Nat), (mg k c).length = c.length + 1
  | [], _ => rfl
  | (r, d) :: c, k => by show (mg r c).length + 1 = _; rw [mg_len c r]; rfl
theorem mg_sum : ∀ (c : List (Nat × Nat)) (k : Nat), (mg k c).sum = k + (c.map fun rd => rd.1 + rd.2).sum
  | [], k => by show k + 0 = k + 0; rfl
  | (r, d) :: c, k => by
    show ((k + d) :: mg r c).sum = _
    rw [List.sum_cons, mg_sum c r, List.map_cons, List.sum_cons]
    dsimp only
    omega
/-- a choice that fits to a row -/
def Fits (wf : Nat → Bool → List (Nat × Nat)) : List Nat → List Bool → List (Nat × Nat) → Prop
  | e :: row, l :: ls, rd :: c => rd ∈ wf e l ∧ Fits wf row ls c
  | [], [], [] => True
  | _, _, _ => False
/-- the rows that can follow, as the law makes them -/
def rowsGo (wf : Nat → Bool → List (Nat × Nat)) : List Nat → List Bool → List (List Nat) → List (List Nat)
  | e :: row, l :: ls, acc => rowsGo wf row ls (acc.flatMap fun a => (wf e l).map fun rd => ext a rd.1 rd.2)
  | _, _, acc => acc
def rowsFrom (wf : Nat → Bool → List (Nat × Nat)) (row : List Nat) (ls : List Bool) : List (List Nat) := rowsGo wf row ls [[0]]
theorem rowsGo_mem {wf : Nat → Bool → List (Nat × Nat)} : ∀ {row : List Nat} {ls : List Bool}, row.length = ls.length → ∀ {acc : List (List Nat)} {x : List Nat}, x ∈ rowsGo wf row ls acc ↔ ∃ a ∈ acc, ∃ c, Fits wf row ls c ∧ x = c.foldl (fun a rd => ext a rd.1 rd.2) a
  | [], [], _, acc, x => by
    constructor
    · intro h; exact ⟨x, h, [], trivial, rfl⟩
    · rintro ⟨a, ha, c, hc, rfl⟩
      cases c with
      | nil => exact ha
      | cons _ _ => exact hc.elim
  | e :: row, l :: ls, hl, acc, x => by
    show x ∈ rowsGo wf row ls _ ↔ _
    rw [rowsGo_mem (by simpa using hl)]
    constructor
    · rintro ⟨b, hb, c, hc, rfl⟩
      obtain ⟨a, ha, hb⟩ := List.mem_flatMap.mp hb
      obtain ⟨rd, hrd, rfl⟩ := List.mem_map.mp hb
      exact ⟨a, ha, rd :: c, ⟨hrd, hc⟩, rfl⟩
    · rintro ⟨a, ha, c, hc, rfl⟩
      cases c with
      | nil => exact hc.elim
      | cons rd c => exact ⟨_, List.mem_flatMap.mpr ⟨a, ha, List.mem_map.mpr ⟨rd, hc.1, rfl⟩⟩, c, hc.2, rfl⟩
theorem rows_mem {wf : Nat → Bool → List (Nat × Nat)} {row : List Nat} {ls : List Bool} (hl : row.length = ls.length) {x : List Nat} : x ∈ rowsFrom wf row ls ↔ ∃ c, Fits wf row ls c ∧ x = mg 0 c := by
  unfold rowsFrom
  rw [rowsGo_mem hl]
  constructor
  · rintro ⟨a, ha, c, hc, rfl⟩
    rw [List.mem_singleton.mp ha]
    exact ⟨c, hc, fold_ext c [] 0⟩
  · rintro ⟨c, hc, rfl⟩
    exact ⟨[0], List.mem_singleton.mpr rfl, c, hc, (fold_ext c [] 0).symm⟩
theorem Fits.len {wf : Nat → Bool → List (Nat × Nat)} : ∀ {row : List Nat} {ls : List Bool} {c : List (Nat × Nat)}, Fits wf row ls c → c.length = row.length ∧ ls.length = row.length
  | [], [], [], _ => ⟨rfl, rfl⟩
  | e :: row, l :: ls, rd :: c, h => by
    obtain ⟨h1, h2⟩ := Fits.len h.2
    exact ⟨congrArg (· + 1) h1, congrArg (· + 1) h2⟩
  | [], [], _ :: _, h => h.elim
  | [], _ :: _, _, h => h.elim
  | _ :: _, [], _, h => h.elim
  | _ :: _, _ :: _, [], h => h.elim
theorem Fits.sum {wf : Nat → Bool → List (Nat × Nat)} (ok : WayOk wf) : ∀ {row : List Nat} {ls : List Bool} {c : List (Nat × Nat)}, Fits wf row ls c → (c.map fun rd => rd.1 + rd.2).sum ≤ row.sum
  | [], [], [], _ => Nat.le_refl _
  | e :: row, l :: ls, (r, d) :: c, h => by
    have h1 := Fits.sum ok h.2
    have h2 := ok.le h.1
    rw [List.map_cons, List.sum_cons, List.sum_cons]
    dsimp only
    omega
  | [], [], _ :: _, h => h.elim
  | [], _ :: _, _, h => h.elim
  | _ :: _, [], _, h => h.elim
  | _ :: _, _ :: _, [], h => h.elim
def nls (ls : List Bool) : Nat := ls.countP (· = true)
theorem Fits.total : ∀ {row : List Nat} {ls : List Bool} {c : List (Nat × Nat)}, Fits ways row ls c → (c.map fun rd => rd.1 + rd.2).sum + nls ls = row.sum
  | [], [], [], _ => rfl
  | e :: row, l :: ls, (r, d) :: c, h => by
    have h1 := Fits.total h.2
    unfold nls at h1 ⊢
    rw [List.countP_cons, List.map_cons, List.sum_cons, List.sum_cons]
    dsimp only
    rcases ways_mem.mp h.1 with ⟨z, h2⟩ | ⟨z, h2, _⟩
    · subst z; simp only [decide_true, if_true]; omega
    · subst z; simp only [Bool.false_eq_true, decide_false, if_false]; omega
  | [], [], _ :: _, h => h.elim
  | [], _ :: _, _, h => h.elim
  | _ :: _, [], _, h => h.elim
  | _ :: _, _ :: _, [], h => h.elim
theorem rowsGo_len {wf : Nat → Bool → List (Nat × Nat)} (ok : WayOk wf) : ∀ (row : List Nat) (ls : List Bool) (acc : List (List Nat)), (rowsGo wf row ls acc).length ≤ acc.length * 2 ^ row.sum
  | [], _, acc => by
    show acc.length ≤ acc.length * 2 ^ 0
    omega
  | e :: row, [], acc => by
    show acc.length ≤ _
    exact Nat.le_mul_of_pos_right _ (Nat.two_pow_pos _)
  | e :: row, l :: ls, acc => by
    have h1 := rowsGo_len ok row ls (acc.flatMap fun a => (wf e l).map fun rd => ext a rd.1 rd.2)
    have h2 : (acc.flatMap fun a => (wf e l).map fun rd => ext a rd.1 rd.2).length ≤ acc.length * 2 ^ e := by
      rw [List.length_flatMap]
      have := ok.len e l
      generalize 2 ^ e = m at *
      clear h1
      induction acc with
      | nil => exact Nat.zero_le _
      | cons a r ih =>
        rw [List.map_cons, List.sum_cons, List.length_map, List.length_cons, Nat.add_mul]
        omega
    show (rowsGo wf row ls _).length ≤ acc.length * 2 ^ (e + row.sum)
    rw [Nat.pow_add, ← Nat.mul_assoc]
    exact Nat.le_trans h1 (Nat.mul_le_mul_right _ h2)
/-! ### how few come to a cell -/
def psum (f : Nat → Nat) : Nat → Nat
  | 0 => 0
  | n + 1 => psum f n + f n
theorem psum_mono {f : Nat → Nat} {i j : Nat} (h : i ≤ j) : psum f i ≤ psum f j := by
  induction j with
  | zero => rw [Nat.le_zero.mp h]; exact Nat.le_refl _
  | succ j ih =>
    rcases Nat.lt_or_ge i (j + 1) with c | c
    · exact Nat.le_trans (ih (by omega)) (Nat.le_add_right _ _)
    · rw [show i = j + 1 by omega]; exact Nat.le_refl _
def Few (n t : Nat) (f : Nat → Nat) : Prop := ∀ i j, i ≤ j → psum f i < psum f j → psum f j + t + 1 ≤ psum f i + n + (j - i)
theorem few_next {n t : Nat} {e r d g : Nat → Nat} (h : Few n t e) (h1 : ∀ k, r k + d k ≤ e k) (h2 : ∀ k, 0 < e k → r k < e k ∧ d k < e k) (g0 : g 0 = d 0) (g1 : ∀ k, g (k + 1) = d (k + 1) + r k) : Few n (t + 1) g := by
  have ps : ∀ j, psum g (j + 1) = psum d (j + 1) + psum r j := by
    intro j
    induction j with
    | zero => show 0 + g 0 = 0 + d 0 + 0; rw [g0]; omega
    | succ j ih =>
      show psum g (j + 1) + g (j + 1) = psum d (j + 1) + d (j + 1) + (psum r j + r j)
      rw [ih, g1]; omega
  have both : ∀ i j, i ≤ j → psum d j + psum r j + psum e i ≤ psum d i + psum r i + psum e j := by
    intro i j hij
    induction j with
    | zero => rw [Nat.le_zero.mp hij]; omega
    | succ j ih =>
      rcases Nat.lt_or_ge i (j + 1) with c | c
      · have := ih (by omega)
        have := h1 j
        show psum d j + d j + (psum r j + r j) + psum e i ≤ psum d i + psum r i + (psum e j + e j)
        omega
      · rw [show i = j + 1 by omega]; omega
  have z0 : ∀ k, e k = 0 → r k = 0 ∧ d k = 0 := fun k hk => by have := h1 k; omega
  intro i j hij hlt
  obtain ⟨j, rfl⟩ : ∃ j', j = j' + 1 := by
    cases j with
    | zero => rw [Nat.le_zero.mp hij] at hlt; omega
    | succ j => exact ⟨j, rfl⟩
  have hi : i ≤ j := by
    rcases Nat.lt_or_ge j i with c | c
    · rw [show i = j + 1 by omega] at hlt; omega
    · exact c
  rw [ps] at hlt ⊢
  have hb := both i j hi
  have pd : psum d (j + 1) = psum d j + d j := rfl
  have pe : psum e (j + 1) = psum e j + e j := rfl
  cases i with
  | zero =>
    have e0 : psum g 0 = 0 := rfl
    have a0 : psum d 0 = 0 := rfl
    have b0 : psum r 0 = 0 := rfl
    have c0 : psum e 0 = 0 := rfl
    by_cases cj : 0 < e j
    · have q := h 0 (j + 1) (by omega)
      have := (h2 j cj).2
      omega
    · have := z0 j (by omega)
      have q := h 0 j (by omega)
      omega
  | succ i =>
    rw [ps] at hlt ⊢
    have pr : psum r (i + 1) = psum r i + r i := rfl
    have pi : psum e (i + 1) = psum e i + e i := rfl
    by_cases ci : 0 < e i
    · have r1 := (h2 i ci).1
      by_cases cj : 0 < e j
      · have q := h i (j + 1) (by omega)
        have := (h2 j cj).2
        omega
      · have := z0 j (by omega)
        have q := h i j (by omega)
        omega
    · have r1 := z0 i (by omega)
      by_cases cj : 0 < e j
      · have q := h (i + 1) (j + 1) (by omega)
        have := (h2 j cj).2
        omega
      · have := z0 j (by omega)
        have q := h (i + 1) j (by omega)
        omega
theorem few_first (n : Nat) : Few n 0 fun k => [n].getD k 0 := by
  have ps : ∀ j, psum (fun k => [n].getD k 0) (j + 1) = n := by
    intro j
    induction j with
    | zero => show 0 + n = n; omega
    | succ j ih => show psum _ (j + 1) + 0 = n; rw [ih]; omega
  intro i j hij hlt
  cases j with
  | zero => rw [Nat.le_zero.mp hij] at hlt; omega
  | succ j =>
    cases i with
    | zero => rw [ps] at hlt ⊢; show n + 0 + 1 ≤ 0 + n + _; omega
    | succ i => rw [ps, ps] at hlt; omega
theorem few_cell {n t k : Nat} {f : Nat → Nat} (h : Few n t f) (h0 : 0 < f k) : f k + t ≤ n := by
  have := h k (k + 1) (by omega)
  have e : psum f (k + 1) = psum f k + f k := rfl
  omega
theorem mg_at : ∀ (c : List (Nat × Nat)) (k j : Nat), (mg k c).getD j 0 = (c.map Prod.snd).getD j 0 + (k :: c.map Prod.fst).getD j 0
  | [], k, 0 => (Nat.zero_add k).symm
  | [], k, j + 1 => rfl
  | (r, d) :: c, k, 0 => Nat.add_comm k d
  | (r, d) :: c, k, j + 1 => by
    show (mg r c).getD j 0 = (c.map Prod.snd).getD j 0 + (r :: c.map Prod.fst).getD j 0
    exact mg_at c r j
theorem Fits.at {wf : Nat → Bool → List (Nat × Nat)} (ok : WayOk wf) : ∀ {row : List Nat} {ls : List Bool} {c : List (Nat × Nat)}, Fits wf row ls c → ∀ k, (c.map Prod.fst).getD k 0 + (c.map Prod.snd).getD k 0 ≤ row.getD k 0 ∧ (0 < row.getD k 0 → (c.map Prod.fst).getD k 0 < row.getD k 0 ∧ (c.map Prod.snd).getD k 0 < row.getD k 0)
  | [], [], [], _, k => ⟨Nat.le_refl _, fun h => absurd h (Nat.lt_irrefl 0)⟩
  | e :: row, l :: ls, (r, d) :: c, h, 0 => ⟨ok.le h.1, fun h0 => ok.lt h0 h.1⟩
  | e :: row, l :: ls, (r, d) :: c, h, k + 1 => Fits.at ok (row := row) h.2 k
  | [], [], _ :: _, h, _ => h.elim
  | [], _ :: _, _, h, _ => h.elim
  | _ :: _, [], _, h, _ => h.elim
  | _ :: _, _ :: _, [], h, _ => h.elim
abbrev FewR (n t : Nat) (row : List Nat) : Prop := Few n t fun k => row.getD k 0
theorem few_row {wf : Nat → Bool → List (Nat × Nat)} (ok : WayOk wf) {n t : Nat} {row : List Nat} {ls : List Bool} {c : List (Nat × Nat)} (h : FewR n t row) (f : Fits wf row ls c) : FewR n (t + 1) (mg 0 c) := by
  refine few_next (e := fun k => row.getD k 0) (r := fun k => (c.map Prod.fst).getD k 0) (d := fun k => (c.map Prod.snd).getD k 0) h (fun k => (f.at ok k).1) (fun k => (f.at ok k).2) ?_ fun k => ?_
  · rw [mg_at]
    show _ + 0 = _
    omega
  · rw [mg_at]
    rfl
theorem zero_row {n t : Nat} {row : List Nat} (h : FewR n t row) (ht : n ≤ t) : row.sum = 0 := by
  have all : ∀ k, row.getD k 0 = 0 := fun k => by
    rcases Nat.eq_zero_or_pos (row.getD k 0) with c | c
    · exact c
    · have := few_cell (f := fun k => row.getD k 0) h (k := k) c
      omega
  clear h
  induction row with
  | nil => rfl
  | cons a r ih =>
    rw [List.sum_cons, ih fun k => all (k + 1)]
    have : a = 0 := all 0
    omega
/-! ### the stages, as the program keeps them -/
abbrev Way := List (Nat × Nat × Nat)
abbrev Stg := List (List Nat × Way)
def hasA (f : Stg) (k : List Nat) : Bool := f.any fun kv => decide (kv.1 = k)
def putA (f : Stg) (k : List Nat) (v : Way) : Stg := if hasA f k = true then f.map (fun kv => if kv.1 = k then (kv.1, v) else kv) else f ++ [(k, v)]
def wayPut (e : Nat) (lw : List Nat × Way) (acc : Stg) (rd : Nat × Nat) : Stg := putA acc (ext lw.1 rd.1 rd.2) (lw.2 ++ [(e, rd.1, rd.2)])
def wayOne (wf : Nat → Bool → List (Nat × Nat)) (e : Nat) (l : Bool) (acc : Stg) (lw : List Nat × Way) : Stg := (wf e l).foldl (wayPut e lw) acc
def wayCell (wf : Nat → Bool → List (Nat × Nat)) (e : Nat) (l : Bool) (f : Stg) : Stg := f.foldl (wayOne wf e l) []
def waysGo (wf : Nat → Bool → List (Nat × Nat)) : List Nat → List Bool → Stg → Stg
  | e :: row, l :: ls, f => waysGo wf row ls (wayCell wf e l f)
  | _, _, f => f
def waysFrom (wf : Nat → Bool → List (Nat × Nat)) (row : List Nat) (ls : List Bool) : Stg := waysGo wf row ls [([0], [])]
def stAdd (acc : Stg) (lw : List Nat × Way) : Stg := if hasA acc lw.1 = true then acc else acc ++ [lw]
def stAfter (wf : Nat → Bool → List (Nat × Nat)) (rows : List (List Nat)) (ls : List Bool) : Stg := rows.foldl (fun acc row => (waysFrom wf row ls).foldl stAdd acc) []
def lsAt (nm : Nat → Bool) (t : Nat) : List Bool := (List.range (t + 1)).map fun i => nm (t * (t + 1) / 2 + i)
def stagesGo (wf : Nat → Bool → List (Nat × Nat)) (nm : Nat → Bool) : Nat → Nat → List (List Nat) → List Stg
  | 0, _, _ => []
  | k + 1, t, rows => stAfter wf rows (lsAt nm t) :: (if stAfter wf rows (lsAt nm t) = [] then [] else stagesGo wf nm k (t + 1) ((stAfter wf rows (lsAt nm t)).map Prod.fst))
def stagesOf (wf : Nat → Bool → List (Nat × Nat)) (nm : Nat → Bool) (n : Nat) : List Stg := stagesGo wf nm n 0 [[n]]
theorem hasA_iff {f : Stg} {k : List Nat} : hasA f k = true ↔ k ∈ f.map Prod.fst := by
  unfold hasA
  rw [List.any_eq_true, List.mem_map]
  constructor
  · rintro ⟨x, h1, h2⟩; exact ⟨x, h1, by simpa using h2⟩
  · rintro ⟨x, h1, h2⟩; exact ⟨x, h1, by simpa using h2⟩
theorem putA_keys {f : Stg} {k : List Nat} {v : Way} : (putA f k v).map Prod.fst = if hasA f k = true then f.map Prod.fst else f.map Prod.fst ++ [k] := by
  unfold putA
  split
  · rw [List.map_map]
    refine List.map_congr_left fun x _ => ?_
    show (if x.1 = k then (x.1, v) else x).1 = x.1
    split <;> rfl
  · rw [List.map_append]; rfl
theorem putA_mem {f : Stg} {k x : List Nat} {v : Way} : x ∈ (putA f k v).map Prod.fst ↔ x = k ∨ x ∈ f.map Prod.fst := by
  rw [putA_keys]
  split
  · rename_i h
    constructor
    · exact Or.inr
    · rintro (rfl | h2)
      · exact hasA_iff.mp h
      · exact h2
  · rw [List.mem_append, List.mem_singleton]; exact Or.comm
theorem putA_nodup {f : Stg} {k : List Nat} {v : Way} (h : (f.map Prod.fst).Nodup) : ((putA f k v).map Prod.fst).Nodup := by
  rw [putA_keys]
  split
  · exact h
  · rename_i c
    rw [List.nodup_append]
    refine ⟨h, List.nodup_cons.mpr ⟨List.not_mem_nil, List.nodup_nil⟩, fun a ha b hb e => ?_⟩
    rw [List.mem_singleton.mp hb] at e
    rw [e] at ha
    exact c (hasA_iff.mpr ha)
theorem stAdd_mem {f : Stg} {lw : List Nat × Way} {x : List Nat} : x ∈ (stAdd f lw).map Prod.fst ↔ x = lw.1 ∨ x ∈ f.map Prod.fst := by
  unfold stAdd
  split
  · rename_i h
    constructor
    · exact Or.inr
    · rintro (rfl | h2)
      · exact hasA_iff.mp h
      · exact h2
  · rw [List.map_append, List.mem_append]
    show _ ∨ x ∈ [lw.1] ↔ _
    rw [List.mem_singleton]; exact Or.comm
theorem stAdd_nodup {f : Stg} {lw : List Nat × Way} (h : (f.map Prod.fst).Nodup) : ((stAdd f lw).map Prod.fst).Nodup := by
  unfold stAdd
  split
  · exact h
  · rename_i c
    rw [List.map_append, List.nodup_append]
    refine ⟨h, List.nodup_cons.mpr ⟨List.not_mem_nil, List.nodup_nil⟩, fun a ha b hb e => ?_⟩
    rw [List.mem_singleton.mp hb] at e
    rw [e] at ha
    exact c (hasA_iff.mpr ha)
theorem fold_mem {α : Type} {F : Stg → α → Stg} {G : α → List Nat → Prop} (h : ∀ f a x, x ∈ (F f a).map Prod.fst ↔ G a x ∨ x ∈ f.map Prod.fst) : ∀ (l : List α) (f : Stg) (x : List Nat), x ∈ (l.foldl F f).map Prod.fst ↔ (∃ a ∈ l, G a x) ∨ x ∈ f.map Prod.fst
  | [], f, x => by simp
  | a :: r, f, x => by
    rw [List.foldl_cons, fold_mem h r, h]
    constructor
    · rintro (⟨b, hb, hg⟩ | hg | hx)
      · exact Or.inl ⟨b, List.mem_cons_of_mem _ hb, hg⟩
      · exact Or.inl ⟨a, List.mem_cons_self, hg⟩
      · exact Or.inr hx
    · rintro (⟨b, hb, hg⟩ | hx)
      · rcases List.mem_cons.mp hb with rfl | hb
        · exact Or.inr (Or.inl hg)
        · exact Or.inl ⟨b, hb, hg⟩
      · exact Or.inr (Or.inr hx)
theorem fold_keep {α : Type} {F : Stg → α → Stg} {P : Stg → Prop} (h : ∀ f a, P f → P (F f a)) : ∀ (l : List α) (f : Stg), P f → P (l.foldl F f)
  | [], _, p => p
  | a :: r, f, p => fold_keep h r _ (h f a p)
theorem wayOne_mem {wf : Nat → Bool → List (Nat × Nat)} {e : Nat} {l : Bool} {f : Stg} {lw : List Nat × Way} {x : List Nat} : x ∈ (wayOne wf e l f lw).map Prod.fst ↔ (∃ rd ∈ wf e l, x = ext lw.1 rd.1 rd.2) ∨ x ∈ f.map Prod.fst :=
  fold_mem (F := wayPut e lw) (G := fun (rd : Nat × Nat) x => x = ext lw.1 rd.1 rd.2) (fun _ _ _ => putA_mem) _ _ _
theorem wayCell_mem {wf : Nat → Bool → List (Nat × Nat)} {e : Nat} {l : Bool} {f : Stg} {x : List Nat} : x ∈ (wayCell wf e l f).map Prod.fst ↔ ∃ a ∈ f.map Prod.fst, ∃ rd ∈ wf e l, x = ext a rd.1 rd.2 := by
  unfold wayCell
  rw [fold_mem (G := fun lw x => ∃ rd ∈ wf e l, x = ext lw.1 rd.1 rd.2) (fun f a x => wayOne_mem)]
  constructor
  · rintro (⟨lw, h, r⟩ | h)
    · exact ⟨lw.1, List.mem_map.mpr ⟨lw, h, rfl⟩, r⟩
    · cases h
  · rintro ⟨a, ha, r⟩
    obtain ⟨lw, h, rfl⟩ := List.mem_map.mp ha
    exact Or.inl ⟨lw, h, r⟩
theorem waysGo_mem {wf : Nat → Bool → List (Nat × Nat)} : ∀ (row : List Nat) (ls : List Bool) (f : Stg) (acc : List (List Nat)), (∀ x, x ∈ f.map Prod.fst ↔ x ∈ acc) → ∀ x, x ∈ (waysGo wf row ls f).map Prod.fst ↔ x ∈ rowsGo wf row ls acc
  | [], _, _, _, h, x => h x
  | _ :: _, [], _, _, h, x => h x
  | e :: row, l :: ls, f, acc, h, x => by
    refine waysGo_mem row ls _ _ (fun y => ?_) x
    rw [wayCell_mem, List.mem_flatMap]
    constructor
    · rintro ⟨a, ha, rd, hrd, rfl⟩
      exact ⟨a, (h a).mp ha, List.mem_map.mpr ⟨rd, hrd, rfl⟩⟩
    · rintro ⟨a, ha, hy⟩
      obtain ⟨rd, hrd, rfl⟩ := List.mem_map.mp hy
      exact ⟨a, (h a).mpr ha, rd, hrd, rfl⟩
theorem waysFrom_mem {wf : Nat → Bool → List (Nat × Nat)} {row : List Nat} {ls : List Bool} {x : List Nat} : x ∈ (waysFrom wf row ls).map Prod.fst ↔ x ∈ rowsFrom wf row ls := waysGo_mem row ls _ _ (fun _ => Iff.rfl) x
theorem stAfter_mem {wf : Nat → Bool → List (Nat × Nat)} {rows : List (List Nat)} {ls : List Bool} {x : List Nat} : x ∈ (stAfter wf rows ls).map Prod.fst ↔ ∃ row ∈ rows, x ∈ rowsFrom wf row ls := by
  unfold stAfter
  rw [fold_mem (G := fun row x => x ∈ rowsFrom wf row ls) (fun f row x => ?_)]
  · simp
  · rw [fold_mem (G := fun lw x => x = lw.1) (fun _ _ _ => stAdd_mem), ← waysFrom_mem]
    constructor
    · rintro (⟨a, h, rfl⟩ | h)
      · exact Or.inl (List.mem_map.mpr ⟨a, h, rfl⟩)
      · exact Or.inr h
    · rintro (h | h)
      · obtain ⟨a, h2, h3⟩ := List.mem_map.mp h
        exact Or.inl ⟨a, h2, h3.symm⟩
      · exact Or.inr h
/-! ### few rows -/
def boxes : Nat → Nat → List (List Nat)
  | _, 0 => [[]]
  | n, k + 1 => (List.range (n + 1)).flatMap fun a => (boxes (n - a) k).map (a :: ·)
def cbox : Nat → Nat → Nat
  | _, 0 => 1
  | n, k + 1 => ((List.range (n + 1)).map fun a => cbox (n - a) k).sum
theorem boxes_mem : ∀ {k n : Nat} {x : List Nat}, x.length = k → x.sum ≤ n → x ∈ boxes n k
  | 0, _, [], _, _ => List.mem_singleton.mpr rfl
  | k + 1, n, a :: r, hl, hs => by
    rw [List.sum_cons] at hs
    exact List.mem_flatMap.mpr ⟨a, List.mem_range.mpr (by omega), List.mem_map.mpr ⟨r, boxes_mem (by simpa using hl) (by omega), rfl⟩⟩
theorem boxes_len : ∀ (k n : Nat), (boxes n k).length = cbox n k
  | 0, _ => rfl
  | k + 1, n => by
    unfold boxes cbox
    rw [List.length_flatMap]
    congr 1
    refine List.map_congr_left fun a _ => ?_
    rw [List.length_map, boxes_len k]
theorem cbox_le : ∀ (k n : Nat), cbox n k ≤ 2 ^ (n + k)
  | 0, n => Nat.two_pow_pos _
  | k + 1, n => by
    have key : ∀ m, m ≤ n + 1 → ((List.range m).map fun a => cbox (n - a) k).sum + 2 ^ (n + 1 - m + k) ≤ 2 ^ (n + 1 + k) := by
      intro m
      induction m with
      | zero => intro _; rw [List.range_zero, List.map_nil, List.sum_nil, Nat.sub_zero, Nat.zero_add]; exact Nat.le_refl _
      | succ m ih =>
        intro hm
        have h1 := ih (by omega)
        have h2 := cbox_le k (n - m)
        rw [List.range_succ, List.map_append, List.sum_append]
        simp only [List.map_cons, List.map_nil, List.sum_cons, List.sum_nil, Nat.add_zero]
        have e : n + 1 - m + k = (n - m + k) + 1 := by omega
        rw [e, Nat.pow_succ] at h1
        rw [show n + 1 - (m + 1) + k = n - m + k by omega]
        omega
    have := key (n + 1) (Nat.le_refl _)
    unfold cbox
    rw [show n + (k + 1) = n + 1 + k by omega]
    exact Nat.le_trans (Nat.le_add_right _ _) this
/-- distinct rows of one length, with few processes -/
structure Good (k : Nat) (f : Stg) : Prop where
  nd : (f.map Prod.fst).Nodup
  bx : ∀ x ∈ f.map Prod.fst, x.length = k ∧ x.sum ≤ 8
theorem rows_few {k : Nat} {l : List (List Nat)} (hk : k ≤ 10) (nd : l.Nodup) (h : ∀ x ∈ l, x.length = k ∧ x.sum ≤ 8) : l.length ≤ 262144 := by
  have := nd.length_le_of_subset (l₂ := boxes 8 k) fun x hx => boxes_mem (h x hx).1 (h x hx).2
  rw [boxes_len] at this
  exact Nat.le_trans this (Nat.le_trans (cbox_le k 8) (Nat.le_trans (Nat.pow_le_pow_right (by decide) (show 8 + k ≤ 18 by omega)) (by decide)))
theorem Good.few {k : Nat} {f : Stg} (h : Good k f) (hk : k ≤ 10) : f.length ≤ 262144 := by
  have := rows_few hk h.nd h.bx
  rwa [List.length_map] at this
theorem Good.put {k : Nat} {f : Stg} {x : List Nat} {v : Way} (h : Good k f) (h1 : x.length = k) (h2 : x.sum ≤ 8) : Good k (putA f x v) := ⟨putA_nodup h.nd, fun y hy => by
  rcases putA_mem.mp hy with rfl | hy
  · exact ⟨h1, h2⟩
  · exact h.bx y hy⟩
theorem Good.add {k : Nat} {f : Stg} {lw : List Nat × Way} (h : Good k f) (h1 : lw.1.length = k) (h2 : lw.1.sum ≤ 8) : Good k (stAdd f lw) := ⟨stAdd_nodup h.nd, fun y hy => by
  rcases stAdd_mem.mp hy with rfl | hy
  · exact ⟨h1, h2⟩
  · exact h.bx y hy⟩
theorem Good.nil (k : Nat) : Good k [] := ⟨List.nodup_nil, fun x h => absurd h List.not_mem_nil⟩
theorem ext_len {a : List Nat} {r d : Nat} (h : 0 < a.length) : (ext a r d).length = a.length + 1 := by
  unfold ext
  rw [List.length_append, List.length_dropLast]
  simp
  omega
theorem row_split {a : List Nat} (h : 0 < a.length) : a = a.dropLast ++ [a.getLastD 0] := by
  cases a with
  | nil => exact absurd h (Nat.lt_irrefl 0)
  | cons x r =>
    have := (List.dropLast_concat_getLast (List.cons_ne_nil x r)).symm
    rw [this]
    simp
theorem nv_split {a : List Nat} (h : 0 < a.length) : nv a = nv a.dropLast ++ [V.int (a.getLastD 0 : Nat)] := by
  have := congrArg nv (row_split h)
  rw [nv_app] at this
  exact this
theorem cut_last (xs : List V) (v : V) : cutV (xs ++ [v]) none (some (-1)) = xs := by
  unfold cutV HT.sIx
  simp
  rw [show (-1 + ((xs.length : Int) + 1)).toNat = xs.length by omega, List.take_left]
theorem ext_sum {a : List Nat} {r d : Nat} (h : 0 < a.length) : (ext a r d).sum = a.sum + r + d := by
  have e : a = a.dropLast ++ [a.getLastD 0] := by
    cases a with
    | nil => exact absurd h (Nat.lt_irrefl 0)
    | cons x r =>
      have := (List.dropLast_concat_getLast (List.cons_ne_nil x r)).symm
      rw [this]
      simp
  unfold ext
  rw [List.sum_append]
  have e2 : a.sum = a.dropLast.sum + a.getLastD 0 := by
    have := congrArg List.sum e
    rw [List.sum_append] at this
    simpa using this
  rw [e2]
  simp
  omega
theorem waysGo_snoc {wf : Nat → Bool → List (Nat × Nat)} {e : Nat} {l : Bool} : ∀ {row : List Nat} {ls : List Bool} {f : Stg}, row.length = ls.length → waysGo wf (row ++ [e]) (ls ++ [l]) f = wayCell wf e l (waysGo wf row ls f)
  | [], [], _, _ => rfl
  | x :: row, y :: ls, f, h => by
    show waysGo wf (row ++ [e]) (ls ++ [l]) (wayCell wf x y f) = wayCell wf e l (waysGo wf row ls (wayCell wf x y f))
    exact waysGo_snoc (by simpa using h)
theorem waysGo_nodup {wf : Nat → Bool → List (Nat × Nat)} : ∀ (row : List Nat) (ls : List Bool) (f : Stg), (f.map Prod.fst).Nodup → ((waysGo wf row ls f).map Prod.fst).Nodup
  | [], _, _, h => h
  | _ :: _, [], _, h => h
  | e :: row, l :: ls, f, h => by
    refine waysGo_nodup row ls _ ?_
    unfold wayCell
    refine fold_keep (P := fun f => (f.map Prod.fst).Nodup) (fun f a h => ?_) _ _ List.nodup_nil
    unfold wayOne
    exact fold_keep (P := fun f => (f.map Prod.fst).Nodup) (fun f a h => putA_nodup h) _ _ h
theorem ways_keys {wf : Nat → Bool → List (Nat × Nat)} (ok : WayOk wf) {row : List Nat} {ls : List Bool} (hl : row.length = ls.length) {x : List Nat} (h : x ∈ (waysFrom wf row ls).map Prod.fst) : x.length = row.length + 1 ∧ x.sum ≤ row.sum := by
  rw [waysFrom_mem, rows_mem hl] at h
  obtain ⟨c, hc, rfl⟩ := h
  rw [mg_len, mg_sum]
  have := hc.len.1
  have := Fits.sum ok hc
  omega
theorem good_ways {wf : Nat → Bool → List (Nat × Nat)} (ok : WayOk wf) {row : List Nat} {ls : List Bool} (hl : row.length = ls.length) (hs : row.sum ≤ 8) : Good (row.length + 1) (waysFrom wf row ls) := ⟨waysGo_nodup _ _ _ (List.nodup_cons.mpr ⟨List.not_mem_nil, List.nodup_nil⟩), fun x hx => by
  have := ways_keys ok hl hx
  omega⟩
theorem putA_all {P : Way → Prop} {f : Stg} {k : List Nat} {v : Way} (h : ∀ x ∈ f, P x.2) (hv : P v) : ∀ x ∈ putA f k v, P x.2 := by
  intro x hx
  unfold putA at hx
  split at hx
  · obtain ⟨y, hy, rfl⟩ := List.mem_map.mp hx
    split
    · exact hv
    · exact h y hy
  · rcases List.mem_append.mp hx with z | z
    · exact h x z
    · rw [List.mem_singleton.mp z]; exact hv
theorem wayOne_wlen {wf : Nat → Bool → List (Nat × Nat)} {e k : Nat} {l : Bool} {lw : List Nat × Way} (h2 : lw.2.length = k) {acc : Stg} (h : ∀ x ∈ acc, x.2.length = k + 1) : ∀ x ∈ wayOne wf e l acc lw, x.2.length = k + 1 := by
  unfold wayOne
  generalize wf e l = rs
  induction rs generalizing acc with
  | nil => exact h
  | cons rd rs ih =>
    rw [List.foldl_cons]
    refine ih ?_
    exact putA_all (P := fun w => w.length = k + 1) h (by rw [List.length_append, h2]; rfl)
theorem wayCell_wlen {wf : Nat → Bool → List (Nat × Nat)} {e k : Nat} {l : Bool} {f : Stg} (h : ∀ x ∈ f, x.2.length = k) : ∀ x ∈ wayCell wf e l f, x.2.length = k + 1 := by
  unfold wayCell
  have go : ∀ (f acc : Stg), (∀ x ∈ f, x.2.length = k) → (∀ x ∈ acc, x.2.length = k + 1) → ∀ x ∈ f.foldl (wayOne wf e l) acc, x.2.length = k + 1 := by
    intro f
    induction f with
    | nil => intro acc _ h; exact h
    | cons a r ih => intro acc h1 h2; exact ih _ (fun x hx => h1 x (List.mem_cons_of_mem _ hx)) (wayOne_wlen (h1 a List.mem_cons_self) h2)
  exact go f [] h fun x hx => absurd hx List.not_mem_nil
theorem waysGo_wlen {wf : Nat → Bool → List (Nat × Nat)} : ∀ (row : List Nat) (ls : List Bool) (f : Stg) (k : Nat), row.length = ls.length → (∀ x ∈ f, x.2.length = k) → ∀ x ∈ waysGo wf row ls f, x.2.length = k + row.length
  | [], [], _, _, _, h => h
  | e :: row, l :: ls, f, k, hl, h => by
    intro x hx
    have := waysGo_wlen row ls _ (k + 1) (by simpa using hl) (wayCell_wlen h) x hx
    rw [List.length_cons]
    omega
theorem waysFrom_wlen {wf : Nat → Bool → List (Nat × Nat)} {row : List Nat} {ls : List Bool} (hl : row.length = ls.length) : ∀ x ∈ waysFrom wf row ls, x.2.length = row.length := by
  intro x hx
  have := waysGo_wlen (wf := wf) row ls [([0], [])] 0 hl (fun x hx => by rw [List.mem_singleton.mp hx]; rfl) x hx
  omega
theorem take_snoc {α : Type} {l : List α} {i : Nat} {p : α} (h : l[i]? = some p) : l.take (i + 1) = l.take i ++ [p] := by rw [List.take_add_one, h]; rfl
theorem sum_take : ∀ (l : List Nat) (i : Nat), (l.take i).sum ≤ l.sum
  | [], i => by rw [List.take_nil]; exact Nat.le_refl _
  | a :: r, 0 => Nat.zero_le _
  | a :: r, i + 1 => by
    have := sum_take r i
    rw [List.take_succ_cons, List.sum_cons, List.sum_cons]
    omega
/-! ### the way back from the stages -/
structure RowOk (n t : Nat) (row : List Nat) : Prop where
  len : row.length = t + 1
  few : FewR n t row
/-- the rows in which they can come to diagonal t -/
def RowAt (wf : Nat → Bool → List (Nat × Nat)) (nm : Nat → Bool) (n : Nat) : Nat → List Nat → Prop
  | 0, row => row = [n]
  | t + 1, row => ∃ r0, RowAt wf nm n t r0 ∧ row ∈ rowsFrom wf r0 (lsAt nm t)
theorem lsAt_len (nm : Nat → Bool) (t : Nat) : (lsAt nm t).length = t + 1 := by unfold lsAt; rw [List.length_map, List.length_range]
theorem RowAt.ok {wf : Nat → Bool → List (Nat × Nat)} (w : WayOk wf) {nm : Nat → Bool} {n : Nat} : ∀ {t : Nat} {row : List Nat}, RowAt wf nm n t row → RowOk n t row ∧ row.sum ≤ n
  | 0, row, h => by
    have h : row = [n] := h
    subst h
    exact ⟨⟨rfl, few_first n⟩, by simp⟩
  | t + 1, row, ⟨r0, h, hr⟩ => by
    obtain ⟨⟨l0, f0⟩, s0⟩ := RowAt.ok w h
    rw [rows_mem (by rw [l0, lsAt_len])] at hr
    obtain ⟨c, hc, rfl⟩ := hr
    refine ⟨⟨by rw [mg_len, hc.len.1, l0], few_row w f0 hc⟩, ?_⟩
    rw [mg_sum]
    have := Fits.sum w hc
    omega
theorem RowAt.total {nm : Nat → Bool} {n : Nat} : ∀ {t : Nat} {row : List Nat}, RowAt ways nm n t row → row.sum + ((List.range t).map fun k => nls (lsAt nm k)).sum = n
  | 0, row, h => by
    have h : row = [n] := h
    subst h
    simp
  | t + 1, row, ⟨r0, h, hr⟩ => by
    have := RowAt.total h
    obtain ⟨⟨l0, _⟩, _⟩ := RowAt.ok ways_ok h
    rw [rows_mem (by rw [l0, lsAt_len])] at hr
    obtain ⟨c, hc, rfl⟩ := hr
    have ht := hc.total
    rw [mg_sum, List.range_succ, List.map_append, List.sum_append]
    simp only [List.map_cons, List.map_nil, List.sum_cons, List.sum_nil]
    omega
/-- where it is stuck -/
def IsStuck (nm : Nat → Bool) (n : Nat) : Option Nat → Prop
  | some t => t < n ∧ (∀ k, k ≤ t → ∃ row, RowAt ways nm n k row) ∧ ¬ ∃ row, RowAt ways nm n (t + 1) row
  | none => ∀ k, k ≤ n → ∃ row, RowAt ways nm n k row
theorem IsStuck.inj {nm : Nat → Bool} {n : Nat} : ∀ {a b : Option Nat}, IsStuck nm n a → IsStuck nm n b → a = b
  | some s, some t, ⟨_, h1, h2⟩, ⟨_, h3, h4⟩ => by
    rcases Nat.lt_trichotomy s t with c | c | c
    · exact absurd (h3 (s + 1) (by omega)) h2
    · rw [c]
    · exact absurd (h1 (t + 1) (by omega)) h4
  | some s, none, ⟨l, _, h2⟩, h => absurd (h (s + 1) (by omega)) h2
  | none, some s, h, ⟨l, _, h2⟩ => absurd (h (s + 1) (by omega)) h2
  | none, none, _, _ => rfl
def stkIn (ss : List Stg) : Option Nat := if ss.getLast? = some [] then some (ss.length - 1) else none
theorem stAfter_at {wf : Nat → Bool → List (Nat × Nat)} {nm : Nat → Bool} {n t : Nat} {rows : List (List Nat)} (h : ∀ x, x ∈ rows ↔ RowAt wf nm n t x) (x : List Nat) : x ∈ (stAfter wf rows (lsAt nm t)).map Prod.fst ↔ RowAt wf nm n (t + 1) x := by
  rw [stAfter_mem]
  constructor
  · rintro ⟨r, hr, hx⟩; exact ⟨r, (h r).mp hr, hx⟩
  · rintro ⟨r, hr, hx⟩; exact ⟨r, (h r).mpr hr, hx⟩
theorem stagesGo_spec {wf : Nat → Bool → List (Nat × Nat)} {nm : Nat → Bool} {n : Nat} : ∀ (k t : Nat) (rows : List (List Nat)), (∀ x, x ∈ rows ↔ RowAt wf nm n t x) → (∃ row, RowAt wf nm n t row) →
    (∃ j, j < k + 1 ∧ (stagesGo wf nm (k + 1) t rows).length = j + 1 ∧ (stagesGo wf nm (k + 1) t rows).getLast? = some [] ∧ (∀ i, i ≤ j → ∃ row, RowAt wf nm n (t + i) row) ∧ ¬ ∃ row, RowAt wf nm n (t + j + 1) row) ∨
    ((stagesGo wf nm (k + 1) t rows).length = k + 1 ∧ (stagesGo wf nm (k + 1) t rows).getLast? ≠ some [] ∧ ∀ i, i ≤ k + 1 → ∃ row, RowAt wf nm n (t + i) row)
  | k, t, rows, h, h0 => by
    have hs := stAfter_at h
    unfold stagesGo
    by_cases c : stAfter wf rows (lsAt nm t) = []
    · refine Or.inl ⟨0, by omega, by rw [if_pos c]; rfl, by rw [if_pos c, c]; rfl, fun i hi => by rw [show i = 0 by omega]; exact h0, ?_⟩
      rintro ⟨row, hr⟩
      have := (hs row).mpr hr
      rw [c] at this
      cases this
    · rw [if_neg c]
      have h1 : ∃ row, RowAt wf nm n (t + 1) row := by
        cases e : stAfter wf rows (lsAt nm t) with
        | nil => exact absurd e c
        | cons x r => exact ⟨x.1, (hs x.1).mp (by rw [e]; exact List.mem_cons_self)⟩
      cases k with
      | zero =>
        refine Or.inr ⟨rfl, ?_, fun i hi => ?_⟩
        · intro z
          exact c (Option.some.inj z)
        · rcases Nat.lt_or_ge i 1 with z | z
          · rw [show i = 0 by omega]; exact h0
          · rw [show i = 1 by omega]; exact h1
      | succ k =>
        have ih := stagesGo_spec k (t + 1) _ hs h1
        have ne : stagesGo wf nm (k + 1) (t + 1) ((stAfter wf rows (lsAt nm t)).map Prod.fst) ≠ [] := by
          rcases ih with ⟨j, _, l, _⟩ | ⟨l, _⟩ <;> (intro z; rw [z] at l; cases l)
        rcases ih with ⟨j, hj, l, g, a, b⟩ | ⟨l, g, a⟩
        · refine Or.inl ⟨j + 1, by omega, by rw [List.length_cons, l], by rw [List.getLast?_cons_of_ne_nil ne]; exact g, fun i hi => ?_, by rw [show t + (j + 1) + 1 = t + 1 + j + 1 by omega]; exact b⟩
          cases i with
          | zero => exact h0
          | succ i => rw [show t + (i + 1) = t + 1 + i by omega]; exact a i (by omega)
        · refine Or.inr ⟨by rw [List.length_cons, l], by rw [List.getLast?_cons_of_ne_nil ne]; exact g, fun i hi => ?_⟩
          cases i with
          | zero => exact h0
          | succ i => rw [show t + (i + 1) = t + 1 + i by omega]; exact a i (by omega)
theorem stk_isStuck {nm : Nat → Bool} {n : Nat} (hn : 0 < n) : IsStuck nm n (stkIn (stagesOf ways nm n)) := by
  obtain ⟨m, rfl⟩ : ∃ m, n = m + 1 := ⟨n - 1, by omega⟩
  unfold stagesOf stkIn
  rcases stagesGo_spec (wf := ways) (nm := nm) (n := m + 1) m 0 [[m + 1]] (fun x => by rw [List.mem_singleton]; exact Iff.rfl) ⟨_, rfl⟩ with ⟨j, hj, l, g, a, b⟩ | ⟨l, g, a⟩
  · rw [if_pos g, l]
    refine ⟨by omega, fun k hk => ?_, ?_⟩
    · have := a k (by omega)
      rwa [Nat.zero_add] at this
    · rw [Nat.zero_add] at b
      exact b
  · rw [if_neg g]
    intro k hk
    have := a k hk
    rwa [Nat.zero_add] at this
/-! ### all names behind -/
def tri (t : Nat) : Nat := t * (t + 1) / 2
theorem tri_succ (t : Nat) : tri (t + 1) = tri t + (t + 1) := by
  unfold tri
  have e : (t + 1) * (t + 1 + 1) = t * (t + 1) + 2 * (t + 1) := by rw [Nat.mul_comm (t + 1), ← Nat.add_mul]
  rw [e, Nat.add_mul_div_left _ _ (by decide)]
theorem lsAt_count (nm : Nat → Bool) : ∀ T, ((List.range T).map fun k => nls (lsAt nm k)).sum = (List.range (tri T)).countP nm
  | 0 => rfl
  | T + 1 => by
    rw [List.range_succ, List.map_append, List.sum_append, lsAt_count nm T, tri_succ, List.range_add, List.countP_append]
    simp only [List.map_cons, List.map_nil, List.sum_cons, List.sum_nil, Nat.add_zero]
    unfold nls lsAt
    rw [List.countP_map, List.countP_map]
    congr 1
    refine List.countP_congr fun x _ => ?_
    show decide (nm (T * (T + 1) / 2 + x) = true) = true ↔ nm (tri T + x) = true
    rw [decide_eq_true_iff]
    exact Iff.rfl
theorem names_in {names : List Nat} (nd : names.Nodup) (N : Nat) : (List.range N).countP (fun x => decide (x ∈ names)) = (names.filter fun x => decide (x < N)).length := by
  rw [List.countP_eq_length_filter]
  apply Nat.le_antisymm
  · refine List.Nodup.length_le_of_subset (List.Pairwise.filter _ List.nodup_range) fun x hx => ?_
    rw [List.mem_filter] at hx ⊢
    exact ⟨of_decide_eq_true hx.2, decide_eq_true (List.mem_range.mp hx.1)⟩
  · refine List.Nodup.length_le_of_subset (List.Pairwise.filter _ nd) fun x hx => ?_
    rw [List.mem_filter] at hx ⊢
    exact ⟨List.mem_range.mpr (of_decide_eq_true hx.2), decide_eq_true hx.1⟩
theorem lsAt_mem {nm : Nat → Bool} {t : Nat} {l : Bool} (h : l ∈ lsAt nm t) : ∃ i, i ≤ t ∧ l = nm (tri t + i) := by
  obtain ⟨i, hi, rfl⟩ := List.mem_map.mp h
  exact ⟨i, by have := List.mem_range.mp hi; omega, rfl⟩
theorem tri_mono {s t : Nat} (h : s ≤ t) : tri s ≤ tri t := by
  induction t with
  | zero => rw [Nat.le_zero.mp h]; exact Nat.le_refl _
  | succ t ih =>
    rcases Nat.lt_or_ge s (t + 1) with c | c
    · exact Nat.le_trans (ih (by omega)) (by rw [tri_succ]; omega)
    · rw [show s = t + 1 by omega]; exact Nat.le_refl _
/-- nobody on the way: no name lies further on -/
theorem none_after {names : List Nat} (nd : names.Nodup) {T : Nat} {row : List Nat} (h : RowAt ways (fun x => decide (x ∈ names)) names.length T row) (h0 : row.sum = 0) {t : Nat} (ht : T ≤ t) : ∀ l ∈ lsAt (fun x => decide (x ∈ names)) t, l = false := by
  have tot := h.total
  rw [h0, lsAt_count, names_in nd, Nat.zero_add] at tot
  have all := List.length_filter_eq_length_iff.mp tot
  intro l hl
  obtain ⟨i, hi, rfl⟩ := lsAt_mem hl
  rw [decide_eq_false_iff_not]
  intro hm
  have h1 := of_decide_eq_true (all _ hm)
  have := tri_mono ht
  omega
theorem fits_zero : ∀ (row : List Nat) (ls : List Bool), row.length = ls.length → row.sum = 0 → (∀ l ∈ ls, l = false) → ∃ c, Fits ways row ls c
  | [], [], _, _, _ => ⟨[], trivial⟩
  | e :: row, l :: ls, hl, hs, h => by
    rw [List.sum_cons] at hs
    obtain ⟨c, hc⟩ := fits_zero row ls (by simpa using hl) (by omega) fun x hx => h x (List.mem_cons_of_mem _ hx)
    refine ⟨(0, 0) :: c, ?_, hc⟩
    rw [ways_mem]
    exact Or.inr ⟨h l List.mem_cons_self, by omega, Or.inl (by omega)⟩
theorem stuck_none {names : List Nat} (nd : names.Nodup) {T : Nat} (hT : ∀ k, k ≤ T → ∃ row, RowAt ways (fun x => decide (x ∈ names)) names.length k row) {row : List Nat} (h : RowAt ways (fun x => decide (x ∈ names)) names.length T row) (h0 : row.sum = 0) : IsStuck (fun x => decide (x ∈ names)) names.length none := by
  have go : ∀ k, ∃ row, RowAt ways (fun x => decide (x ∈ names)) names.length (T + k) row ∧ row.sum = 0 := by
    intro k
    induction k with
    | zero => exact ⟨row, h, h0⟩
    | succ k ih =>
      obtain ⟨r, hr, hs⟩ := ih
      obtain ⟨⟨l0, _⟩, _⟩ := RowAt.ok ways_ok hr
      have hl : r.length = (lsAt (fun x => decide (x ∈ names)) (T + k)).length := by rw [l0, lsAt_len]
      obtain ⟨c, hc⟩ := fits_zero r _ hl hs (none_after nd h h0 (Nat.le_add_right T k))
      refine ⟨mg 0 c, ⟨r, hr, (rows_mem hl).mpr ⟨c, hc, rfl⟩⟩, ?_⟩
      rw [mg_sum]
      have := hc.total
      omega
  intro k hk
  rcases Nat.lt_or_ge T k with c | c
  · obtain ⟨r, hr, _⟩ := go (k - T)
    rw [show T + (k - T) = k by omega] at hr
    exact ⟨r, hr⟩
  · exact hT k c
theorem stuck_some {nm : Nat → Bool} {n t : Nat} (hT : ∀ k, k ≤ t → ∃ row, RowAt ways nm n k row) {row : List Nat} (h : RowAt ways nm n t row) (h0 : 0 < row.sum) (he : ¬ ∃ row, RowAt ways nm n (t + 1) row) : IsStuck nm n (some t) := by
  refine ⟨?_, hT, he⟩
  apply Classical.byContradiction
  intro c
  have := zero_row (RowAt.ok ways_ok h).1.few (by omega)
  omega
/-! ### rows in the heap -/
def rk (row : List Nat) : List Key := row.map fun (n : Nat) => .inl (n : Int)
theorem rk_kV (row : List Nat) : (rk row).map kV = nv row := by
  unfold rk nv
  rw [List.map_map]
  exact List.map_congr_left fun x _ => rfl
theorem rk_inj : ∀ {a b : List Nat}, rk a = rk b → a = b
  | [], [], _ => rfl
  | x :: a, y :: b, h => by
    injection h with h1 h2
    have h1 := Sum.inl.inj h1
    rw [rk_inj h2, show x = y by omega]
  | [], _ :: _, h => by cases h
  | _ :: _, [], h => by cases h
def PrAt (B : Hp) (c : Addr) (x : Nat × Nat) : Prop := B c = some (.tup [.int x.1, .int x.2])
def TriAt (B : Hp) (c : Addr) (x : Nat × Nat × Nat) : Prop := B c = some (.tup [.int x.1, .int x.2.1, .int x.2.2])
def WayAt (B : Hp) (v : V) (way : Way) : Prop := ∃ q cs, v = .ref q ∧ B q = some (.tup (cs.map V.ref)) ∧ Paired (TriAt B) cs way
def StgAt (B : Hp) (kvs : List (List Key × V)) (f : Stg) : Prop := Paired (fun kv lw => kv.1 = rk lw.1 ∧ WayAt B kv.2 lw.2) kvs f
def RowsAt (B : Hp) (as : List Addr) (rows : List (List Nat)) : Prop := Paired (fun a row => B a = some (.tup (nv row))) as rows
theorem WayAt.mono {B B' : Hp} (s : Same B B') {v : V} {way : Way} (h : WayAt B v way) : WayAt B' v way := by
  obtain ⟨q, cs, e, hq, hp⟩ := h
  exact ⟨q, cs, e, s _ _ hq, Paired.mapP hp fun _ _ z => s _ _ z⟩
theorem StgAt.mono {B B' : Hp} (s : Same B B') {kvs : List (List Key × V)} {f : Stg} (h : StgAt B kvs f) : StgAt B' kvs f := Paired.mapP h fun _ _ z => ⟨z.1, z.2.mono s⟩
theorem RowsAt.mono {B B' : Hp} (s : Same B B') {as : List Addr} {rows : List (List Nat)} (h : RowsAt B as rows) : RowsAt B' as rows := Paired.mapP h fun _ _ z => s _ _ z
/-- tuples that stand go over -/
def Tks (B B' : Hp) : Prop := ∀ q xs, B q = some (.tup xs) → B' q = some (.tup xs)
theorem WayAt.via {B B' : Hp} (s : Tks B B') {v : V} {way : Way} (h : WayAt B v way) : WayAt B' v way := by
  obtain ⟨q, cs, e, hq, hp⟩ := h
  exact ⟨q, cs, e, s _ _ hq, Paired.mapP hp fun _ _ z => s _ _ z⟩
theorem StgAt.via {B B' : Hp} (s : Tks B B') {kvs : List (List Key × V)} {f : Stg} (h : StgAt B kvs f) : StgAt B' kvs f := Paired.mapP h fun _ _ z => ⟨z.1, z.2.via s⟩
theorem RowsAt.via {B B' : Hp} (s : Tks B B') {as : List Addr} {rows : List (List Nat)} (h : RowsAt B as rows) : RowsAt B' as rows := Paired.mapP h fun _ _ z => s _ _ z
theorem tks_of {B B' : Hp} {l : List (Addr × HO)} (k : ∀ q o, B q = some o → (∀ e ∈ l, e.2 ≠ o) → B' q = some o) (hl : ∀ e ∈ l, ∀ ys, e.2 ≠ .tup ys) : Tks B B' := fun q xs h => k q _ h fun e he => hl e he xs
theorem StgAt.has {B : Hp} (k : List Nat) : ∀ {kvs : List (List Key × V)} {f : Stg}, StgAt B kvs f → (kvs.any fun kv => decide (kv.1 = rk k)) = hasA f k
  | _, _, .nil => rfl
  | _, _, .cons (a := kv) (b := lw) h r => by
    unfold hasA
    rw [List.any_cons, List.any_cons]
    have ih := StgAt.has k r
    unfold hasA at ih
    rw [ih]
    congr 1
    rw [h.1]
    exact decide_eq_decide.mpr ⟨rk_inj, fun z => by rw [z]⟩
theorem StgAt.put {B : Hp} {k : List Nat} {v : V} {way : Way} (hv : WayAt B v way) {kvs : List (List Key × V)} {f : Stg} (h : StgAt B kvs f) : StgAt B (putK kvs (rk k) v) (putA f k way) := by
  unfold putK putA
  rw [← h.has k]
  split
  · have : ∀ {kvs : List (List Key × V)} {f : Stg}, StgAt B kvs f → StgAt B (kvs.map fun kv => if kv.1 = rk k then (kv.1, v) else kv) (f.map fun lw => if lw.1 = k then (lw.1, way) else lw) := by
      intro kvs f h
      unfold StgAt at h
      induction h with
      | nil => exact .nil
      | @cons kv lw _ _ h1 _ ih =>
        rw [List.map_cons, List.map_cons]
        refine .cons ?_ ih
        by_cases c : lw.1 = k
        · rw [if_pos c, if_pos (by rw [h1.1, c])]
          exact ⟨h1.1, hv⟩
        · rw [if_neg c, if_neg (fun z => c (rk_inj (by rw [← h1.1, z])))]
          exact h1
    exact this h
  · exact Paired.snoc h ⟨rfl, hv⟩
theorem StgAt.valV {B : Hp} {k : List Nat} {kvs : List (List Key × V)} {f : Stg} (h : StgAt B kvs f) : (valV kvs (rk k)).isSome = hasA f k := by rw [← valV_any, h.has k]
theorem StgAt.len {B : Hp} {kvs : List (List Key × V)} {f : Stg} (h : StgAt B kvs f) : kvs.length = f.length := Paired.length h
theorem size_few {n : Nat} (h : n ≤ 262144) : n < sizeLine := Nat.lt_of_le_of_lt h (by decide)
/-! ### processes sent on, diagonal by diagonal -/
theorem mg_snoc (c : List (Nat × Nat)) (r d : Nat) : mg 0 (c ++ [(r, d)]) = ext (mg 0 c) r d := by
  have h1 := fold_ext (c ++ [(r, d)]) [] 0
  have h2 := fold_ext c [] 0
  rw [List.foldl_append, h2, List.nil_append, List.nil_append] at h1
  exact h1.symm
theorem Fits.snoc {wf : Nat → Bool → List (Nat × Nat)} {e : Nat} {l : Bool} {rd : Nat × Nat} : ∀ {row : List Nat} {ls : List Bool} {c : List (Nat × Nat)}, Fits wf row ls c → rd ∈ wf e l → Fits wf (row ++ [e]) (ls ++ [l]) (c ++ [rd])
  | [], [], [], _, h => ⟨h, trivial⟩
  | _ :: _, _ :: _, _ :: _, h, h2 => ⟨h.1, Fits.snoc h.2 h2⟩
  | [], [], _ :: _, h, _ => h.elim
  | [], _ :: _, _, h, _ => h.elim
  | _ :: _, [], _, h, _ => h.elim
  | _ :: _, _ :: _, [], h, _ => h.elim
/-- the listed cells, the first one numbered f -/
def lstd : Nat → List Bool → List Nat
  | _, [] => []
  | f, b :: r => if b = true then f :: lstd (f + 1) r else lstd (f + 1) r
theorem lstd_snoc : ∀ (ls : List Bool) (f : Nat) (b : Bool), lstd f (ls ++ [b]) = lstd f ls ++ (if b = true then [f + ls.length] else [])
  | [], f, b => by
    cases b <;> rfl
  | x :: r, f, b => by
    show (if x = true then f :: lstd (f + 1) (r ++ [b]) else lstd (f + 1) (r ++ [b])) = (if x = true then f :: lstd (f + 1) r else lstd (f + 1) r) ++ _
    rw [lstd_snoc r (f + 1) b, List.length_cons, show f + 1 + r.length = f + (r.length + 1) by omega]
    cases x <;> rfl
theorem lstd_mem : ∀ {ls : List Bool} {f x : Nat}, x ∈ lstd f ls ↔ f ≤ x ∧ ls[x - f]? = some true
  | [], f, x => by
    constructor
    · intro h; cases h
    · rintro ⟨_, h⟩; cases h
  | b :: r, f, x => by
    have ih := lstd_mem (ls := r) (f := f + 1) (x := x)
    rcases Nat.lt_trichotomy x f with c | c | c
    · constructor
      · intro h
        have : x ∈ f :: lstd (f + 1) r := by
          unfold lstd at h
          split at h
          · exact h
          · exact List.mem_cons_of_mem _ h
        rcases List.mem_cons.mp this with z | z
        · omega
        · have := (ih.mp z).1; omega
      · rintro ⟨h, _⟩; omega
    · subst c
      have hn : x ∉ lstd (x + 1) r := fun z => by have := (ih.mp z).1; omega
      unfold lstd
      rw [Nat.sub_self]
      cases b with
      | true => exact ⟨fun _ => ⟨Nat.le_refl _, rfl⟩, fun _ => by rw [if_pos rfl]; exact List.mem_cons_self⟩
      | false =>
        rw [if_neg Bool.false_ne_true]
        exact ⟨fun z => (hn z).elim, fun z => by cases z.2⟩
    · have e : x - f = (x - (f + 1)) + 1 := by omega
      rw [e, List.getElem?_cons_succ]
      have : x ∈ lstd f (b :: r) ↔ x ∈ lstd (f + 1) r := by
        show x ∈ (if b = true then f :: lstd (f + 1) r else lstd (f + 1) r) ↔ _
        split
        · rw [List.mem_cons]
          constructor
          · rintro (z | z)
            · omega
            · exact z
          · exact Or.inr
        · exact Iff.rfl
      rw [this, ih]
      constructor
      · rintro ⟨_, h⟩; exact ⟨by omega, h⟩
      · rintro ⟨_, h⟩; exact ⟨by omega, h⟩
theorem lstd_asc : ∀ (ls : List Bool) (f : Nat), (lstd f ls).Pairwise (· < ·)
  | [], _ => List.Pairwise.nil
  | b :: r, f => by
    show (if b = true then f :: lstd (f + 1) r else lstd (f + 1) r).Pairwise (· < ·)
    split
    · exact List.pairwise_cons.mpr ⟨fun x hx => by have := (lstd_mem.mp hx).1; omega, lstd_asc r (f + 1)⟩
    · exact lstd_asc r (f + 1)
theorem lstd_len : ∀ (ls : List Bool) (f : Nat), (lstd f ls).length = nls ls
  | [], _ => rfl
  | b :: r, f => by
    have ih := lstd_len r (f + 1)
    show (if b = true then f :: lstd (f + 1) r else lstd (f + 1) r).length = _
    unfold nls at ih ⊢
    rw [List.countP_cons]
    cases b with
    | true => rw [if_pos rfl, List.length_cons, ih]; simp
    | false => rw [if_neg Bool.false_ne_true, ih]; simp
def nmOf (names : List Nat) : Nat → Bool := fun x => decide (x ∈ names)
theorem RowAt.congr {nm nm' : Nat → Bool} {n : Nat} : ∀ {t : Nat} {row : List Nat}, (∀ x, x < tri t → nm x = nm' x) → RowAt ways nm n t row → RowAt ways nm' n t row
  | 0, _, _, h => h
  | t + 1, row, e, ⟨r0, h, hr⟩ => by
    refine ⟨r0, RowAt.congr (fun x hx => e x (by rw [tri_succ]; omega)) h, ?_⟩
    have : lsAt nm' t = lsAt nm t := List.map_congr_left fun i hi => by
      have := List.mem_range.mp hi
      have e2 := tri_succ t
      exact (e _ (by show t * (t + 1) / 2 + i < tri (t + 1); rw [e2]; show tri t + i < _; omega)).symm
    rw [this]
    exact hr
/-- sent to diagonal t: in which row they are, and which names they have -/
structure Sent (n t : Nat) (ms row : List Nat) : Prop where
  here : RowAt ways (nmOf ms) n t row
  asc : ms.Pairwise (· < ·)
  lt : ∀ x ∈ ms, x < tri t
  tot : row.sum + ms.length = n
theorem Sent.first (n : Nat) : Sent n 0 [] [n] := ⟨rfl, List.Pairwise.nil, fun x hx => absurd hx List.not_mem_nil, by simp⟩
theorem Sent.next {n t : Nat} {ms row : List Nat} {ls : List Bool} {c : List (Nat × Nat)} (h : Sent n t ms row) (hf : Fits ways row ls c) : Sent n (t + 1) (ms ++ lstd (tri t) ls) (mg 0 c) := by
  obtain ⟨⟨hl, _⟩, _⟩ := RowAt.ok ways_ok h.here
  have hc := hf.len
  have old : ∀ x, x < tri t → nmOf ms x = nmOf (ms ++ lstd (tri t) ls) x := fun x hx => by
    unfold nmOf
    refine decide_eq_decide.mpr ⟨fun z => List.mem_append_left _ z, fun z => ?_⟩
    rcases List.mem_append.mp z with z | z
    · exact z
    · have := (lstd_mem.mp z).1; omega
  have els : lsAt (nmOf (ms ++ lstd (tri t) ls)) t = ls := by
    refine List.ext_getElem? fun i => ?_
    unfold lsAt
    rw [List.getElem?_map]
    rcases Nat.lt_or_ge i (t + 1) with z | z
    · rw [List.getElem?_range z]
      obtain ⟨b, hb⟩ : ∃ b, ls[i]? = some b := ⟨_, List.getElem?_eq_getElem (by omega)⟩
      rw [hb]
      show some (nmOf _ (tri t + i)) = _
      congr 1
      unfold nmOf
      have : tri t + i ∈ ms ++ lstd (tri t) ls ↔ b = true := by
        rw [List.mem_append, lstd_mem, show tri t + i - tri t = i by omega, hb]
        constructor
        · rintro (w | ⟨_, w⟩)
          · have := h.lt _ w; omega
          · exact Option.some.inj w
        · intro w; exact Or.inr ⟨by omega, by rw [w]⟩
      cases b with
      | true => exact decide_eq_true (this.mpr rfl)
      | false => exact decide_eq_false fun w => Bool.false_ne_true (this.mp w)
    · rw [List.getElem?_eq_none (by rw [List.length_range]; omega), List.getElem?_eq_none (by omega)]
      rfl
  refine ⟨⟨row, RowAt.congr old h.here, ?_⟩, ?_, fun x hx => ?_, ?_⟩
  · rw [els]
    exact (rows_mem (by omega)).mpr ⟨c, hf, rfl⟩
  · refine List.pairwise_append.mpr ⟨h.asc, lstd_asc _ _, fun a ha b hb => ?_⟩
    have := h.lt a ha
    have := (lstd_mem.mp hb).1
    omega
  · rw [tri_succ]
    rcases List.mem_append.mp hx with z | z
    · have := h.lt x z; omega
    · obtain ⟨z1, z2⟩ := lstd_mem.mp z
      have := (List.getElem?_eq_some_iff.mp z2).1
      omega
  · have h1 := hf.total
    have h2 := h.tot
    rw [mg_sum, List.length_append, lstd_len]
    omega
/-- a possible name list, as it is sent -/
structure Poss (n : Nat) (ms : List Nat) : Prop where
  asc : ms.Pairwise (· < ·)
  len : ms.length = n
  lt : ∀ x ∈ ms, x < tri n
  ok : IsStuck (nmOf ms) n none
theorem RowAt.prev {nm : Nat → Bool} {n : Nat} : ∀ {t : Nat} {row : List Nat}, RowAt ways nm n t row → ∀ k, k ≤ t → ∃ r, RowAt ways nm n k r
  | 0, row, h, k, hk => ⟨row, by rw [Nat.le_zero.mp hk]; exact h⟩
  | t + 1, row, h, k, hk => by
    rcases Nat.lt_or_ge k (t + 1) with c | c
    · obtain ⟨r0, h0, _⟩ := h
      exact RowAt.prev h0 k (by omega)
    · exact ⟨row, by rw [show k = t + 1 by omega]; exact h⟩
theorem Sent.done {n t : Nat} {ms row : List Nat} (h : Sent n t ms row) (ht : t ≤ n) (h0 : row.sum = 0) : Poss n ms := by
  have e := h.tot
  have e : ms.length = n := by omega
  refine ⟨h.asc, e, fun x hx => Nat.lt_of_lt_of_le (h.lt x hx) (tri_mono ht), ?_⟩
  have nd : ms.Nodup := h.asc.imp fun z => Nat.ne_of_lt z
  have hh := h.here
  rw [← e] at hh ⊢
  exact stuck_none nd (RowAt.prev hh) hh h0
theorem Sent.more {n t : Nat} {ms row : List Nat} (h : Sent n t ms row) (h0 : 0 < row.sum) : t < n := by
  obtain ⟨⟨_, f⟩, _⟩ := RowAt.ok ways_ok h.here
  rcases Nat.lt_or_ge t n with c | c
  · exact c
  · have := zero_row f c; omega
theorem set_fst (k x : Nat) (Y : List Nat) : ∀ A : List Nat, (A ++ k :: Y).set A.length x = A ++ x :: Y
  | [] => rfl
  | a :: A => by
    show a :: (A ++ k :: Y).set A.length x = _
    rw [set_fst k x Y A]; rfl
theorem set_snd (k x y : Nat) (Y : List Nat) : ∀ A : List Nat, (A ++ k :: y :: Y).set (A.length + 1) x = A ++ k :: x :: Y
  | [] => rfl
  | a :: A => by
    show a :: (A ++ k :: y :: Y).set (A.length + 1) x = _
    rw [set_snd k x y Y A]; rfl
/-- the next row while its cells are gone through: done so far, zeros behind -/
theorem later_step {c : List (Nat × Nat)} {i t r d : Nat} (hc : c.length = i) (hi : i ≤ t) :
    ∃ (k : Nat), (mg 0 c ++ List.replicate (t + 1 - i) 0)[i + 1]? = some 0 ∧ ((mg 0 c ++ List.replicate (t + 1 - i) 0).set (i + 1) r)[i]? = some k ∧
      ((mg 0 c ++ List.replicate (t + 1 - i) 0).set (i + 1) r).set i (k + d) = mg 0 (c ++ [(r, d)]) ++ List.replicate (t + 1 - (i + 1)) 0 := by
  have hl := mg_len c 0
  have hs := row_split (a := mg 0 c) (by omega)
  have hA : (mg 0 c).dropLast.length = i := by rw [List.length_dropLast]; omega
  rw [mg_snoc]
  unfold ext
  obtain ⟨m, hm⟩ : ∃ m, t + 1 - i = m + 1 := ⟨t - i, by omega⟩
  rw [show t + 1 - (i + 1) = m by omega, hm, List.replicate_succ]
  generalize (mg 0 c).dropLast = A at *
  generalize (mg 0 c).getLastD 0 = k at *
  rw [hs]
  have e : (A ++ [k] ++ 0 :: List.replicate m 0) = A ++ k :: 0 :: List.replicate m 0 := by rw [List.append_assoc]; rfl
  rw [e, ← hA, set_snd]
  refine ⟨k, ?_, ?_, ?_⟩
  · rw [List.getElem?_append_right (by omega), show A.length + 1 - A.length = 1 by omega]; rfl
  · rw [List.getElem?_append_right (by omega), Nat.sub_self]; rfl
  · rw [set_fst, List.append_assoc]; rfl
def StsAt (B : Hp) (ds : List Addr) (ss : List Stg) : Prop := Paired (fun a f => ∃ kvs, B a = some (.dT kvs) ∧ StgAt B kvs f) ds ss
theorem StsAt.mono {B B' : Hp} (s : Same B B') {ds : List Addr} {ss : List Stg} (h : StsAt B ds ss) : StsAt B' ds ss := Paired.mapP h fun _ _ ⟨kvs, h1, h2⟩ => ⟨kvs, s _ _ h1, h2.mono s⟩
theorem sum_cast : ∀ l : List Nat, (l.map fun (p : Nat) => (p : Int)).sum = (l.sum : Int)
  | [] => rfl
  | a :: r => by rw [List.map_cons, List.sum_cons, List.sum_cons, sum_cast r]; omega
theorem nats_of : ∀ {ns : List Int}, (∀ x ∈ ns, 0 ≤ x) → ns.map V.int = nv (ns.map Int.toNat)
  | [], _ => rfl
  | a :: r, h => by
    have h1 := h a List.mem_cons_self
    rw [List.map_cons, List.map_cons, nats_of fun x hx => h x (List.mem_cons_of_mem _ hx)]
    show V.int a :: _ = V.int ((a.toNat : Nat) : Int) :: nv _
    rw [Int.toNat_of_nonneg h1]
theorem asc_of {ns : List Int} (h : ∀ x ∈ ns, 0 ≤ x) (p : ns.Pairwise (· < ·)) : Asc (ns.map Int.toNat) := by
  unfold Asc
  rw [List.pairwise_map]
  refine List.Pairwise.imp_of_mem (fun {a b} ha hb hab => ?_) p
  have := h a ha
  omega
theorem srt_nats {xs : List Nat} {ns : List Int} (p : ns.Pairwise (· < ·)) (h : ∀ k : Int, k ∈ ns ↔ k ∈ xs.map fun (p : Nat) => (p : Int)) : ∃ ms : List Nat, ns.map V.int = nv ms ∧ Asc ms ∧ (∀ x, x ∈ ms ↔ x ∈ xs) ∧ ms.length ≤ xs.length := by
  have h0 : ∀ x ∈ ns, 0 ≤ x := fun x hx => by
    obtain ⟨p, _, rfl⟩ := List.mem_map.mp ((h x).mp hx)
    omega
  have hm : ∀ x, x ∈ ns.map Int.toNat ↔ x ∈ xs := fun x => by
    rw [List.mem_map]
    constructor
    · rintro ⟨y, hy, rfl⟩
      obtain ⟨p, hp, rfl⟩ := List.mem_map.mp ((h y).mp hy)
      rw [Int.toNat_natCast]; exact hp
    · intro hx
      exact ⟨(x : Int), (h _).mpr (List.mem_map.mpr ⟨x, hx, rfl⟩), Int.toNat_natCast x⟩
  have ha := asc_of h0 p
  refine ⟨_, nats_of h0, ha, hm, ?_⟩
  exact List.Nodup.length_le_of_subset (ha.imp fun z => Nat.ne_of_lt z) fun x hx => (hm x).mp hx
theorem pickV {l : List V} {r : Int} (h0 : 0 ≤ r) (h : r < l.length) : ∃ x ∈ l, atI l r = some x := ⟨_, List.getElem_mem _, atI_in h0 h⟩
theorem rgV_nv (n : Nat) : rgV 0 (n : Int) = nv (List.range n) := by
  unfold rgV nv
  rw [show ((n : Int) - 0).toNat = n by omega]
  exact List.map_congr_left fun i _ => by rw [Int.zero_add]
/-! ### mirrored: right and down exchanged -/
def sw (x : Nat × Nat) : Nat × Nat := (x.2, x.1)
theorem mg_head : ∀ (c : List (Nat × Nat)) (k : Nat), ∃ x Y, mg 0 c = x :: Y ∧ mg k c = (x + k) :: Y
  | [], k => ⟨0, [], rfl, by show [k] = [0 + k]; rw [Nat.zero_add]⟩
  | (r, d) :: c, k => ⟨0 + d, mg r c, rfl, by show (k + d) :: mg r c = (0 + d + k) :: mg r c; rw [show k + d = 0 + d + k by omega]⟩
theorem mg_rev : ∀ c : List (Nat × Nat), (mg 0 c).reverse = mg 0 (c.reverse.map sw)
  | [] => rfl
  | (r, d) :: c => by
    rw [List.reverse_cons, List.map_append]
    show _ = mg 0 (c.reverse.map sw ++ [(d, r)])
    rw [mg_snoc, ← mg_rev c]
    obtain ⟨x, Y, e1, e2⟩ := mg_head c r
    show ((0 + d) :: mg r c).reverse = _
    rw [e1, e2]
    unfold ext
    simp
theorem ways_sw {e : Nat} {l : Bool} {x : Nat × Nat} (h : x ∈ ways e l) : sw x ∈ ways e l := by
  obtain ⟨r, d⟩ := x
  rcases ways_mem.mp h with ⟨h1, h2⟩ | ⟨h1, h2, h3⟩
  · exact ways_mem.mpr (.inl ⟨h1, by show d + r + 1 = e; omega⟩)
  · exact ways_mem.mpr (.inr ⟨h1, by show d + r = e; omega, by rcases h3 with z | ⟨z1, z2⟩; exact .inl z; exact .inr ⟨z2, z1⟩⟩)
theorem fits_rev : ∀ {row : List Nat} {ls : List Bool} {c : List (Nat × Nat)}, Fits ways row ls c → Fits ways row.reverse ls.reverse (c.reverse.map sw)
  | [], [], [], _ => trivial
  | e :: row, l :: ls, x :: c, h => by
    rw [List.reverse_cons, List.reverse_cons, List.reverse_cons, List.map_append]
    exact Fits.snoc (fits_rev h.2) (ways_sw h.1)
  | [], [], _ :: _, h => h.elim
  | [], _ :: _, _, h => h.elim
  | _ :: _, [], _, h => h.elim
  | _ :: _, _ :: _, [], h => h.elim
def Mir (nm nm' : Nat → Bool) : Prop := ∀ t i, i ≤ t → nm' (tri t + i) = nm (tri t + (t - i))
theorem Mir.symm {nm nm' : Nat → Bool} (h : Mir nm nm') : Mir nm' nm := fun t i hi => by
  have := h t (t - i) (by omega)
  rw [show t - (t - i) = i by omega] at this
  exact this.symm
theorem lsAt_rev {nm nm' : Nat → Bool} (h : Mir nm nm') (t : Nat) : lsAt nm' t = (lsAt nm t).reverse := by
  refine List.ext_getElem? fun i => ?_
  rcases Nat.lt_or_ge i (t + 1) with z | z
  · rw [List.getElem?_reverse (by rw [lsAt_len]; exact z), lsAt_len]
    unfold lsAt
    rw [List.getElem?_map, List.getElem?_map, List.getElem?_range z, List.getElem?_range (by omega)]
    show some (nm' (tri t + i)) = some (nm (tri t + (t + 1 - 1 - i)))
    rw [h t i (by omega), show t + 1 - 1 - i = t - i by omega]
  · rw [List.getElem?_eq_none (by rw [lsAt_len]; omega), List.getElem?_eq_none (by rw [List.length_reverse, lsAt_len]; omega)]
theorem rowAt_rev {nm nm' : Nat → Bool} {n : Nat} (h : Mir nm nm') : ∀ {t : Nat} {row : List Nat}, RowAt ways nm n t row → RowAt ways nm' n t row.reverse
  | 0, row, e => by
    have e : row = [n] := e
    subst e
    rfl
  | t + 1, row, ⟨r0, hr, hx⟩ => by
    obtain ⟨⟨l0, _⟩, _⟩ := RowAt.ok ways_ok hr
    obtain ⟨c, hc, rfl⟩ := (rows_mem (by rw [l0, lsAt_len])).mp hx
    refine ⟨r0.reverse, rowAt_rev h hr, (rows_mem (by rw [List.length_reverse, l0, lsAt_len])).mpr ⟨c.reverse.map sw, ?_, mg_rev c⟩⟩
    rw [lsAt_rev h]
    exact fits_rev hc
/-- a mirrored list is stuck where the list is -/
theorem stuck_rev {nm nm' : Nat → Bool} {n : Nat} (h : Mir nm nm') : ∀ {s : Option Nat}, IsStuck nm n s → IsStuck nm' n s
  | none, hs => fun k hk => by
    obtain ⟨r, hr⟩ := hs k hk
    exact ⟨_, rowAt_rev h hr⟩
  | some t, ⟨h1, h2, h3⟩ => ⟨h1, fun k hk => by
    obtain ⟨r, hr⟩ := h2 k hk
    exact ⟨_, rowAt_rev h hr⟩, fun ⟨r, hr⟩ => h3 ⟨_, rowAt_rev h.symm hr⟩⟩
/-! ### an entered cell lies behind one; in its line one stops -/
/-- with a name of the cell beside the end of the first row: one process more goes along it -/
theorem mg_last : ∀ (c : List (Nat × Nat)) (r d k : Nat), mg k (c ++ [(r + 1, d)]) = (mg k (c ++ [(r, d)])).dropLast ++ [(mg k (c ++ [(r, d)])).getLastD 0 + 1]
  | [], r, d, k => rfl
  | (r0, d0) :: c, r, d, k => by
    have ih := mg_last c r d r0
    have hl : mg r0 (c ++ [(r, d)]) ≠ [] := by
      intro z
      have := congrArg List.length z
      rw [mg_len] at this
      cases this
    show (k + d0) :: mg r0 (c ++ [(r + 1, d)]) = ((k + d0) :: mg r0 (c ++ [(r, d)])).dropLast ++ [((k + d0) :: mg r0 (c ++ [(r, d)])).getLastD 0 + 1]
    rw [ih]
    obtain ⟨x, Y, e⟩ : ∃ x Y, mg r0 (c ++ [(r, d)]) = x :: Y := by
      cases h : mg r0 (c ++ [(r, d)]) with
      | nil => exact absurd h hl
      | cons x Y => exact ⟨x, Y, rfl⟩
    rw [e]
    rfl
theorem Fits.snoc_inv {wf : Nat → Bool → List (Nat × Nat)} {e : Nat} {l : Bool} : ∀ {row : List Nat} {ls : List Bool} {c : List (Nat × Nat)}, row.length = ls.length → Fits wf (row ++ [e]) (ls ++ [l]) c → ∃ c0 x, c = c0 ++ [x] ∧ Fits wf row ls c0 ∧ x ∈ wf e l
  | [], [], [], _, h => h.elim
  | [], [], [x], _, h => ⟨[], x, rfl, trivial, h.1⟩
  | [], [], _ :: _ :: _, _, h => h.2.elim
  | a :: row, b :: ls, [], _, h => h.elim
  | a :: row, b :: ls, y :: c, hl, h => by
    obtain ⟨c0, x, rfl, h1, h2⟩ := Fits.snoc_inv (row := row) (ls := ls) (by simpa using hl) h.2
    exact ⟨y :: c0, x, rfl, ⟨h.1, h1⟩, h2⟩
theorem lsAt_snoc (nm : Nat → Bool) (t : Nat) : lsAt nm t = ((List.range t).map fun i => nm (tri t + i)) ++ [nm (tri t + t)] := by
  unfold lsAt
  rw [List.range_succ, List.map_append]
  rfl
theorem row_snoc {t : Nat} {row : List Nat} (h : row.length = t + 1) : ∃ Rw e, row = Rw ++ [e] ∧ Rw.length = t := by
  have hne : row ≠ [] := by intro z; rw [z] at h; cases h
  exact ⟨row.dropLast, row.getLast hne, (List.dropLast_concat_getLast hne).symm, by rw [List.length_dropLast]; omega⟩
theorem tri_apart {t R i : Nat} (hi : i ≤ t) (h : tri t + i = tri R + R) : t = R := by
  rcases Nat.lt_trichotomy t R with c | c | c
  · have h1 := tri_mono (show t + 1 ≤ R by omega)
    rw [tri_succ] at h1
    omega
  · exact c
  · have h1 := tri_mono (show R + 1 ≤ t by omega)
    rw [tri_succ] at h1
    omega
section
variable {nm nm' : Nat → Bool} {n R : Nat}
theorem ls_other (h' : ∀ x, nm' x = (nm x || decide (x = tri R + R))) {t : Nat} (ht : t ≠ R) : lsAt nm' t = lsAt nm t := List.map_congr_left fun i hi => by
  have hi := List.mem_range.mp hi
  show nm' (tri t + i) = nm (tri t + i)
  rw [h', decide_eq_false (fun z => ht (tri_apart (by omega) z)), Bool.or_false]
/-- the row with one process more in its last cell -/
def Bump (nm' : Nat → Bool) (n t : Nat) (row : List Nat) : Prop := ∃ Rw e, row = Rw ++ [e] ∧ RowAt ways nm' (n + 1) t (Rw ++ [e + 1])
theorem bump_step (h' : ∀ x, nm' x = (nm x || decide (x = tri R + R))) {t : Nat} {r0 row : List Nat} (ht : t ≠ R) (hr : RowAt ways nm n t r0) (hx : row ∈ rowsFrom ways r0 (lsAt nm t)) (hb : Bump nm' n t r0) (hpos : 0 < r0.getLastD 0) : Bump nm' n (t + 1) row := by
  obtain ⟨Rw, e, rfl, hb⟩ := hb
  obtain ⟨⟨l0, _⟩, _⟩ := RowAt.ok ways_ok hr
  obtain ⟨c, hc, rfl⟩ := (rows_mem (by rw [l0, lsAt_len])).mp hx
  rw [List.length_append] at l0
  have l0 : Rw.length = t := by simpa using l0
  rw [lsAt_snoc] at hc
  obtain ⟨c0, ⟨r, d⟩, rfl, h1, h2⟩ := Fits.snoc_inv (by rw [l0, List.length_map, List.length_range]) hc
  have hpos : 0 < e := by simpa using hpos
  have h3 : (r + 1, d) ∈ ways (e + 1) (nm (tri t + t)) := by
    rcases ways_mem.mp h2 with ⟨z1, z2⟩ | ⟨z1, z2, z3⟩
    · exact ways_mem.mpr (.inl ⟨z1, by omega⟩)
    · exact ways_mem.mpr (.inr ⟨z1, by omega, .inr (by rcases z3 with w | w <;> omega)⟩)
  refine ⟨_, _, row_split (by rw [mg_len]; omega), Rw ++ [e + 1], hb, ?_⟩
  rw [rows_mem (by rw [List.length_append, lsAt_len]; show Rw.length + 1 = _; omega), ls_other h' ht, lsAt_snoc]
  exact ⟨c0 ++ [(r + 1, d)], Fits.snoc h1 h3, (mg_last c0 r d 0).symm⟩
/-- who comes to the last cell of a row has come along the first row of the grid -/
theorem last_back {t : Nat} {r0 row : List Nat} (hr : RowAt ways nm n t r0) (hx : row ∈ rowsFrom ways r0 (lsAt nm t)) (hpos : 0 < row.getLastD 0) : 0 < r0.getLastD 0 := by
  obtain ⟨⟨l0, _⟩, _⟩ := RowAt.ok ways_ok hr
  obtain ⟨c, hc, rfl⟩ := (rows_mem (by rw [l0, lsAt_len])).mp hx
  obtain ⟨Rw, e, rfl, l1⟩ := row_snoc l0
  rw [lsAt_snoc] at hc
  obtain ⟨c0, ⟨r, d⟩, rfl, h1, h2⟩ := Fits.snoc_inv (by rw [l1, List.length_map, List.length_range]) hc
  rw [mg_snoc] at hpos
  unfold ext at hpos
  have hpos : 0 < r := by simpa using hpos
  have h3 : r + d ≤ e := ways_ok.le h2
  have : 0 < e := by omega
  simpa using this
theorem bump_to (h' : ∀ x, nm' x = (nm x || decide (x = tri R + R))) : ∀ {t : Nat} {row : List Nat}, t < R → RowAt ways nm n t row → 0 < row.getLastD 0 → Bump nm' n t row
  | 0, row, _, h, _ => by
    have h : row = [n] := h
    subst h
    exact ⟨[], n, rfl, rfl⟩
  | t + 1, row, ht, ⟨r0, hr, hx⟩, hpos => by
    have hp := last_back hr hx hpos
    exact bump_step h' (by omega) hr hx (bump_to h' (by omega) hr hp) hp
/-- with the cell beside the end of the first row listed, too, one more can be sent -/
theorem one_more (hall : ∀ k, ∃ row, RowAt ways nm n k row) (h1 : ∀ r, r + 1 = R → nm (tri r + r) = true) (h2 : nm (tri R + R) = false) (h' : ∀ x, nm' x = (nm x || decide (x = tri R + R))) : ∀ k, ∃ row, RowAt ways nm' (n + 1) k row := by
  have atR : ∀ row, RowAt ways nm n R row → Bump nm' n R row := fun row hrow => by
    cases hR : R with
    | zero =>
      subst hR
      have hrow : row = [n] := hrow
      subst hrow
      exact ⟨[], n, rfl, rfl⟩
    | succ r =>
      subst hR
      obtain ⟨r0, hr, hx⟩ := hrow
      have hp : 0 < r0.getLastD 0 := by
        obtain ⟨⟨l0, _⟩, _⟩ := RowAt.ok ways_ok hr
        obtain ⟨c, hc, _⟩ := (rows_mem (by rw [l0, lsAt_len])).mp hx
        obtain ⟨Rw, e, rfl, l1⟩ := row_snoc l0
        rw [lsAt_snoc] at hc
        obtain ⟨c0, ⟨a, d⟩, rfl, _, h3⟩ := Fits.snoc_inv (by rw [l1, List.length_map, List.length_range]) hc
        rw [h1 r rfl] at h3
        rcases ways_mem.mp h3 with ⟨_, z⟩ | ⟨z, _⟩
        · have : 0 < e := by omega
          simpa using this
        · cases z
      exact bump_step h' (by omega) hr hx (bump_to h' (by omega) hr hp) hp
  have after : ∀ j row, RowAt ways nm n (R + 1 + j) row → RowAt ways nm' (n + 1) (R + 1 + j) row := fun j => by
    induction j with
    | zero =>
      rintro row ⟨r0, hr, hx⟩
      obtain ⟨Rw, e, rfl, hb⟩ := atR r0 hr
      obtain ⟨⟨l0, _⟩, _⟩ := RowAt.ok ways_ok hr
      obtain ⟨c, hc, rfl⟩ := (rows_mem (by rw [l0, lsAt_len])).mp hx
      rw [List.length_append] at l0
      have l0 : Rw.length = R := by simpa using l0
      rw [lsAt_snoc] at hc
      obtain ⟨c0, ⟨a, d⟩, rfl, h3, h4⟩ := Fits.snoc_inv (by rw [l0, List.length_map, List.length_range]) hc
      rw [h2] at h4
      refine ⟨Rw ++ [e + 1], hb, ?_⟩
      rw [rows_mem (by rw [List.length_append, lsAt_len]; show Rw.length + 1 = _; omega), lsAt_snoc]
      refine ⟨c0 ++ [(a, d)], Fits.snoc ?_ ?_, rfl⟩
      · rw [show ((List.range R).map fun i => nm' (tri R + i)) = (List.range R).map fun i => nm (tri R + i) from List.map_congr_left fun i hi => by
          have hi := List.mem_range.mp hi
          rw [h', decide_eq_false (by omega), Bool.or_false]]
        exact h3
      · rw [h', decide_eq_true rfl, Bool.or_true]
        rcases ways_mem.mp h4 with ⟨z, _⟩ | ⟨_, z, _⟩
        · cases z
        · exact ways_mem.mpr (.inl ⟨rfl, by omega⟩)
    | succ j ih =>
      rintro row ⟨r0, hr, hx⟩
      have e := ls_other (nm := nm) h' (t := R + 1 + j) (by omega)
      exact ⟨r0, ih r0 hr, by show row ∈ rowsFrom ways r0 (lsAt nm' (R + 1 + j)); rw [e]; exact hx⟩
  intro k
  rcases Nat.lt_or_ge k (R + 1) with c | c
  · obtain ⟨row, hrow⟩ := hall (R + 1)
    have := after 0 row hrow
    exact RowAt.prev this k (by omega)
  · obtain ⟨row, hrow⟩ := hall k
    rw [show k = R + 1 + (k - (R + 1)) by omega] at hrow
    exact ⟨row, by rw [show k = R + 1 + (k - (R + 1)) by omega]; exact after _ row hrow⟩
end
/-! ### lines: who enters a column leaves a name in it -/
def Chain (nm : Nat → Bool) (n T : Nat) (rows : Nat → List Nat) : Prop := rows 0 = [n] ∧ ∀ k, k < T → rows (k + 1) ∈ rowsFrom ways (rows k) (lsAt nm k)
theorem chain_of {nm : Nat → Bool} {n : Nat} : ∀ {T : Nat} {row : List Nat}, RowAt ways nm n T row → ∃ rows, Chain nm n T rows ∧ rows T = row
  | 0, row, h => ⟨fun _ => [n], ⟨rfl, fun k hk => absurd hk (Nat.not_lt_zero k)⟩, Eq.symm h⟩
  | T + 1, row, ⟨r0, h, hx⟩ => by
    obtain ⟨rows, ⟨c1, c2⟩, e⟩ := chain_of h
    refine ⟨fun k => if k = T + 1 then row else rows k, ⟨?_, fun k hk => ?_⟩, if_pos rfl⟩
    · dsimp only; rw [if_neg (by omega)]; exact c1
    · dsimp only
      rw [if_neg (show ¬ k = T + 1 by omega)]
      by_cases hkT : k = T
      · subst hkT
        rw [if_pos rfl, e]; exact hx
      · rw [if_neg (by omega)]; exact c2 k (by omega)
theorem Chain.row {nm : Nat → Bool} {n T : Nat} {rows : Nat → List Nat} (h : Chain nm n T rows) : ∀ {k : Nat}, k ≤ T → RowAt ways nm n k (rows k)
  | 0, _ => h.1
  | k + 1, hk => ⟨rows k, h.row (k := k) (by omega), h.2 k (by omega)⟩
/-- what a cell does, one by one -/
theorem fits_at {wf : Nat → Bool → List (Nat × Nat)} : ∀ {row : List Nat} {ls : List Bool} {c : List (Nat × Nat)}, Fits wf row ls c → ∀ (i e : Nat) (l : Bool), row[i]? = some e → ls[i]? = some l → ∃ x, c[i]? = some x ∧ x ∈ wf e l
  | e :: row, l :: ls, x :: c, h, 0, _, _, h1, h2 => by cases h1; cases h2; exact ⟨x, rfl, h.1⟩
  | e :: row, l :: ls, x :: c, h, i + 1, e', l', h1, h2 => fits_at h.2 i e' l' h1 h2
  | [], [], [], _, i, _, _, h1, _ => by cases h1
  | [], [], _ :: _, h, _, _, _, _, _ => h.elim
  | [], _ :: _, _, h, _, _, _, _, _ => h.elim
  | _ :: _, [], _, h, _, _, _, _, _ => h.elim
  | _ :: _, _ :: _, [], h, _, _, _, _, _ => h.elim
section
variable {nm : Nat → Bool} {n T : Nat} {rows : Nat → List Nat}
def Ent (rows : Nat → List Nat) (t i : Nat) : Prop := 0 < (rows t).getD i 0
theorem Chain.cell (h : Chain nm n T rows) {t i : Nat} (ht : t < T) (hi : i ≤ t) : ∃ r d, (r, d) ∈ ways ((rows t).getD i 0) (nm (tri t + i)) ∧ r ≤ (rows (t + 1)).getD (i + 1) 0 ∧ d ≤ (rows (t + 1)).getD i 0 := by
  obtain ⟨⟨l0, _⟩, _⟩ := RowAt.ok ways_ok (h.row (k := t) (by omega))
  obtain ⟨c, hc, hrow⟩ := (rows_mem (by rw [l0, lsAt_len])).mp (h.2 t ht)
  have h1 : (rows t)[i]? = some ((rows t).getD i 0) := by
    rw [List.getD_eq_getElem?_getD, List.getElem?_eq_getElem (by omega)]; rfl
  have h2 : (lsAt nm t)[i]? = some (nm (tri t + i)) := by
    unfold lsAt
    rw [List.getElem?_map, List.getElem?_range (by omega)]; rfl
  obtain ⟨⟨r, d⟩, hx, hw⟩ := fits_at hc i _ _ h1 h2
  refine ⟨r, d, hw, ?_, ?_⟩
  · rw [hrow, mg_at]
    have : (0 :: c.map Prod.fst).getD (i + 1) 0 = r := by
      show (c.map Prod.fst).getD i 0 = r
      rw [List.getD_eq_getElem?_getD, List.getElem?_map, hx]; rfl
    rw [this]; omega
  · rw [hrow, mg_at]
    have : (c.map Prod.snd).getD i 0 = d := by rw [List.getD_eq_getElem?_getD, List.getElem?_map, hx]; rfl
    rw [this]; omega
/-- a cell that is entered has been entered from one of the two before it -/
theorem Chain.from (h : Chain nm n T rows) {t i : Nat} (ht : t < T) (hi : i ≤ t + 1) (he : Ent rows (t + 1) i) : (i ≤ t ∧ Ent rows t i) ∨ ∃ j, i = j + 1 ∧ j ≤ t ∧ Ent rows t j := by
  obtain ⟨⟨l0, _⟩, _⟩ := RowAt.ok ways_ok (h.row (k := t) (by omega))
  obtain ⟨c, hc, hrow⟩ := (rows_mem (by rw [l0, lsAt_len])).mp (h.2 t ht)
  have hat := Fits.at ways_ok hc
  unfold Ent at he ⊢
  rw [hrow, mg_at] at he
  have hl := hc.len.1
  by_cases hd : 0 < (c.map Prod.snd).getD i 0
  · have hi2 : i < c.length := by
      rcases Nat.lt_or_ge i c.length with z | z
      · exact z
      · rw [List.getD_eq_getElem?_getD, List.getElem?_eq_none (by rw [List.length_map]; exact z)] at hd
        exact absurd hd (Nat.lt_irrefl 0)
    have := (hat i).1
    exact .inl ⟨by omega, by omega⟩
  · cases i with
    | zero =>
      have : 0 < (0 : Nat) := by
        have e : (0 :: c.map Prod.fst).getD 0 0 = 0 := rfl
        rw [e] at he; omega
      omega
    | succ j =>
      have e : (0 :: c.map Prod.fst).getD (j + 1) 0 = (c.map Prod.fst).getD j 0 := rfl
      rw [e] at he
      have := (hat j).1
      exact .inr ⟨j, rfl, by omega, by omega⟩
theorem Chain.back (h : Chain nm n T rows) : ∀ {t i : Nat}, t ≤ T → i ≤ t → Ent rows t i → ∀ j, j ≤ i → ∃ s, s ≤ t ∧ j ≤ s ∧ Ent rows s j
  | t, i, ht, hi, he, j, hj => by
    rcases Nat.lt_or_ge j i with c | c
    · cases t with
      | zero => omega
      | succ t =>
        rcases h.from (by omega) hi he with ⟨h1, h2⟩ | ⟨k, rfl, h1, h2⟩
        · obtain ⟨s, a, b, e⟩ := Chain.back h (t := t) (by omega) h1 h2 j hj
          exact ⟨s, by omega, b, e⟩
        · obtain ⟨s, a, b, e⟩ := Chain.back h (t := t) (by omega) h1 h2 j (by omega)
          exact ⟨s, by omega, b, e⟩
    · exact ⟨t, Nat.le_refl _, by omega, by rw [show j = i by omega]; exact he⟩
theorem Chain.stop (h : Chain nm n T rows) (hT : n ≤ T) : ∀ (m : Nat) {t i : Nat}, T - t = m → t ≤ T → i ≤ t → Ent rows t i → ∃ s, t ≤ s ∧ s < T ∧ nm (tri s + i) = true
  | m, t, i, hm, ht, hi, he => by
    have hfew := (RowAt.ok ways_ok (h.row (k := t) ht)).1.few
    have h1 := few_cell (f := fun k => (rows t).getD k 0) hfew (k := i) he
    have he' : 0 < (rows t).getD i 0 := he
    have htT : t < T := by
      have h1 : (rows t).getD i 0 + t ≤ n := h1
      omega
    cases hl : nm (tri t + i) with
    | true => exact ⟨t, Nat.le_refl _, htT, hl⟩
    | false =>
      obtain ⟨r, d, hw, h2, h3⟩ := h.cell htT hi
      rw [hl] at hw
      rcases ways_mem.mp hw with ⟨z, _⟩ | ⟨_, z2, z3⟩
      · cases z
      · have hd : 0 < d := by rcases z3 with w | w <;> omega
        cases m with
        | zero => omega
        | succ m =>
          obtain ⟨s, a, b, e⟩ := Chain.stop h hT m (t := t + 1) (i := i) (by omega) (by omega) (by omega) (by unfold Ent; omega)
          exact ⟨s, by omega, b, e⟩
/-- the columns of the names are all columns up to the last one -/
theorem cols_down (hall : ∀ k, ∃ row, RowAt ways nm n k row) {t i j : Nat} (hi : i ≤ t) (hl : nm (tri t + i) = true) (hj : j ≤ i) : ∃ s, j ≤ s ∧ nm (tri s + j) = true := by
  obtain ⟨row, hrow⟩ := hall (max (t + 1) n)
  obtain ⟨rows, hc, _⟩ := chain_of hrow
  have hent : Ent rows t i := by
    obtain ⟨r, d, hw, _⟩ := hc.cell (t := t) (i := i) (by omega) hi
    rw [hl] at hw
    rcases ways_mem.mp hw with ⟨_, z⟩ | ⟨z, _⟩
    · unfold Ent; omega
    · cases z
  obtain ⟨s, a, b, e⟩ := hc.back (by omega) hi hent j hj
  obtain ⟨s2, a2, b2, e2⟩ := hc.stop (by omega) _ rfl (by omega) b e
  exact ⟨s2, by omega, e2⟩
end
/-! ### names on neighbouring cells of a diagonal -/
def cntL (P : Nat → Bool) (low : Nat) : Nat → Nat
  | 0 => 0
  | m + 1 => cntL P low m + (if P (low + m) = true then 1 else 0)
theorem cnt_psum {P : Nat → Bool} {f : Nat → Nat} {low : Nat} : ∀ (m : Nat), (∀ i, i < m → P (low + i) = true → 0 < f (low + i)) → cntL P low m + psum f low ≤ psum f (low + m)
  | 0, _ => by show 0 + psum f low ≤ psum f low; omega
  | m + 1, h => by
    have ih := cnt_psum (P := P) (f := f) (low := low) m fun i hi => h i (by omega)
    have e : psum f (low + (m + 1)) = psum f (low + m) + f (low + m) := rfl
    show cntL P low m + (if P (low + m) = true then 1 else 0) + psum f low ≤ _
    rw [e]
    split
    · rename_i hp
      have := h m (by omega) hp
      omega
    · omega
theorem names_few {nm : Nat → Bool} {n t low m : Nat} (hall : ∀ k, ∃ row, RowAt ways nm n k row) (hm : 0 < m) (ht : low + m ≤ t + 1) (hl : nm (tri t + low) = true) : cntL (fun i => nm (tri t + i)) low m + t + 1 ≤ n + m := by
  obtain ⟨row, hrow⟩ := hall (t + 1)
  obtain ⟨rows, hc, _⟩ := chain_of hrow
  have pos : ∀ i, i ≤ t → nm (tri t + i) = true → 0 < (rows t).getD i 0 := fun i hi hn => by
    obtain ⟨r, d, hw, _⟩ := hc.cell (t := t) (i := i) (by omega) hi
    rw [hn] at hw
    rcases ways_mem.mp hw with ⟨_, z⟩ | ⟨z, _⟩
    · omega
    · cases z
  have hfew := (RowAt.ok ways_ok (hc.row (k := t) (by omega))).1.few
  have h1 := cnt_psum (P := fun i => nm (tri t + i)) (f := fun k => (rows t).getD k 0) (low := low) m fun i hi hn => pos (low + i) (by omega) hn
  have h2 : psum (fun k => (rows t).getD k 0) low < psum (fun k => (rows t).getD k 0) (low + m) := by
    have a : psum (fun k => (rows t).getD k 0) (low + 1) = psum (fun k => (rows t).getD k 0) low + (rows t).getD low 0 := rfl
    have b := psum_mono (f := fun k => (rows t).getD k 0) (show low + 1 ≤ low + m by omega)
    have c := pos low (by omega) hl
    omega
  have h3 := hfew low (low + m) (by omega) h2
  omega
/-! ### what the stages keep: the ways -/
/-- an entry that these cells give -/
def EntP (wf : Nat → Bool → List (Nat × Nat)) (row : List Nat) (ls : List Bool) (x : List Nat × Way) : Prop := x.2.map Prod.fst = row ∧ Fits wf row ls (x.2.map Prod.snd) ∧ x.1 = mg 0 (x.2.map Prod.snd)
theorem putA_allE {P : List Nat × Way → Prop} {f : Stg} {k : List Nat} {v : Way} (h : ∀ x ∈ f, P x) (hv : P (k, v)) : ∀ x ∈ putA f k v, P x := by
  intro x hx
  unfold putA at hx
  split at hx
  · obtain ⟨y, hy, rfl⟩ := List.mem_map.mp hx
    split
    · rename_i e
      rw [e]
      exact hv
    · exact h y hy
  · rcases List.mem_append.mp hx with z | z
    · exact h x z
    · rw [List.mem_singleton.mp z]
      exact hv
theorem Fits.snocR {wf : Nat → Bool → List (Nat × Nat)} {e : Nat} {l : Bool} {rd : Nat × Nat} : ∀ {row : List Nat} {ls : List Bool} {c : List (Nat × Nat)}, Fits wf row ls c → rd ∈ wf e l → Fits wf (row ++ [e]) (ls ++ [l]) (c ++ [rd])
  | [], [], [], _, h => ⟨h, trivial⟩
  | a :: row, b :: ls, x :: c, h0, h => ⟨h0.1, Fits.snocR (row := row) (ls := ls) (c := c) h0.2 h⟩
  | [], [], _ :: _, h0, _ => h0.elim
  | [], _ :: _, _, h0, _ => h0.elim
  | _ :: _, [], _, h0, _ => h0.elim
  | _ :: _, _ :: _, [], h0, _ => h0.elim
theorem mg_snocR (c : List (Nat × Nat)) (r d : Nat) : mg 0 (c ++ [(r, d)]) = ext (mg 0 c) r d := by
  have h1 := fold_ext (c ++ [(r, d)]) [] 0
  have h2 := fold_ext c [] 0
  rw [List.foldl_append] at h1
  simp only [List.nil_append] at h1 h2
  rw [h2] at h1
  exact h1.symm
theorem wayCell_ent {wf : Nat → Bool → List (Nat × Nat)} {e : Nat} {l : Bool} {row : List Nat} {ls : List Bool} {f : Stg} (h : ∀ x ∈ f, EntP wf row ls x) : ∀ x ∈ wayCell wf e l f, EntP wf (row ++ [e]) (ls ++ [l]) x := by
  have one : ∀ (lw : List Nat × Way) (_ : EntP wf row ls lw) (rs : List (Nat × Nat)) (_ : ∀ rd ∈ rs, rd ∈ wf e l) (acc : Stg), (∀ x ∈ acc, EntP wf (row ++ [e]) (ls ++ [l]) x) → ∀ x ∈ rs.foldl (wayPut e lw) acc, EntP wf (row ++ [e]) (ls ++ [l]) x := by
    intro lw hlw rs
    induction rs with
    | nil => intro _ acc ha; exact ha
    | cons rd rs ih =>
      intro hr acc ha
      rw [List.foldl_cons]
      refine ih (fun z hz => hr z (List.mem_cons_of_mem _ hz)) _ ?_
      obtain ⟨r, d⟩ := rd
      refine putA_allE ha ⟨?_, ?_, ?_⟩
      · rw [List.map_append, hlw.1]; rfl
      · rw [List.map_append]; exact hlw.2.1.snocR (hr _ List.mem_cons_self)
      · show ext lw.1 r d = _
        rw [List.map_append, hlw.2.2]
        exact (mg_snocR _ r d).symm
  have go : ∀ (f acc : Stg), (∀ x ∈ f, EntP wf row ls x) → (∀ x ∈ acc, EntP wf (row ++ [e]) (ls ++ [l]) x) → ∀ x ∈ f.foldl (wayOne wf e l) acc, EntP wf (row ++ [e]) (ls ++ [l]) x := by
    intro f
    induction f with
    | nil => intro acc _ h; exact h
    | cons a r ih => intro acc h1 h2; exact ih _ (fun x hx => h1 x (List.mem_cons_of_mem _ hx)) (one a (h1 a List.mem_cons_self) _ (fun _ z => z) acc h2)
  exact go f [] h fun x hx => absurd hx List.not_mem_nil
theorem waysGo_ent {wf : Nat → Bool → List (Nat × Nat)} : ∀ (row : List Nat) (ls : List Bool) (pr : List Nat) (pl : List Bool) (f : Stg), row.length = ls.length → (∀ x ∈ f, EntP wf pr pl x) → ∀ x ∈ waysGo wf row ls f, EntP wf (pr ++ row) (pl ++ ls) x
  | [], [], pr, pl, f, _, h => by rw [List.append_nil, List.append_nil]; exact h
  | e :: row, l :: ls, pr, pl, f, hl, h => by
    have := waysGo_ent row ls (pr ++ [e]) (pl ++ [l]) _ (by simpa using hl) (wayCell_ent h)
    rw [List.append_assoc, List.append_assoc] at this
    exact this
  | [], _ :: _, _, _, _, hl, _ => by cases hl
  | _ :: _, [], _, _, _, hl, _ => by cases hl
theorem waysFrom_ent {wf : Nat → Bool → List (Nat × Nat)} {row : List Nat} {ls : List Bool} (hl : row.length = ls.length) : ∀ x ∈ waysFrom wf row ls, EntP wf row ls x := by
  have := waysGo_ent (wf := wf) row ls [] [] [([0], [])] hl (fun x hx => by rw [List.mem_singleton.mp hx]; exact ⟨rfl, trivial, rfl⟩)
  exact this
theorem stAfter_ent {wf : Nat → Bool → List (Nat × Nat)} {rows : List (List Nat)} {ls : List Bool} (h : ∀ row ∈ rows, row.length = ls.length) : ∀ x ∈ stAfter wf rows ls, ∃ row ∈ rows, EntP wf row ls x := by
  have add : ∀ (l acc : Stg) (P : List Nat × Way → Prop), (∀ x ∈ l, P x) → (∀ x ∈ acc, P x) → ∀ x ∈ l.foldl stAdd acc, P x := by
    intro l
    induction l with
    | nil => intro acc P _ h; exact h
    | cons a r ih =>
      intro acc P h1 h2
      refine ih _ P (fun x hx => h1 x (List.mem_cons_of_mem _ hx)) ?_
      unfold stAdd
      split
      · exact h2
      · intro x hx
        rcases List.mem_append.mp hx with z | z
        · exact h2 x z
        · rw [List.mem_singleton.mp z]; exact h1 a List.mem_cons_self
  have go : ∀ (rs : List (List Nat)) (acc : Stg), (∀ row ∈ rs, row ∈ rows) → (∀ x ∈ acc, ∃ row ∈ rows, EntP wf row ls x) → ∀ x ∈ rs.foldl (fun acc row => (waysFrom wf row ls).foldl stAdd acc) acc, ∃ row ∈ rows, EntP wf row ls x := by
    intro rs
    induction rs with
    | nil => intro acc _ h; exact h
    | cons a r ih =>
      intro acc h1 h2
      refine ih _ (fun x hx => h1 x (List.mem_cons_of_mem _ hx)) ?_
      refine add _ _ _ (fun x hx => ?_) h2
      have ha := h1 a List.mem_cons_self
      exact ⟨a, ha, waysFrom_ent (h a ha) x hx⟩
  exact go rows [] (fun _ z => z) fun x hx => absurd hx List.not_mem_nil
theorem stagesGo_ent {nm : Nat → Bool} {n : Nat} : ∀ (k t : Nat) (rows : List (List Nat)), (∀ x, x ∈ rows ↔ RowAt ways nm n t x) → ∀ (i : Nat) (S : Stg), (stagesGo ways nm k t rows)[i]? = some S → (∀ x ∈ S, ∃ row, RowAt ways nm n (t + i) row ∧ EntP ways row (lsAt nm (t + i)) x) ∧ ∀ x, x ∈ S.map Prod.fst ↔ RowAt ways nm n (t + i + 1) x
  | 0, t, rows, _, i, S, hi => by cases hi
  | k + 1, t, rows, h, i, S, hi => by
    have hs := stAfter_at h
    have hlen : ∀ row ∈ rows, row.length = (lsAt nm t).length := fun row hr => by rw [lsAt_len]; exact (RowAt.ok ways_ok ((h row).mp hr)).1.len
    unfold stagesGo at hi
    cases i with
    | zero =>
      have hi : some (stAfter ways rows (lsAt nm t)) = some S := hi
      cases hi
      refine ⟨fun x hx => ?_, hs⟩
      obtain ⟨row, hr, he⟩ := stAfter_ent hlen x hx
      exact ⟨row, (h row).mp hr, he⟩
    | succ i =>
      have hi : (if stAfter ways rows (lsAt nm t) = [] then [] else stagesGo ways nm k (t + 1) ((stAfter ways rows (lsAt nm t)).map Prod.fst))[i]? = some S := hi
      split at hi
      · cases hi
      · have := stagesGo_ent k (t + 1) _ hs i S hi
        rw [show t + 1 + i = t + (i + 1) by omega] at this
        exact this
theorem stagesOf_ent {nm : Nat → Bool} {n i : Nat} {S : Stg} (hi : (stagesOf ways nm n)[i]? = some S) : (∀ x ∈ S, ∃ row, RowAt ways nm n i row ∧ EntP ways row (lsAt nm i) x) ∧ ∀ x, x ∈ S.map Prod.fst ↔ RowAt ways nm n (i + 1) x := by
  have := stagesGo_ent (nm := nm) (n := n) n 0 [[n]] (fun x => by rw [List.mem_singleton]; exact Iff.rfl) i S hi
  rw [Nat.zero_add] at this
  exact this
theorem stages_whole {nm : Nat → Bool} {n : Nat} (hn : 0 < n) (h : stkIn (stagesOf ways nm n) = none) : (stagesOf ways nm n).length = n ∧ ∀ i, i ≤ n → ∃ row, RowAt ways nm n i row := by
  obtain ⟨m, rfl⟩ : ∃ m, n = m + 1 := ⟨n - 1, by omega⟩
  unfold stagesOf stkIn at *
  rcases stagesGo_spec (wf := ways) (nm := nm) (n := m + 1) m 0 [[m + 1]] (fun x => by rw [List.mem_singleton]; exact Iff.rfl) ⟨_, rfl⟩ with ⟨j, hj, l, g, a, b⟩ | ⟨l, g, a⟩
  · rw [if_pos g] at h
    cases h
  · refine ⟨l, fun i hi => ?_⟩
    have := a i hi
    rwa [Nat.zero_add] at this
/-! ### the way back through the stages -/
def lookA (f : Stg) (k : List Nat) : Way := ((f.find? fun x => decide (x.1 = k)).map Prod.snd).getD []
theorem lookA_mem {f : Stg} {k : List Nat} (h : k ∈ f.map Prod.fst) : (k, lookA f k) ∈ f := by
  unfold lookA
  cases e : f.find? fun x => decide (x.1 = k) with
  | none =>
    obtain ⟨x, hx, rfl⟩ := List.mem_map.mp h
    have := List.find?_eq_none.mp e x hx
    simp at this
  | some x =>
    have h1 := List.mem_of_find?_eq_some e
    have h2 := List.find?_some e
    have h2 : x.1 = k := of_decide_eq_true h2
    show (k, x.2) ∈ f
    rw [← h2]
    exact h1
def bk (ss : List Stg) (n : Nat) : Nat → List Nat × Way
  | 0 => (List.replicate (n + 1) 0, [])
  | i + 1 => ((lookA (ss.getD (n - 1 - i) []) (bk ss n i).1).map Prod.fst, lookA (ss.getD (n - 1 - i) []) (bk ss n i).1)
theorem row_zero {l : List Nat} (h : l.sum = 0) : l = List.replicate l.length 0 := by
  induction l with
  | nil => rfl
  | cons a r ih =>
    rw [List.sum_cons] at h
    rw [List.length_cons, List.replicate_succ, ← ih (by omega), show a = 0 by omega]
section
variable {nm : Nat → Bool} {n : Nat}
theorem bk_ok (hn : 0 < n) (h : stkIn (stagesOf ways nm n) = none) : ∀ i, i ≤ n → RowAt ways nm n (n - i) (bk (stagesOf ways nm n) n i).1
  | 0, _ => by
    obtain ⟨row, hr⟩ := (stages_whole hn h).2 n (Nat.le_refl _)
    have ok := RowAt.ok ways_ok hr
    have hz := zero_row ok.1.few (Nat.le_refl _)
    have := row_zero hz
    rw [ok.1.len] at this
    show RowAt ways nm n n (List.replicate (n + 1) 0)
    rw [← this]
    exact hr
  | i + 1, hi => by
    have ih := bk_ok hn h i (by omega)
    have hl := (stages_whole hn h).1
    obtain ⟨S, hS⟩ : ∃ S, (stagesOf ways nm n)[n - 1 - i]? = some S := ⟨_, List.getElem?_eq_getElem (by omega)⟩
    have hE := stagesOf_ent hS
    have hk : (bk (stagesOf ways nm n) n i).1 ∈ S.map Prod.fst := (hE.2 _).mpr (by rw [show n - 1 - i + 1 = n - i by omega]; exact ih)
    obtain ⟨row, hr, he⟩ := hE.1 _ (lookA_mem hk)
    show RowAt ways nm n (n - (i + 1)) ((lookA ((stagesOf ways nm n).getD (n - 1 - i) []) (bk (stagesOf ways nm n) n i).1).map Prod.fst)
    rw [List.getD_eq_getElem?_getD, hS, show n - (i + 1) = n - 1 - i by omega]
    show RowAt ways nm n (n - 1 - i) ((lookA S (bk (stagesOf ways nm n) n i).1).map Prod.fst)
    rw [show (lookA S (bk (stagesOf ways nm n) n i).1).map Prod.fst = row from he.1]
    exact hr
theorem bk_step (hn : 0 < n) (h : stkIn (stagesOf ways nm n) = none) {i : Nat} (hi : i < n) : ∃ S, (stagesOf ways nm n)[n - 1 - i]? = some S ∧ ((bk (stagesOf ways nm n) n i).1, (bk (stagesOf ways nm n) n (i + 1)).2) ∈ S ∧ EntP ways (bk (stagesOf ways nm n) n (i + 1)).1 (lsAt nm (n - 1 - i)) ((bk (stagesOf ways nm n) n i).1, (bk (stagesOf ways nm n) n (i + 1)).2) := by
  have ih := bk_ok hn h i (by omega)
  have hl := (stages_whole hn h).1
  obtain ⟨S, hS⟩ : ∃ S, (stagesOf ways nm n)[n - 1 - i]? = some S := ⟨_, List.getElem?_eq_getElem (by omega)⟩
  have hE := stagesOf_ent hS
  have hk : (bk (stagesOf ways nm n) n i).1 ∈ S.map Prod.fst := (hE.2 _).mpr (by rw [show n - 1 - i + 1 = n - i by omega]; exact ih)
  have e2 : (bk (stagesOf ways nm n) n (i + 1)).2 = lookA S (bk (stagesOf ways nm n) n i).1 := by
    show lookA ((stagesOf ways nm n).getD (n - 1 - i) []) _ = _
    rw [List.getD_eq_getElem?_getD, hS]
    rfl
  have e1 : (bk (stagesOf ways nm n) n (i + 1)).1 = (lookA S (bk (stagesOf ways nm n) n i).1).map Prod.fst := by
    show (lookA ((stagesOf ways nm n).getD (n - 1 - i) []) _).map Prod.fst = _
    rw [List.getD_eq_getElem?_getD, hS]
    rfl
  refine ⟨S, hS, by rw [e2]; exact lookA_mem hk, ?_⟩
  rw [e1, e2]
  obtain ⟨row, hr, he⟩ := hE.1 _ (lookA_mem hk)
  rw [show (lookA S (bk (stagesOf ways nm n) n i).1).map Prod.fst = row from he.1]
  exact he
end
/-! ### the numbers at each cell -/
structure Flow (nm : Nat → Bool) (n T : Nat) (e r d : Nat → Nat → Nat) : Prop where
  first : e 0 0 = n
  way : ∀ t i, t < T → i ≤ t → (r t i, d t i) ∈ ways (e t i) (nm (tri t + i))
  next : ∀ t i, t < T → i ≤ t + 1 → e (t + 1) i = (if i ≤ t then d t i else 0) + (if 0 < i then r t (i - 1) else 0)
  last : ∀ i, i ≤ T → e T i = 0
  bd : ∀ t i, t ≤ T → i ≤ t → e t i ≤ n
theorem getD_le_sum : ∀ (l : List Nat) (i : Nat), l.getD i 0 ≤ l.sum
  | [], i => Nat.zero_le _
  | a :: r, 0 => by rw [List.sum_cons]; show a ≤ _; omega
  | a :: r, i + 1 => by
    have := getD_le_sum r i
    rw [List.sum_cons]
    show r.getD i 0 ≤ _
    omega
def eB (ss : List Stg) (n t i : Nat) : Nat := (bk ss n (n - t)).1.getD i 0
def rB (ss : List Stg) (n t i : Nat) : Nat := ((bk ss n (n - t)).2.map fun x => x.2.1).getD i 0
def dB (ss : List Stg) (n t i : Nat) : Nat := ((bk ss n (n - t)).2.map fun x => x.2.2).getD i 0
theorem flow_bk {nm : Nat → Bool} {n : Nat} (hn : 0 < n) (h : stkIn (stagesOf ways nm n) = none) : Flow nm n n (eB (stagesOf ways nm n) n) (rB (stagesOf ways nm n) n) (dB (stagesOf ways nm n) n) := by
  have hrow : ∀ t, t ≤ n → RowAt ways nm n t (bk (stagesOf ways nm n) n (n - t)).1 := fun t ht => by
    have := bk_ok hn h (n - t) (by omega)
    rwa [show n - (n - t) = t by omega] at this
  have hst : ∀ t, t < n → EntP ways (bk (stagesOf ways nm n) n (n - t)).1 (lsAt nm t) ((bk (stagesOf ways nm n) n (n - (t + 1))).1, (bk (stagesOf ways nm n) n (n - t)).2) := fun t ht => by
    obtain ⟨S, _, _, he⟩ := bk_step hn h (i := n - 1 - t) (by omega)
    rw [show n - 1 - (n - 1 - t) = t by omega, show n - 1 - t + 1 = n - t by omega, show n - 1 - t = n - (t + 1) by omega] at he
    exact he
  refine ⟨?_, fun t i ht hi => ?_, fun t i ht hi => ?_, fun i hi => ?_, fun t i ht hi => ?_⟩
  · have : (bk (stagesOf ways nm n) n (n - 0)).1 = [n] := hrow 0 (Nat.zero_le _)
    unfold eB
    rw [this]
    rfl
  · obtain ⟨h1, h2, h3⟩ := hst t ht
    have hl := (RowAt.ok ways_ok (hrow t (by omega))).1.len
    obtain ⟨x, hx, hm⟩ := fits_at h2 i _ _ (List.getElem?_eq_getElem (by omega)) (show (lsAt nm t)[i]? = some (nm (tri t + i)) by unfold lsAt; rw [List.getElem?_map, List.getElem?_range (by omega)]; rfl)
    obtain ⟨y, hy, rfl⟩ : ∃ y, (bk (stagesOf ways nm n) n (n - t)).2[i]? = some y ∧ y.2 = x := by
      have hx : ((bk (stagesOf ways nm n) n (n - t)).2.map Prod.snd)[i]? = some x := hx
      rw [List.getElem?_map] at hx
      cases z : (bk (stagesOf ways nm n) n (n - t)).2[i]? with
      | none => rw [z] at hx; cases hx
      | some y => rw [z] at hx; exact ⟨y, rfl, Option.some.inj hx⟩
    have e1 : eB (stagesOf ways nm n) n t i = (bk (stagesOf ways nm n) n (n - t)).1[i]'(by omega) := by
      unfold eB
      rw [List.getD_eq_getElem?_getD, List.getElem?_eq_getElem (by omega)]
      rfl
    have e2 : rB (stagesOf ways nm n) n t i = y.2.1 := by
      unfold rB
      rw [List.getD_eq_getElem?_getD, List.getElem?_map, hy]
      rfl
    have e3 : dB (stagesOf ways nm n) n t i = y.2.2 := by
      unfold dB
      rw [List.getD_eq_getElem?_getD, List.getElem?_map, hy]
      rfl
    rw [e1, e2, e3]
    exact hm
  · obtain ⟨h1, h2, h3⟩ := hst t ht
    have h3 : (bk (stagesOf ways nm n) n (n - (t + 1))).1 = mg 0 ((bk (stagesOf ways nm n) n (n - t)).2.map Prod.snd) := h3
    have hl := (RowAt.ok ways_ok (hrow t (by omega))).1.len
    have hwl : (bk (stagesOf ways nm n) n (n - t)).2.length = t + 1 := by
      have := congrArg List.length (show (bk (stagesOf ways nm n) n (n - t)).2.map Prod.fst = _ from h1)
      rw [List.length_map] at this
      omega
    unfold eB
    rw [h3, mg_at, List.map_map, List.map_map]
    have a1 : (((bk (stagesOf ways nm n) n (n - t)).2).map (Prod.snd ∘ Prod.snd)).getD i 0 = if i ≤ t then dB (stagesOf ways nm n) n t i else 0 := by
      split
      · rfl
      · rw [List.getD_eq_getElem?_getD, List.getElem?_eq_none (by rw [List.length_map]; omega)]
        rfl
    rw [a1]
    congr 1
    cases i with
    | zero => rfl
    | succ j => rfl
  · have : n - n = 0 := by omega
    unfold eB
    rw [this]
    show (List.replicate (n + 1) 0).getD i 0 = 0
    rw [List.getD_eq_getElem?_getD, List.getElem?_replicate]
    split <;> rfl
  · have ok := RowAt.ok ways_ok (hrow t ht)
    have := getD_le_sum (bk (stagesOf ways nm n) n (n - t)).1 i
    unfold eB
    omega
/-! ### a routing, row by row -/
abbrev Rt := Nat × Nat × Nat × Nat × Nat
def rtN (x : Rt) : Nat := tri x.1 + x.2.1
def stepC (c : Nat → Nat) (x : Rt) : Nat → Nat := fun y => (if y = rtN x then 0 else c y) + (if y = tri (x.1 + 1) + x.2.1 then x.2.2.2.2 else 0) + (if y = tri (x.1 + 1) + x.2.1 + 1 then x.2.2.2.1 else 0)
def Acc (nm : Nat → Bool) : (Nat → Nat) → Int → List Rt → Prop
  | c, _, [] => ∀ y, c y = 0
  | c, last, x :: rows => last < (rtN x : Int) ∧ x.2.1 ≤ x.1 ∧ c (rtN x) = x.2.2.1 ∧ 0 < x.2.2.1 ∧ (x.2.2.2.1, x.2.2.2.2) ∈ ways x.2.2.1 (nm (rtN x)) ∧ Acc nm (stepC c x) (rtN x) rows
def cellR (e r d : Nat → Nat → Nat) (t i : Nat) : Option Rt := if 0 < e t i then some (t, i, e t i, r t i, d t i) else none
def cellsR (e r d : Nat → Nat → Nat) (t : Nat) : List Rt := (List.range (t + 1)).filterMap (cellR e r d t)
def rtOf (e r d : Nat → Nat → Nat) (T : Nat) : List Rt := (List.range T).flatMap (cellsR e r d)
theorem Acc.sorted {nm : Nat → Bool} : ∀ {rows : List Rt} {c : Nat → Nat} {last : Int}, Acc nm c last rows → (∀ x ∈ rows, last < (rtN x : Int)) ∧ rows.Pairwise fun x y => rtN x < rtN y
  | [], _, _, _ => ⟨fun _ h => absurd h List.not_mem_nil, .nil⟩
  | x :: rows, c, last, h => by
    obtain ⟨h1, _, _, _, _, h2⟩ := h
    have ih := Acc.sorted h2
    refine ⟨fun y hy => ?_, .cons (fun y hy => ?_) ih.2⟩
    · rcases List.mem_cons.mp hy with z | z
      · rw [z]; exact h1
      · have := ih.1 y z; omega
    · have := ih.1 y hy; omega
/-- the comers when the cells before i of diagonal t are done -/
def Cp (e r d : Nat → Nat → Nat) (t i : Nat) : Nat → Nat := fun y => (if tri t + i ≤ y ∧ y ≤ tri t + t then e t (y - tri t) else 0) + (if tri (t + 1) ≤ y ∧ y < tri (t + 1) + i then d t (y - tri (t + 1)) else 0) + (if tri (t + 1) + 1 ≤ y ∧ y < tri (t + 1) + 1 + i then r t (y - tri (t + 1) - 1) else 0)
section
variable {nm : Nat → Bool} {n T : Nat} {e r d : Nat → Nat → Nat}
theorem cp_step {t i : Nat} (hi : i ≤ t) : stepC (Cp e r d t i) (t, i, e t i, r t i, d t i) = Cp e r d t (i + 1) := by
  funext y
  have h1 := tri_succ t
  unfold stepC Cp rtN
  dsimp only
  by_cases a : y = tri t + i
  · rw [if_pos a, if_neg (by omega), if_neg (by omega), if_neg (by omega), if_neg (by omega), if_neg (by omega)]
  · rw [if_neg a]
    by_cases b : y = tri (t + 1) + i
    · rw [if_pos b, if_neg (by omega : ¬ y = tri (t + 1) + i + 1), if_neg (by omega : ¬ (tri t + i ≤ y ∧ y ≤ tri t + t)), if_neg (by omega : ¬ (tri (t + 1) ≤ y ∧ y < tri (t + 1) + i)), if_neg (by omega : ¬ (tri t + (i + 1) ≤ y ∧ y ≤ tri t + t)), if_pos (by omega : tri (t + 1) ≤ y ∧ y < tri (t + 1) + (i + 1))]
      rw [show y - tri (t + 1) = i by omega]
      by_cases c : 0 < i
      · rw [if_pos (by omega : tri (t + 1) + 1 ≤ y ∧ y < tri (t + 1) + 1 + i), if_pos (by omega : tri (t + 1) + 1 ≤ y ∧ y < tri (t + 1) + 1 + (i + 1))]
        first | done | omega
      · rw [if_neg (by omega : ¬ (tri (t + 1) + 1 ≤ y ∧ y < tri (t + 1) + 1 + i)), if_neg (by omega : ¬ (tri (t + 1) + 1 ≤ y ∧ y < tri (t + 1) + 1 + (i + 1)))]
        first | done | omega
    · rw [if_neg b]
      by_cases c : y = tri (t + 1) + i + 1
      · rw [if_pos c, if_neg (by omega : ¬ (tri t + i ≤ y ∧ y ≤ tri t + t)), if_neg (by omega : ¬ (tri (t + 1) ≤ y ∧ y < tri (t + 1) + i)), if_neg (by omega : ¬ (tri (t + 1) + 1 ≤ y ∧ y < tri (t + 1) + 1 + i)), if_neg (by omega : ¬ (tri t + (i + 1) ≤ y ∧ y ≤ tri t + t)), if_neg (by omega : ¬ (tri (t + 1) ≤ y ∧ y < tri (t + 1) + (i + 1))), if_pos (by omega : tri (t + 1) + 1 ≤ y ∧ y < tri (t + 1) + 1 + (i + 1))]
        rw [show y - tri (t + 1) - 1 = i by omega]
        first | done | omega
      · rw [if_neg c]
        have q1 : (tri t + i ≤ y ∧ y ≤ tri t + t) ↔ (tri t + (i + 1) ≤ y ∧ y ≤ tri t + t) := by omega
        have q2 : (tri (t + 1) ≤ y ∧ y < tri (t + 1) + i) ↔ (tri (t + 1) ≤ y ∧ y < tri (t + 1) + (i + 1)) := by omega
        have q3 : (tri (t + 1) + 1 ≤ y ∧ y < tri (t + 1) + 1 + i) ↔ (tri (t + 1) + 1 ≤ y ∧ y < tri (t + 1) + 1 + (i + 1)) := by omega
        simp only [q1, q2, q3, Nat.add_zero]
theorem cp_skip {t i : Nat} (hi : i ≤ t) (h0 : e t i = 0) (h1 : r t i = 0) (h2 : d t i = 0) : Cp e r d t i = Cp e r d t (i + 1) := by
  rw [← cp_step hi]
  funext y
  have h3 := tri_succ t
  unfold stepC rtN
  dsimp only
  simp only [h1, h2, ite_self, Nat.add_zero]
  by_cases a : y = tri t + i
  · rw [if_pos a]
    unfold Cp
    rw [if_pos (by omega : tri t + i ≤ y ∧ y ≤ tri t + t), if_neg (by omega : ¬ (tri (t + 1) ≤ y ∧ y < tri (t + 1) + i)), if_neg (by omega : ¬ (tri (t + 1) + 1 ≤ y ∧ y < tri (t + 1) + 1 + i)), show y - tri t = i by omega, h0]
  · rw [if_neg a]
theorem cp_diag (F : Flow nm n T e r d) {t : Nat} (ht : t < T) : Cp e r d t (t + 1) = Cp e r d (t + 1) 0 := by
  funext y
  have h1 := tri_succ t
  have h2 := tri_succ (t + 1)
  unfold Cp
  rw [if_neg (by omega : ¬ (tri t + (t + 1) ≤ y ∧ y ≤ tri t + t)), if_neg (by omega : ¬ (tri (t + 1 + 1) ≤ y ∧ y < tri (t + 1 + 1) + 0)), if_neg (by omega : ¬ (tri (t + 1 + 1) + 1 ≤ y ∧ y < tri (t + 1 + 1) + 1 + 0)), Nat.zero_add]
  by_cases a : tri (t + 1) ≤ y ∧ y ≤ tri (t + 1) + (t + 1)
  · rw [if_pos (by omega : tri (t + 1) + 0 ≤ y ∧ y ≤ tri (t + 1) + (t + 1)), F.next t (y - tri (t + 1)) ht (by omega)]
    have g1 : (if tri (t + 1) ≤ y ∧ y < tri (t + 1) + (t + 1) then d t (y - tri (t + 1)) else 0) = if y - tri (t + 1) ≤ t then d t (y - tri (t + 1)) else 0 := by
      by_cases b : y - tri (t + 1) ≤ t
      · rw [if_pos b, if_pos (by omega)]
      · rw [if_neg b, if_neg (by omega)]
    have g2 : (if tri (t + 1) + 1 ≤ y ∧ y < tri (t + 1) + 1 + (t + 1) then r t (y - tri (t + 1) - 1) else 0) = if 0 < y - tri (t + 1) then r t (y - tri (t + 1) - 1) else 0 := by
      by_cases b : 0 < y - tri (t + 1)
      · rw [if_pos b, if_pos (by omega)]
      · rw [if_neg b, if_neg (by omega)]
    simp only [g1, g2, Nat.add_zero]
  · rw [if_neg (by omega : ¬ (tri (t + 1) + 0 ≤ y ∧ y ≤ tri (t + 1) + (t + 1))), if_neg (by omega : ¬ (tri (t + 1) ≤ y ∧ y < tri (t + 1) + (t + 1))), if_neg (by omega : ¬ (tri (t + 1) + 1 ≤ y ∧ y < tri (t + 1) + 1 + (t + 1)))]
theorem acc_cells (F : Flow nm n T e r d) {t : Nat} (ht : t < T) : ∀ (m i : Nat) (last : Int) (tail : List Rt), i + m = t + 1 → last < ((tri t + i : Nat) : Int) → (∀ last' : Int, last' < ((tri (t + 1) : Nat) : Int) → Acc nm (Cp e r d t (t + 1)) last' tail) → Acc nm (Cp e r d t i) last ((List.range' i m).filterMap (cellR e r d t) ++ tail)
  | 0, i, last, tail, hm, hl, ht2 => by
    have : i = t + 1 := by omega
    subst this
    refine ht2 last ?_
    have := tri_succ t
    omega
  | m + 1, i, last, tail, hm, hl, ht2 => by
    have hi : i ≤ t := by omega
    have hw := F.way t i ht hi
    rw [List.range'_succ, List.filterMap_cons]
    unfold cellR
    by_cases a : 0 < e t i
    · rw [if_pos a]
      show Acc nm _ last ((t, i, e t i, r t i, d t i) :: (List.filterMap (cellR e r d t) (List.range' (i + 1) m) ++ tail))
      refine ⟨hl, hi, ?_, a, hw, ?_⟩
      · show Cp e r d t i (tri t + i) = e t i
        have := tri_succ t
        unfold Cp
        rw [if_pos (by omega), if_neg (by omega), if_neg (by omega), show tri t + i - tri t = i by omega]
        rfl
      · rw [cp_step hi]
        refine acc_cells F ht m (i + 1) _ tail (by omega) ?_ ht2
        show ((tri t + i : Nat) : Int) < _
        omega
    · rw [if_neg a]
      have h0 : e t i = 0 := by omega
      rw [h0] at hw
      have hz : r t i = 0 ∧ d t i = 0 := by
        rcases ways_mem.mp hw with ⟨_, z⟩ | ⟨_, z, _⟩ <;> omega
      rw [cp_skip hi h0 hz.1 hz.2]
      exact acc_cells F ht m (i + 1) last tail (by omega) (by omega) ht2
theorem acc_all (F : Flow nm n T e r d) : ∀ (k t : Nat) (last : Int), t + k = T → last < ((tri t : Nat) : Int) → Acc nm (Cp e r d t 0) last ((List.range' t k).flatMap (cellsR e r d))
  | 0, t, last, hk, hl => by
    have : t = T := by omega
    subst this
    intro y
    have h2 := tri_succ t
    unfold Cp
    rw [if_neg (by omega : ¬ (tri (t + 1) ≤ y ∧ y < tri (t + 1) + 0)), if_neg (by omega : ¬ (tri (t + 1) + 1 ≤ y ∧ y < tri (t + 1) + 1 + 0))]
    split
    · rw [F.last _ (by omega)]
    · rfl
  | k + 1, t, last, hk, hl => by
    rw [List.range'_succ, List.flatMap_cons]
    unfold cellsR
    rw [List.range_eq_range']
    refine acc_cells F (by omega) (t + 1) 0 last _ (by omega) (by omega) fun last' hl' => ?_
    rw [cp_diag F (by omega)]
    exact acc_all F k (t + 1) last' (by omega) hl'
theorem flow_acc (F : Flow nm n T e r d) (hT : 0 < T) : Acc nm (fun y => if y = 0 then n else 0) (-1) (rtOf e r d T) := by
  have h := acc_all F T 0 (-1) (Nat.zero_add T) (by omega)
  rw [← List.range_eq_range'] at h
  have e1 : Cp e r d 0 0 = fun y => if y = 0 then n else 0 := by
    funext y
    have h0 : tri 0 = 0 := rfl
    have h1 : tri (0 + 1) = 1 := rfl
    unfold Cp
    rw [h0, h1, if_neg (by omega : ¬ (1 ≤ y ∧ y < 1 + 0)), if_neg (by omega : ¬ (1 + 1 ≤ y ∧ y < 1 + 1 + 0))]
    by_cases a : y = 0
    · subst a; rw [if_pos (by omega), if_pos rfl]; exact F.first
    · rw [if_neg (by omega), if_neg a]
  rw [e1] at h
  exact h
/-! ### the mirrored routing -/
theorem Flow.mir {nm' : Nat → Bool} (F : Flow nm n T e r d) (h : Mir nm nm') : Flow nm' n T (fun t i => e t (t - i)) (fun t i => d t (t - i)) (fun t i => r t (t - i)) := by
  refine ⟨F.first, fun t i ht hi => ?_, fun t i ht hi => ?_, fun i hi => F.last _ (by omega), fun t i ht hi => F.bd t _ ht (by omega)⟩
  · have := ways_sw (F.way t (t - i) ht (by omega))
    rw [h t i hi]
    exact this
  · rw [F.next t (t + 1 - i) ht (by omega), Nat.add_comm]
    congr 1
    · by_cases a : i ≤ t
      · rw [if_pos a, if_pos (by omega), show t + 1 - i - 1 = t - i by omega]
      · rw [if_neg a, if_neg (by omega)]
    · by_cases a : 0 < i
      · rw [if_pos a, if_pos (by omega), show t + 1 - i = t - (i - 1) by omega]
      · rw [if_neg a, if_neg (by omega)]
theorem flatMap_perm {α β : Type} {f g : α → List β} : ∀ {l : List α}, (∀ a ∈ l, (f a).Perm (g a)) → (l.flatMap f).Perm (l.flatMap g)
  | [], _ => .refl _
  | a :: l, h => by
    rw [List.flatMap_cons, List.flatMap_cons]
    exact (h a List.mem_cons_self).append (flatMap_perm fun b hb => h b (List.mem_cons_of_mem _ hb))
theorem fm_congr {α β : Type} {f g : α → Option β} : ∀ {l : List α}, (∀ a ∈ l, f a = g a) → l.filterMap f = l.filterMap g
  | [], _ => rfl
  | a :: l, h => by
    rw [List.filterMap_cons, List.filterMap_cons, h a List.mem_cons_self, fm_congr fun b hb => h b (List.mem_cons_of_mem _ hb)]
def mirR (x : Rt) : Rt := (x.1, x.1 - x.2.1, x.2.2.1, x.2.2.2.2, x.2.2.2.1)
theorem mir_perm : (rtOf (fun t i => e t (t - i)) (fun t i => d t (t - i)) (fun t i => r t (t - i)) T).Perm ((rtOf e r d T).map mirR) := by
  unfold rtOf
  rw [List.map_flatMap]
  refine flatMap_perm fun t _ => ?_
  unfold cellsR
  rw [List.map_filterMap]
  have h1 : (List.range (t + 1)).filterMap (cellR (fun t i => e t (t - i)) (fun t i => d t (t - i)) (fun t i => r t (t - i)) t) = ((List.range (t + 1)).map fun i => t - i).filterMap (fun i => (cellR e r d t i).map mirR) := by
    rw [List.filterMap_map]
    refine fm_congr fun i hi => ?_
    have hi := List.mem_range.mp hi
    show cellR (fun t i => e t (t - i)) (fun t i => d t (t - i)) (fun t i => r t (t - i)) t i = (cellR e r d t (t - i)).map mirR
    unfold cellR
    split
    · show some _ = some (mirR _)
      unfold mirR
      dsimp only
      rw [show t - (t - i) = i by omega]
    · rfl
  rw [h1]
  refine List.Perm.filterMap _ ?_
  have h2 : (List.range (t + 1)).map (fun i => t - i) = (List.range (t + 1)).reverse := by
    refine List.ext_getElem? fun i => ?_
    by_cases hi : i < t + 1
    · rw [List.getElem?_map, List.getElem?_range hi, List.getElem?_reverse (by rw [List.length_range]; exact hi), List.length_range, List.getElem?_range (by omega)]
      show some (t - i) = some _
      congr 1
    · rw [List.getElem?_eq_none (by rw [List.length_map, List.length_range]; omega), List.getElem?_eq_none (by rw [List.length_reverse, List.length_range]; omega)]
  rw [h2]
  exact List.reverse_perm _
/-- the sorted rows are these -/
theorem sorted_is {α : Type} {f : α → Nat} : ∀ {b a : List α}, a.Perm b → a.Pairwise (fun x y => f x ≤ f y) → b.Pairwise (fun x y => f x < f y) → a = b
  | [], a, h, _, _ => h.eq_nil
  | y :: b, [], h, _, _ => by cases h.symm.eq_nil
  | y :: b, x :: a, h, ha, hb => by
    have hxy : x = y := by
      rcases List.mem_cons.mp (h.mem_iff.mp (List.mem_cons_self : x ∈ x :: a)) with z | z
      · exact z
      · have h1 := (List.pairwise_cons.mp hb).1 x z
        rcases List.mem_cons.mp (h.mem_iff.mpr (List.mem_cons_self : y ∈ y :: b)) with w | w
        · exact w.symm
        · have h2 := (List.pairwise_cons.mp ha).1 y w
          omega
    subst hxy
    rw [sorted_is (List.Perm.cons_inv h) (List.pairwise_cons.mp ha).2 (List.pairwise_cons.mp hb).2]
theorem rt_len : ∀ T, (rtOf e r d T).length ≤ tri T
  | 0 => Nat.le_refl _
  | T + 1 => by
    have ih := rt_len T
    unfold rtOf at ih ⊢
    rw [List.range_succ, List.flatMap_append, List.length_append, tri_succ]
    have : ([T].flatMap (cellsR e r d)).length ≤ T + 1 := by
      rw [List.flatMap_cons, List.flatMap_nil, List.append_nil]
      unfold cellsR
      have := List.length_filterMap_le (cellR e r d T) (List.range (T + 1))
      rw [List.length_range] at this
      exact this
    omega
theorem rt_mem {x : Rt} (h : x ∈ rtOf e r d T) : ∃ t i, t < T ∧ i ≤ t ∧ 0 < e t i ∧ x = (t, i, e t i, r t i, d t i) := by
  obtain ⟨t, ht, h⟩ := List.mem_flatMap.mp h
  obtain ⟨i, hi, h⟩ := List.mem_filterMap.mp h
  unfold cellR at h
  split at h
  · rename_i c
    exact ⟨t, i, List.mem_range.mp ht, by have := List.mem_range.mp hi; omega, c, (Option.some.inj h).symm⟩
  · cases h
end
def nameC (r d : Int) : Int := (r + d) * (r + d + 1) / 2 + r
theorem even_tt (t : Int) : 2 * (t * (t + 1) / 2) = t * (t + 1) := by
  have h : t % 2 = 0 ∨ t % 2 = 1 := by omega
  rcases h with h | h
  · obtain ⟨k, hk⟩ : ∃ k, t = 2 * k := ⟨t / 2, by omega⟩
    subst hk
    have : 2 * k * (2 * k + 1) = 2 * (k * (2 * k + 1)) := by rw [Int.mul_assoc]
    rw [this, Int.mul_ediv_cancel_left _ (by decide)]
  · obtain ⟨k, hk⟩ : ∃ k, t + 1 = 2 * k := ⟨(t + 1) / 2, by omega⟩
    rw [hk]
    have : t * (2 * k) = 2 * (t * k) := by rw [Int.mul_left_comm]
    rw [this, Int.mul_ediv_cancel_left _ (by decide)]
theorem mono_tt {t u : Int} (h0 : 0 ≤ t) (h : t < u) : t * (t + 1) / 2 + (t + 1) ≤ u * (u + 1) / 2 := by
  have e1 := even_tt t
  have e2 := even_tt u
  have h1 : (t + 1) * (t + 1 + 1) ≤ u * (u + 1) := Int.mul_le_mul (by omega) (by omega) (by omega) (by omega)
  have h2 : (t + 1) * (t + 1 + 1) = t * (t + 1) + 2 * (t + 1) := by rw [Int.mul_add (t + 1), Int.mul_one, Int.mul_comm (t + 1) (t + 1), Int.add_mul t 1, Int.one_mul]; omega
  omega
theorem name_inj {r d r' d' : Int} (h1 : 0 ≤ r) (h2 : 0 ≤ d) (h3 : 0 ≤ r') (h4 : 0 ≤ d') (h : nameC r d = nameC r' d') : r = r' ∧ d = d' := by
  unfold nameC at h
  rcases Int.lt_trichotomy (r + d) (r' + d') with c | c | c
  · have := mono_tt (by omega) c
    omega
  · rw [c] at h
    omega
  · have := mono_tt (by omega) c
    omega
theorem nameC_tri {t i : Nat} (h : i ≤ t) : nameC (i : Int) ((t : Int) - i) = ((tri t + i : Nat) : Int) := by
  unfold nameC tri
  rw [show (i : Int) + ((t : Int) - i) = (t : Int) by omega]
  push_cast
  rfl
/-- which cell has the name -/
theorem cell_is {t i : Nat} (h : i ≤ t) {r d : Int} (h0 : 0 ≤ r) (h1 : 0 ≤ d) (e : nameC r d = ((tri t + i : Nat) : Int)) : r = (i : Int) ∧ d = (t : Int) - i := by
  rw [← nameC_tri h] at e
  exact name_inj h0 h1 (by omega) (by omega) e
theorem StgAt.look {B : Hp} {k : List Nat} : ∀ {kvs : List (List Key × V)} {f : Stg}, StgAt B kvs f → k ∈ f.map Prod.fst → ∃ v, L2.valV kvs (rk k) = some v ∧ WayAt B v (lookA f k)
  | [], [], _, h => absurd h List.not_mem_nil
  | (a, v) :: kvs, (b, w) :: f, .cons h r, hk => by
    have h1 : a = rk b := h.1
    unfold L2.valV lookA
    rw [List.find?_cons, List.find?_cons]
    dsimp only
    by_cases c : b = k
    · rw [decide_eq_true c, decide_eq_true (show a = rk k by rw [h1, c])]
      exact ⟨v, rfl, h.2⟩
    · rw [decide_eq_false c, decide_eq_false (show ¬ a = rk k from fun z => c (rk_inj (h1.symm.trans z)))]
      have := StgAt.look (k := k) r (by
        rcases List.mem_cons.mp hk with z | z
        · exact absurd z.symm c
        · exact z)
      exact this
theorem paired_perm {α β : Type} {G : α → β → Prop} {l1 l2 : List α} (hp : l1.Perm l2) : ∀ {m : List β}, Paired G l2 m → ∃ m', Paired G l1 m' ∧ m'.Perm m := by
  induction hp with
  | nil => intro m h; exact ⟨m, h, .refl _⟩
  | cons x _ ih =>
    intro m h
    cases h with
    | cons a r =>
      obtain ⟨m', h1, h2⟩ := ih r
      exact ⟨_, .cons a h1, h2.cons _⟩
  | swap x y l =>
    intro m h
    cases h with
    | cons a r =>
      cases r with
      | cons b r => exact ⟨_, .cons b (.cons a r), .swap _ _ _⟩
  | trans _ _ ih1 ih2 =>
    intro m h
    obtain ⟨m1, h1, h2⟩ := ih2 h
    obtain ⟨m2, h3, h4⟩ := ih1 h1
    exact ⟨m2, h3, h4.trans h2⟩
def RtAt (B : Hp) (t : Addr) (x : Rt) : Prop := B t = some (.tup [.int (rtN x : Nat), .int (x.2.2.1 : Nat), .int (x.2.2.2.1 : Nat), .int (x.2.2.2.2 : Nat)])
def RtsAt (B : Hp) (ts : List Addr) (rows : List Rt) : Prop := Paired (RtAt B) ts rows
theorem RtsAt.mono {B B' : Hp} (s : Same B B') {ts : List Addr} {rows : List Rt} (h : RtsAt B ts rows) : RtsAt B' ts rows := Paired.mapP h fun _ _ z => s _ _ z
def rtI (x : Rt) : List Int := [(rtN x : Int), (x.2.2.1 : Int), (x.2.2.2.1 : Int), (x.2.2.2.2 : Int)]
theorem RtAt.tup {K : PySem.W.Frag} {B H : Hp} {t : Addr} {x : Rt} (h : RtAt B t x) (s : Same B H) : TupI K H (.ref t) (rtI x) := ⟨t, rfl, .inl (.inl (s _ _ h))⟩
theorem code_lt {x y : Rt} {Bd : Int} (h : TS.code Bd (rtI x) ≤ TS.code Bd (rtI y)) (hx : TS.Bd Bd (rtI x)) (hy : TS.Bd Bd (rtI y)) : rtN x ≤ rtN y := by
  refine Classical.byContradiction fun z => ?_
  have z : rtN y + 1 ≤ rtN x := by omega
  have c4 : ∀ a b c d : Int, TS.code Bd [a, b, c, d] = ((a * Bd + b) * Bd + c) * Bd + d := fun a b c d => by
    unfold TS.code TS.code TS.code TS.code TS.code
    simp [List.length, Int.pow_succ, Int.add_mul, Int.mul_add, Int.mul_assoc, Int.mul_comm, Int.mul_left_comm, Int.add_assoc, Int.add_comm, Int.add_left_comm]
  unfold rtI at h hx hy
  rw [c4, c4] at h
  have b0 : ∀ m ∈ [(rtN y : Int), (y.2.2.1 : Int), (y.2.2.2.1 : Int), (y.2.2.2.2 : Int)], 0 ≤ m ∧ m < Bd := hy
  have b1 : ∀ m ∈ [(rtN x : Int), (x.2.2.1 : Int), (x.2.2.2.1 : Int), (x.2.2.2.2 : Int)], 0 ≤ m ∧ m < Bd := hx
  have y1 := b0 (y.2.2.1 : Int) (by simp)
  have y2 := b0 (y.2.2.2.1 : Int) (by simp)
  have y3 := b0 (y.2.2.2.2 : Int) (by simp)
  have x1 := b1 (x.2.2.1 : Int) (by simp)
  have x2 := b1 (x.2.2.2.1 : Int) (by simp)
  have x3 := b1 (x.2.2.2.2 : Int) (by simp)
  have hB : 0 < Bd := by omega
  have s1 : (rtN y : Int) * Bd + y.2.2.1 + 1 ≤ (rtN x : Int) * Bd + x.2.2.1 := by
    have : ((rtN y : Int) + 1) * Bd ≤ (rtN x : Int) * Bd := Int.mul_le_mul_of_nonneg_right (by omega) (by omega)
    rw [Int.add_mul, Int.one_mul] at this
    omega
  have s2 : ((rtN y : Int) * Bd + y.2.2.1) * Bd + y.2.2.2.1 + 1 ≤ ((rtN x : Int) * Bd + x.2.2.1) * Bd + x.2.2.2.1 := by
    have : ((rtN y : Int) * Bd + y.2.2.1 + 1) * Bd ≤ ((rtN x : Int) * Bd + x.2.2.1) * Bd := Int.mul_le_mul_of_nonneg_right s1 (by omega)
    rw [Int.add_mul, Int.one_mul] at this
    omega
  have s3 : (((rtN y : Int) * Bd + y.2.2.1) * Bd + y.2.2.2.1 + 1) * Bd ≤ (((rtN x : Int) * Bd + x.2.2.1) * Bd + x.2.2.2.1) * Bd := Int.mul_le_mul_of_nonneg_right s2 (by omega)
  rw [Int.add_mul, Int.one_mul] at s3
  omega
/-- what sorted() makes of such rows -/
theorem rts_sorted {K : PySem.W.Frag} {B H : Hp} {ts : List Addr} {rows all : List Rt} {Bd : Int} {ys : List V} (h : RtsAt B ts rows) (s : Same B H) (hp : ys.Perm (ts.map V.ref)) (hs : ys.Pairwise fun x y => ∀ n m, TupI K H x n → TupI K H y m → TS.code Bd n ≤ TS.code Bd m)
    (hb : ∀ x ∈ all, TS.Bd Bd (rtI x)) (ha : rows.Perm all) (hd : all.Pairwise fun x y => rtN x < rtN y) : ∃ ts' : List Addr, ys = ts'.map V.ref ∧ RtsAt B ts' all := by
  obtain ⟨ts', rfl, hp2⟩ : ∃ ts' : List Addr, ys = ts'.map V.ref ∧ ts'.Perm ts := by
    have hz : ∀ y ∈ ys, ∃ t, y = V.ref t := fun y hy => by
      obtain ⟨t, _, e⟩ := List.mem_map.mp (hp.mem_iff.mp hy)
      exact ⟨t, e.symm⟩
    have : ∀ l : List V, (∀ y ∈ l, ∃ t, y = V.ref t) → ∃ us : List Addr, l = us.map V.ref := fun l => by
      induction l with
      | nil => intro _; exact ⟨[], rfl⟩
      | cons a r ih =>
        intro hl
        obtain ⟨us, e⟩ := ih fun y hy => hl y (List.mem_cons_of_mem _ hy)
        obtain ⟨t, et⟩ := hl a List.mem_cons_self
        exact ⟨t :: us, by rw [e, et]; rfl⟩
    obtain ⟨us, e⟩ := this ys hz
    refine ⟨us, e, ?_⟩
    rw [e] at hp
    have hm := hp.map (fun v => match v with | V.ref t => t | _ => 0)
    rw [List.map_map, List.map_map] at hm
    have : ∀ l : List Addr, l.map ((fun v => match v with | V.ref t => t | _ => 0) ∘ V.ref) = l := fun l => by
      induction l with
      | nil => rfl
      | cons a r ih => rw [List.map_cons, ih]; rfl
    rw [this, this] at hm
    exact hm
  obtain ⟨rows', h1, h2⟩ := paired_perm hp2 h
  have hpw : rows'.Pairwise fun x y => rtN x ≤ rtN y := by
    have hb' : ∀ x ∈ rows', TS.Bd Bd (rtI x) := fun x hx => hb x (ha.mem_iff.mp (h2.mem_iff.mp hx))
    clear h2 hp2 hp h
    replace h1 : Paired (RtAt B) ts' rows' := h1
    induction h1 with
    | nil => exact .nil
    | cons a r ih =>
      rw [List.map_cons] at hs
      obtain ⟨q1, q2⟩ := List.pairwise_cons.mp hs
      refine .cons (fun y hy => ?_) (ih q2 fun x hx => hb' x (List.mem_cons_of_mem _ hx))
      obtain ⟨j, hj⟩ := List.mem_iff_getElem?.mp hy
      have : ∀ {l1 : List Addr} {l2 : List Rt}, Paired (RtAt B) l1 l2 → ∀ {j : Nat} {y : Rt}, l2[j]? = some y → ∃ t, l1[j]? = some t ∧ RtAt B t y := fun {l1 l2} h => by
        induction h with
        | nil => intro j y e; cases e
        | cons a r ih =>
          intro j y e
          cases j with
          | zero => cases e; exact ⟨_, rfl, a⟩
          | succ j => exact ih e
      obtain ⟨t, et, ht⟩ := this r hj
      exact code_lt (q1 _ (List.mem_map.mpr ⟨t, List.mem_of_getElem? et, rfl⟩) _ _ (a.tup s) (ht.tup s)) (hb' _ List.mem_cons_self) (hb' y (List.mem_cons_of_mem _ hy))
  have : rows' = all := sorted_is (h2.trans ha) hpw hd
  exact ⟨ts', rfl, by rw [← this]; exact h1⟩
/-! ### cells of names -/
def cellN : Nat → Nat × Nat
  | 0 => (0, 0)
  | x + 1 => if (cellN x).2 < (cellN x).1 then ((cellN x).1, (cellN x).2 + 1) else ((cellN x).1 + 1, 0)
theorem cellN_ok : ∀ x, (cellN x).2 ≤ (cellN x).1 ∧ x = tri (cellN x).1 + (cellN x).2
  | 0 => ⟨Nat.le_refl _, rfl⟩
  | x + 1 => by
    obtain ⟨h1, h2⟩ := cellN_ok x
    have h3 := tri_succ (cellN x).1
    unfold cellN
    split
    · exact ⟨by dsimp only; omega, by dsimp only; omega⟩
    · exact ⟨Nat.zero_le _, by dsimp only; omega⟩
theorem tri_inj {t i s j : Nat} (hi : i ≤ t) (hj : j ≤ s) (h : tri t + i = tri s + j) : t = s ∧ i = j := by
  rcases Nat.lt_trichotomy t s with c | c | c
  · have := tri_mono (show t + 1 ≤ s from c)
    rw [tri_succ] at this
    omega
  · subst c; exact ⟨rfl, by omega⟩
  · have := tri_mono (show s + 1 ≤ t from c)
    rw [tri_succ] at this
    omega
theorem cellN_is {t i : Nat} (h : i ≤ t) : cellN (tri t + i) = (t, i) := by
  obtain ⟨h1, h2⟩ := cellN_ok (tri t + i)
  obtain ⟨a, b⟩ := tri_inj h h1 h2
  exact Prod.ext a.symm b.symm
def mirN (x : Nat) : Nat := tri (cellN x).1 + ((cellN x).1 - (cellN x).2)
theorem mirN_tri {t i : Nat} (h : i ≤ t) : mirN (tri t + i) = tri t + (t - i) := by unfold mirN; rw [cellN_is h]
theorem mirN_inv (x : Nat) : mirN (mirN x) = x := by
  obtain ⟨h1, h2⟩ := cellN_ok x
  show mirN (tri (cellN x).1 + ((cellN x).1 - (cellN x).2)) = x
  rw [mirN_tri (by omega)]
  omega
theorem mirN_lt {x : Nat} (h : x < 10 ^ 15) : mirN x < 10 ^ 16 ∧ (cellN x).1 < 10 ^ 8 := by
  obtain ⟨h1, h2⟩ := cellN_ok x
  have h3 : (cellN x).1 < 10 ^ 8 := by
    refine Classical.byContradiction fun z => ?_
    have := tri_mono (show 10 ^ 8 ≤ (cellN x).1 by omega)
    have e : tri (10 ^ 8) = 5000000050000000 := by decide +kernel
    omega
  refine ⟨?_, h3⟩
  unfold mirN
  omega
theorem mir_of {ms mm : List Nat} (h : ∀ x, x ∈ mm ↔ ∃ y ∈ ms, x = mirN y) : Mir (nmOf ms) (nmOf mm) := fun t i hi => by
  unfold nmOf
  rw [decide_eq_decide, h]
  constructor
  · rintro ⟨y, hy, e⟩
    have : mirN (mirN y) = tri t + (t - i) := by rw [← e, mirN_tri hi]
    rw [mirN_inv] at this
    rw [← this]
    exact hy
  · intro hy
    refine ⟨_, hy, ?_⟩
    rw [mirN_tri (by omega)]
    omega
theorem stk_mir {ms mm : List Nat} (hM : Mir (nmOf ms) (nmOf mm)) (hl : mm.length = ms.length) (h1 : 1 ≤ ms.length) : stkIn (stagesOf ways (nmOf mm) mm.length) = stkIn (stagesOf ways (nmOf ms) ms.length) := by
  have a := stk_isStuck (nm := nmOf ms) (n := ms.length) h1
  have b := stk_isStuck (nm := nmOf mm) (n := ms.length) h1
  rw [hl]
  exact b.inj (stuck_rev hM a)
theorem hall_of {ms : List Nat} (nd : ms.Nodup) (h1 : 1 ≤ ms.length) (h : stkIn (stagesOf ways (nmOf ms) ms.length) = none) : ∀ k, ∃ row, RowAt ways (nmOf ms) ms.length k row := by
  have hw := (stages_whole h1 h).2
  obtain ⟨r0, hr0⟩ := hw ms.length (Nat.le_refl _)
  have hz := zero_row (RowAt.ok ways_ok hr0).1.few (Nat.le_refl _)
  have go : ∀ k, ∃ row, RowAt ways (nmOf ms) ms.length (ms.length + k) row ∧ row.sum = 0 := by
    intro k
    induction k with
    | zero => exact ⟨r0, hr0, hz⟩
    | succ k ih =>
      obtain ⟨r, hr, hs⟩ := ih
      obtain ⟨⟨l0, _⟩, _⟩ := RowAt.ok ways_ok hr
      have hl : r.length = (lsAt (nmOf ms) (ms.length + k)).length := by rw [l0, lsAt_len]
      obtain ⟨c, hc⟩ := fits_zero r _ hl hs (none_after nd hr0 hz (Nat.le_add_right _ k))
      refine ⟨mg 0 c, ⟨r, hr, (rows_mem hl).mpr ⟨c, hc, rfl⟩⟩, ?_⟩
      rw [mg_sum]
      have := hc.total
      omega
  intro k
  rcases Nat.lt_or_ge k ms.length with c | c
  · exact hw k (by omega)
  · obtain ⟨r, hr, _⟩ := go (k - ms.length)
    rw [show ms.length + (k - ms.length) = k by omega] at hr
    exact ⟨r, hr⟩
/-- names of a possible list lie on its diagonals -/
theorem poss_lt {ms : List Nat} (nd : ms.Nodup) (h1 : 1 ≤ ms.length) (h : stkIn (stagesOf ways (nmOf ms) ms.length) = none) : ∀ x ∈ ms, (cellN x).1 < ms.length := fun x hx => by
  have hw := (stages_whole h1 h).2
  obtain ⟨r0, hr0⟩ := hw ms.length (Nat.le_refl _)
  have hz := zero_row (RowAt.ok ways_ok hr0).1.few (Nat.le_refl _)
  obtain ⟨c1, c2⟩ := cellN_ok x
  refine Classical.byContradiction fun z => ?_
  have := none_after nd hr0 hz (t := (cellN x).1) (by omega) (nmOf ms (tri (cellN x).1 + (cellN x).2)) (by
    unfold lsAt
    exact List.mem_map.mpr ⟨(cellN x).2, List.mem_range.mpr (by omega), rfl⟩)
  unfold nmOf at this
  rw [← c2] at this
  exact of_decide_eq_false this hx
theorem range_is : ∀ (l : List Nat) (k : Nat), l.Pairwise (· < ·) → (∀ x ∈ l, k ≤ x) → (∀ x ∈ l, ∀ y, k ≤ y → y < x → y ∈ l) → l = List.range' k l.length
  | [], _, _, _, _ => rfl
  | x :: r, k, h1, h2, h3 => by
    obtain ⟨p1, p2⟩ := List.pairwise_cons.mp h1
    have hx : x = k := by
      have := h2 x List.mem_cons_self
      rcases Nat.lt_or_ge k x with c | c
      · rcases List.mem_cons.mp (h3 x List.mem_cons_self k (Nat.le_refl _) c) with z | z
        · omega
        · have := p1 k z; omega
      · omega
    subst hx
    rw [List.length_cons, List.range'_succ, ← range_is r (x + 1) p2 (fun y hy => p1 y hy) fun y hy z hz hzy => by
      rcases List.mem_cons.mp (h3 y (List.mem_cons_of_mem _ hy) z (by omega) hzy) with w | w
      · omega
      · exact w]
/-- the columns of a possible list -/
theorem cover_cols {ms zs : List Nat} (hall : ∀ k, ∃ row, RowAt ways (nmOf ms) ms.length k row) (hz : zs.Pairwise (· < ·)) (hm : ∀ j, j ∈ zs ↔ ∃ x ∈ ms, (cellN x).2 = j) : zs = List.range zs.length := by
  have := range_is zs 0 hz (fun x _ => Nat.zero_le x) fun x hx y _ hyx => by
    obtain ⟨w, hw, e⟩ := (hm x).mp hx
    obtain ⟨c1, c2⟩ := cellN_ok w
    obtain ⟨s, hs, hl⟩ := cols_down hall (t := (cellN w).1) (i := (cellN w).2) (j := y) c1 (by unfold nmOf; rw [← c2]; exact decide_eq_true hw) (by omega)
    exact (hm y).mpr ⟨_, of_decide_eq_true hl, by rw [cellN_is hs]⟩
  rw [List.range_eq_range']
  exact this
theorem cover_rows {ms mm zs : List Nat} (hM : Mir (nmOf ms) (nmOf mm)) (hall : ∀ k, ∃ row, RowAt ways (nmOf mm) mm.length k row) (hz : zs.Pairwise (· < ·)) (hm : ∀ j, j ∈ zs ↔ ∃ x ∈ ms, (cellN x).1 - (cellN x).2 = j) : zs = List.range zs.length := by
  have hmir : ∀ t i, i ≤ t → (tri t + i ∈ mm ↔ tri t + (t - i) ∈ ms) := fun t i hi => by
    have := hM t i hi
    unfold nmOf at this
    rwa [decide_eq_decide] at this
  refine cover_cols hall hz fun j => (hm j).trans ⟨?_, ?_⟩
  · rintro ⟨x, hx, e⟩
    obtain ⟨c1, c2⟩ := cellN_ok x
    have h3 : tri (cellN x).1 + ((cellN x).1 - (cellN x).2) ∈ mm := (hmir _ _ (by omega)).mpr (by
      rw [show (cellN x).1 - ((cellN x).1 - (cellN x).2) = (cellN x).2 by omega, ← c2]
      exact hx)
    exact ⟨_, h3, by rw [cellN_is (by omega)]; exact e⟩
  · rintro ⟨x, hx, e⟩
    obtain ⟨c1, c2⟩ := cellN_ok x
    have h3 := (hmir (cellN x).1 (cellN x).2 c1).mp (by rw [← c2]; exact hx)
    exact ⟨_, h3, by rw [cellN_is (by omega)]; dsimp only; omega⟩
theorem len_cnt {P : Nat → Bool} {low : Nat} : ∀ (m : Nat) (h : List Nat), h.Nodup → (∀ x ∈ h, low ≤ x ∧ x < low + m ∧ P x = true) → h.length ≤ cntL P low m
  | 0, h, _, hb => by
    cases h with
    | nil => exact Nat.le_refl _
    | cons a r => have := hb a List.mem_cons_self; omega
  | m + 1, h, nd, hb => by
    show h.length ≤ cntL P low m + (if P (low + m) = true then 1 else 0)
    by_cases c : low + m ∈ h
    · have h1 := len_cnt m (h.erase (low + m)) (nd.erase _) fun x hx => by
        have h2 := List.mem_of_mem_erase hx
        have h3 := hb x h2
        have h4 : x ≠ low + m := fun e => by
          rw [e] at hx
          exact nd.not_mem_erase hx
        exact ⟨h3.1, by omega, h3.2.2⟩
      have h5 := List.length_erase_of_mem c
      have h6 := List.length_pos_of_mem c
      rw [if_pos (hb _ c).2.2]
      omega
    · have h1 := len_cnt (P := P) (low := low) m h nd fun x hx => by
        have h3 := hb x hx
        have h4 : x ≠ low + m := fun e => c (by rw [← e]; exact hx)
        exact ⟨h3.1, by omega, h3.2.2⟩
      omega
/-- as many names on neighbouring cells as may be -/
theorem here_few {ms h : List Nat} {t low high : Nat} (hall : ∀ k, ∃ row, RowAt ways (nmOf ms) ms.length k row) (hlo : tri t + low ∈ ms) (hlt : high ≤ t) (hlh : low ≤ high) (nd : h.Nodup) (hb : ∀ x ∈ h, low ≤ x ∧ x ≤ high ∧ tri t + x ∈ ms) : h.length + t ≤ ms.length + (high - low) := by
  have h1 := names_few (m := high - low + 1) hall (by omega) (t := t) (low := low) (by omega) (by unfold nmOf; exact decide_eq_true hlo)
  have h2 := len_cnt (P := fun i => nmOf ms (tri t + i)) (low := low) (high - low + 1) h nd fun x hx => ⟨(hb x hx).1, by have := (hb x hx).2.1; omega, by unfold nmOf; exact decide_eq_true (hb x hx).2.2⟩
  omega
/-- one name more, beside the end of the first row -/
theorem more_poss {ms ns : List Nat} {R : Nat} (nd : ms.Nodup) (h1 : 1 ≤ ms.length) (h : stkIn (stagesOf ways (nmOf ms) ms.length) = none) (hR : R = 0 ∨ ∃ r, R = r + 1 ∧ tri r + r ∈ ms) (hm : ∀ r, tri r + r ∈ ms → r + 1 ≤ R) (hl : ns.length = ms.length + 1) (hn : ∀ x, x ∈ ns ↔ x ∈ ms ∨ x = tri R + R) : stkIn (stagesOf ways (nmOf ns) ns.length) = none := by
  have hall := hall_of nd h1 h
  have r1 : ∀ r, r + 1 = R → nmOf ms (tri r + r) = true := fun r hr => by
    rcases hR with z | ⟨s, e, hs⟩
    · omega
    · rw [show r = s by omega]
      exact decide_eq_true hs
  have r2 : nmOf ms (tri R + R) = false := decide_eq_false fun z => by have := hm R z; omega
  have key := one_more (nm := nmOf ms) (nm' := nmOf ns) (n := ms.length) (R := R) hall r1 r2 fun x => by
    unfold nmOf
    rw [Bool.eq_iff_iff, Bool.or_eq_true, decide_eq_true_eq, decide_eq_true_eq, decide_eq_true_eq]
    exact hn x
  rw [hl]
  exact (stk_isStuck (nm := nmOf ns) (n := ms.length + 1) (by omega)).inj (b := none) fun k _ => key k
/-- the mirrored routing is a routing of the mirrored list -/
theorem acc_mir {ms mm : List Nat} (hM : Mir (nmOf ms) (nmOf mm)) (hl : mm.length = ms.length) (h1 : 1 ≤ ms.length) (h : stkIn (stagesOf ways (nmOf ms) ms.length) = none) :
    ∃ all, all.Perm ((rtOf (eB (stagesOf ways (nmOf ms) ms.length) ms.length) (rB (stagesOf ways (nmOf ms) ms.length) ms.length) (dB (stagesOf ways (nmOf ms) ms.length) ms.length) ms.length).map mirR) ∧ Acc (nmOf mm) (fun y => if y = 0 then mm.length else 0) (-1) all := by
  have F := flow_bk (nm := nmOf ms) h1 h
  have F2 := F.mir hM
  rw [hl]
  exact ⟨_, mir_perm, flow_acc F2 h1⟩
theorem stagesOf_ne {wf : Nat → Bool → List (Nat × Nat)} {nm : Nat → Bool} {n : Nat} (h : 0 < n) : stagesOf wf nm n ≠ [] := by
  obtain ⟨m, rfl⟩ : ∃ m, n = m + 1 := ⟨n - 1, by omega⟩
  intro z
  cases z
def stkOf (ms : List Nat) : Option Nat := stkIn (stagesOf ways (nmOf ms) ms.length)
section
variable {P : Program} {w : World} {K : PySem.W.Frag} {mg : Str → Option Value} {bs : Heap} {d : Ad}
theorem ok_x_Impossible (m : Mo P K mg d) : FnOk P w K mg bs CX0 2 d.xf_Impossible d.xd_Impossible ["self", "diagonal"] (sp_xinit d.c_Impossible "diagonal") := by
  refine fn_super (k := 1) (N := ["self", "diagonal", "__class__"]) m.O_Impossible.S m.O_Impossible.T (NdefX.nscope_by (by decide +kernel)) rfl (fun _ => rfl) (fun _ => rfl) (fun _ => rfl) (fun vs H Q E h => ?_) (fun cda A outer s H vs Q E hr h => ?_)
  · obtain ⟨a, n, rfl, _⟩ := h
    rfl
  · obtain ⟨a, n, rfl, hn, hl, ha, q⟩ := h
    refine ⟨a, _, _, rfl, ha, (pe_joined (.cons pe_str (.cons (pe_fmt (pv 1)) .nil))), (pss_one (ps_ost (pv 0) (pv 1))), ?_⟩
    exact xinit_go m.O_Impossible.T m.O_Impossible.no (by decide +kernel) hn hl ha q
/-! cut is_integer -/
def sp_is_integer (K : PySem.W.Frag) : Sp := fun vs H Q _ => ∃ a : Int, vs = [.int a] ∧ Q (.bl true) H
theorem ok_is_integer (m : Mo P K mg d) (sm : SM bs) : FnOk P w K mg bs CX0 1 d.a_is_integer d.fd_is_integer ["value"] (sp_is_integer K) := by
  refine m.F_is_integer.ok (k := 0) sc_is_integer (fun vs H Q E h => ?_) (fun cdv A fr s H vs Q E hr h => ?_)
  · obtain ⟨a, rfl, q⟩ := h
    rfl
  · obtain ⟨a, rfl, q⟩ := h
    refine ⟨_, (pss_one (ps_ret (pe_and (pe_callB cr_is (by rfl) m.n_isinstance (by decide +kernel) (pa_cons (pv 0) (pa_cons (pe_bltn (v := .ty "int") (by rfl) m.n_int (by decide +kernel) rfl) pa_nil))) (pe_one (pe_not (pe_callB cr_is (by rfl) m.n_isinstance (by decide +kernel) (pa_cons (pv 0) (pa_cons (pe_bltn (v := .ty "bool") (by rfl) m.n_bool (by decide +kernel) rfl) pa_nil)))))))), ?_⟩
    walk_at "vc"
    exact q
/-! cut is_integer_list -/
def sp_is_integer_list (K : PySem.W.Frag) : Sp := fun vs H Q _ => ∃ (a : Addr) (ms : List Nat), vs = [.ref a] ∧ SqL K H a (nv ms) ∧ ∀ H', Same H H' → Q (.bl true) H'
theorem ok_is_integer_list (m : Mo P K mg d) (sm : SM bs) (G_is_integer : FnOk P w K mg bs CX0 1 d.a_is_integer d.fd_is_integer ["value"] (sp_is_integer K)) : FnOk P w K mg bs CX0 2 d.a_is_integer_list d.fd_is_integer_list ["value"] (sp_is_integer_list K) := by
  refine m.F_is_integer_list.ok (k := 1) sc_is_integer_list (fun vs H Q E h => ?_) (fun cdv A fr s H vs Q E hr h => ?_)
  · obtain ⟨a, ms, rfl, hS, q⟩ := h
    rfl
  · obtain ⟨a, ms, rfl, hS, q⟩ := h
    refine ⟨_, (pss_one (ps_ret (pe_and (pe_callB cr_is (by rfl) m.n_isinstance (by decide +kernel) (pa_cons (pv 0) (pa_cons (pe_bltn (v := .ty "list") (by rfl) m.n_list (by decide +kernel) rfl) pa_nil))) (pe_one (pe_cmpR (op_eqL hr.units) (pe_lc (own := [("item", 1)]) (by rfl) sc_is_integer_list.nd (pi_list (pv 0)) (blkOk_by (own := [("item", 1)]) (N := ["value", "item"]) (sc := defScope s_is_integer_list) (by decide +kernel)) (fun _ _ _ _ _ => by exact (pg_name (i := 1) sc_is_integer_list.nd rfl (.inl rfl))) (fun _ _ _ _ _ => by exact (pts_one (pt_not (pt_val (pe_call G_is_integer (hr.mono (by decide)) (by rfl) m.g_is_integer m.F_is_integer.kp m.b_is_integer .nil pass0 (pa_cons (pv 1) pa_nil)))))) (fun _ _ _ _ _ => by exact (pv 1))) (pe_lst pa_nil) (nomark _)))))), ?_⟩
    walk_at "vc"
    refine IsK.lstL (b := true) hS (by decide +kernel) ?_
    walk_at "vc"
    refine ⟨⟨_, hS⟩, ?_⟩
    refine comp_list (xs := nv ms) (fun j z acc H' => acc = [] ∧ Led H H' [(z, .lst [])]) (fun z hz => ⟨rfl, (Led.nil H).new hz⟩) (fun j z acc H' h => h.2.seq hS) ?_ ?_
    · rintro z acc H2 ⟨rfl, L⟩
      refine NewK.of L fun e0 H3 L => ?_
      refine EqL0 (L.lstAt (xs := []) (by walk_at "mem")) (L.lstAt (by walk_at "mem")) ?_
      exact q _ L.sm
    · rintro j z acc H2 x N hx ⟨rfl, L⟩ hN
      obtain ⟨p, hp, rfl⟩ := nv_at hx
      unfold TurnK
      walk_at "vc"
      refine ⟨_, rfl, ?_⟩
      walk_at "vc"
      exact hN _ _ ⟨rfl, L⟩
/-! cut is_name_list -/
instance : DecidablePred Asc := fun ms => inferInstanceAs (Decidable (ms.Pairwise (· < ·)))
def NL (ms : List Nat) : Prop := Asc ms ∧ 1 ≤ ms.length ∧ ms.length ≤ 8
instance : DecidablePred NL := fun ms => inferInstanceAs (Decidable (_ ∧ _ ∧ _))
def sp_is_name_list (K : PySem.W.Frag) : Sp := fun vs H Q _ => ∃ (a : Addr) (ms : List Nat), vs = [.ref a] ∧ SqL K H a (nv ms) ∧ ∀ H', Same H H' → Q (.bl (decide (NL ms))) H'
theorem ok_is_name_list (m : Mo P K mg d) (sm : SM bs) (G_is_integer_list : FnOk P w K mg bs CX0 2 d.a_is_integer_list d.fd_is_integer_list ["value"] (sp_is_integer_list K)) : FnOk P w K mg bs CX0 3 d.a_is_name_list d.fd_is_name_list ["value"] (sp_is_name_list K) := by
  obtain ⟨t_MOST_NAMES, h_MOST_NAMES⟩ := m.mg_MOST_NAMES
  refine m.F_is_name_list.ok (k := 2) sc_is_name_list (fun vs H Q E h => ?_) (fun cdv A fr s H vs Q E hr h => ?_)
  · obtain ⟨a, ms, rfl, hS, q⟩ := h
    rfl
  · obtain ⟨a, ms, rfl, hS, q⟩ := h
    refine ⟨_, (pss_cons (ps_if (PW.pt (pw_or (pt_not (pt_val (pe_call G_is_integer_list (hr.mono (by decide)) (by rfl) m.g_is_integer_list m.F_is_integer_list.kp m.b_is_integer_list .nil pass0 (pa_cons (pv 0) pa_nil)))) (pw_or1 (pt_not (pt_chain op_le op_le pe_int (pe_callB cr_len (by rfl) m.n_len (by decide +kernel) (pa_cons (pv 0) pa_nil)) (pe_glob (v := .int (8)) rfl h_MOST_NAMES ⟨_, rfl⟩))))))
      (pss_one (ps_ret pe_bl))
      pss_nil)
      (pss_cons (ps_asg (pe_un un_neg pe_int) (pg_name (i := 1) sc_is_name_list.nd rfl (.inl rfl)))
      (pss_cons (ps_for PassesOwn.never rfl (pi_list (pv 0)) (pg_name (i := 2) sc_is_name_list.nd rfl (.inl rfl))
      (pss_cons (ps_if (pt_cmpR op_le (pv 2) (pv 1) (nomark _))
      (pss_one (ps_ret pe_bl))
      pss_nil)
      (pss_one (ps_asg (pv 2) (pg_name (i := 1) sc_is_name_list.nd rfl (.inl rfl))))))
      (pss_one (ps_ret pe_bl))))), ?_⟩
    walk_at "vc"
    refine ⟨a, ms, rfl, hS, fun H1 s1 => ?_⟩
    have hS := s1.seq hS
    walk_at "vc"
    refine LenK.ofL hS ?_
    rw [nv_len]
    walk_at "vc"
    by_cases hl : 1 ≤ ms.length ∧ ms.length ≤ 8
    · rw [if_pos (by omega), decide_eq_true (by omega), if_neg (by decide)]
      refine ⟨⟨_, hS⟩, ?_⟩
      refine loop_list (xs := nv ms) (fun i σ H' => H' = H1 ∧ Asc (ms.take i) ∧ ∃ y, σ = [some (.ref a), some (.int (lastZ (ms.take i))), y]) ⟨rfl, List.Pairwise.nil, _, rfl⟩ (fun i σ H' _ h => by rw [h.1]; exact hS) (fun i x σ H' N hx h hN => ?_) (fun σ H' h => ?_)
      · obtain ⟨rfl, has, y, rfl⟩ := h
        obtain ⟨p, hp, rfl⟩ := nv_at hx
        rw [take_more hp] at hN
        walk_at "vc"
        by_cases hlt : lastZ (ms.take i) < (p : Int)
        · rw [if_neg (by omega)]
          exact hN _ _ ⟨rfl, has.app hlt, _, by rw [lastZ_app]⟩
        · rw [if_pos (by omega)]
          rw [decide_eq_false (fun z => hlt (Asc.last (by rw [← take_more hp]; exact z.1.take _)))] at q
          exact q _ s1
      · obtain ⟨rfl, has, y, rfl⟩ := h
        rw [nv_len, List.take_length] at has
        walk_at "vc"
        rw [decide_eq_true (show NL ms from ⟨has, hl.1, hl.2⟩)] at q
        exact q _ s1
    · have e : decide (NL ms) = false := decide_eq_false fun z => hl z.2
      rw [e] at q
      split
      · rw [decide_eq_false (by omega)]
        walk_at "vc"
        exact q _ s1
      · walk_at "vc"
        exact q _ s1
/-! cut check_names -/
def sp_check_names (K : PySem.W.Frag) : Sp := fun vs H Q _ => ∃ (a : Addr) (ms : List Nat), vs = [.ref a] ∧ SqL K H a (nv ms) ∧ Asc ms ∧ 1 ≤ ms.length ∧ ms.length ≤ 8 ∧ ∀ H', Same H H' → Q .non H'
theorem ok_check_names (m : Mo P K mg d) (sm : SM bs) (G_is_name_list : FnOk P w K mg bs CX0 3 d.a_is_name_list d.fd_is_name_list ["value"] (sp_is_name_list K)) : FnOk P w K mg bs CX0 4 d.a_check_names d.fd_check_names ["names"] (sp_check_names K) := by
  refine m.F_check_names.ok (k := 3) sc_check_names (fun vs H Q E h => ?_) (fun cdv A fr s H vs Q E hr h => ?_)
  · obtain ⟨a, ms, rfl, hS, ha, h1, h8, q⟩ := h
    rfl
  · obtain ⟨a, ms, rfl, hS, ha, h1, h8, q⟩ := h
    refine ⟨_, (pss_one (ps_if (pt_not (pt_val (pe_call G_is_name_list (hr.mono (by decide)) (by rfl) m.g_is_name_list m.F_is_name_list.kp m.b_is_name_list .nil pass0 (pa_cons (pv 0) pa_nil))))
      (pss_one ps_never)
      pss_nil)), ?_⟩
    walk_at "vc"
    refine ⟨a, ms, rfl, hS, fun H1 s1 => ?_⟩
    rw [decide_eq_true (show NL ms from ⟨ha, h1, h8⟩)]
    walk_at "vc"
    exact q H1 s1
/-! cut ways_on -/
def PrsAt (B : Hp) (as : List Addr) (l : List (Nat × Nat)) : Prop := Paired (PrAt B) as l
theorem PrsAt.mono {B B' : Hp} (s : Same B B') {as : List Addr} {l : List (Nat × Nat)} (h : PrsAt B as l) : PrsAt B' as l := Paired.mapP h fun _ _ z => s _ _ z
def sp_ways_on (K : PySem.W.Frag) : Sp := fun vs H Q _ => ∃ (e : Nat) (b : Bool), vs = [.int e, .bl b] ∧ e ≤ 100 ∧ ∀ p H' B' as, Same H B' → PrsAt B' as (ways e b) → Led B' H' [(p, .lst (as.map V.ref))] → Q (.ref p) H'
theorem ok_ways_on (m : Mo P K mg d) (sm : SM bs) : FnOk P w K mg bs CX0 1 d.a_ways_on d.fd_ways_on ["entered", "listed"] (sp_ways_on K) := by
  refine m.F_ways_on.ok (k := 0) sc_ways_on (fun vs H Q E h => ?_) (fun cdv A fr s H vs Q E hr h => ?_)
  · obtain ⟨e, b, rfl, he, q⟩ := h
    rfl
  · obtain ⟨e, b, rfl, he, q⟩ := h
    refine ⟨_, (pss_cons (ps_if (pt_val (pv 1))
      (pss_one (ps_ret (pe_lc (own := [("right", 2)]) (by rfl) sc_ways_on.nd (pi_range1 (by rfl) m.n_range (pa_cons (pv 0) pa_nil)) (blkOk_by (own := [("right", 2)]) (N := ["entered", "listed", "right"]) (sc := defScope s_ways_on) (by decide +kernel)) (fun _ _ _ _ _ => by exact (pg_name (i := 2) sc_ways_on.nd rfl (.inl rfl))) (fun _ _ _ _ _ => by exact pts_nil) (fun _ _ _ _ _ => by exact (pe_tup (pa_cons (pv 2) (pa_cons (pe_op op_sub (pe_op op_sub (pv 0) pe_int) (pv 2)) pa_nil)))))))
      pss_nil)
      (pss_cons (ps_if (pt_cmpR op_eq (pv 0) pe_int (nomark _))
      (pss_one (ps_ret (pe_lst (pa_cons (pe_tup (pa_cons pe_int (pa_cons pe_int pa_nil))) pa_nil))))
      pss_nil)
      (pss_one (ps_ret (pe_lc (own := [("right", 2)]) (by rfl) sc_ways_on.nd (pi_range2 (by rfl) m.n_range (pa_cons pe_int (pa_cons (pv 0) pa_nil))) (blkOk_by (own := [("right", 2)]) (N := ["entered", "listed", "right"]) (sc := defScope s_ways_on) (by decide +kernel)) (fun _ _ _ _ _ => by exact (pg_name (i := 2) sc_ways_on.nd rfl (.inl rfl))) (fun _ _ _ _ _ => by exact pts_nil) (fun _ _ _ _ _ => by exact (pe_tup (pa_cons (pv 2) (pa_cons (pe_op op_sub (pv 0) (pv 2)) pa_nil))))))))), ?_⟩
    unfold ways at q
    walk_at "vc"
    cases b with
    | true =>
      rw [if_pos rfl] at q ⊢
      refine ⟨by omega, by omega, ?_⟩
      refine comp_range (fun j z acc H' => ∃ B2 as, Same H B2 ∧ acc = as.map V.ref ∧ PrsAt B2 as ((List.range j).map fun r => (r, e - 1 - r)) ∧ Led B2 H' [(z, .lst acc)]) (fun z hz => ⟨H, [], Same.refl _, rfl, .nil, (Led.nil H).new hz⟩) ?_ ?_
      · rintro z acc H6 ⟨B2, as, s2, rfl, hr, L⟩
        rw [Int.toNat_natCast] at hr
        exact q z H6 B2 as s2 hr L
      · rintro j z acc H6 N hj ⟨B2, as, s2, rfl, hr, L⟩ hN
        rw [Int.toNat_natCast] at hj
        unfold TurnK
        walk_at "vc"
        refine NewK.of L fun t H7 L => ?_
        obtain ⟨B3, s3, h3, L⟩ := L.sink
        have hl : as.length = j := by rw [Paired.length hr, List.length_map, List.length_range]
        refine AppK.of L (by walk_at "mem") (Nat.lt_of_lt_of_le (m := 200) (by rw [List.length_map]; omega) (by decide)) (by walk_at "put") fun H8 L => hN _ _ ⟨B3, as ++ [t], s2.trans s3, by rw [List.map_append]; rfl, ?_, L⟩
        rw [List.range_succ, List.map_append]
        refine Paired.snoc (PrsAt.mono s3 hr) ?_
        unfold PrAt
        rw [h3]
        dsimp only
        rw [show ((e - 1 - j : Nat) : Int) = (e : Int) - 1 - (j : Int) by omega]
    | false =>
      rw [if_neg Bool.false_ne_true] at q ⊢
      split
      · rename_i c
        rw [if_pos (by omega)] at q
        refine NewK.of (Led.nil H) fun t H7 L => ?_
        obtain ⟨B3, s3, h3, L⟩ := L.sink
        refine NewK.of L fun p H8 L => q p H8 B3 [t] s3 (.cons h3 .nil) L
      · rename_i c
        rw [if_neg (by omega)] at q
        refine ⟨by decide, by decide, by omega, by omega, ?_⟩
        refine comp_range (fun j z acc H' => ∃ B2 as, Same H B2 ∧ acc = as.map V.ref ∧ PrsAt B2 as ((List.range j).map fun r => (r + 1, e - (r + 1))) ∧ Led B2 H' [(z, .lst acc)]) (fun z hz => ⟨H, [], Same.refl _, rfl, .nil, (Led.nil H).new hz⟩) ?_ ?_
        · rintro z acc H6 ⟨B2, as, s2, rfl, hr, L⟩
          rw [show ((e : Int) - 1).toNat = e - 1 by omega] at hr
          exact q z H6 B2 as s2 hr L
        · rintro j z acc H6 N hj ⟨B2, as, s2, rfl, hr, L⟩ hN
          rw [show ((e : Int) - 1).toNat = e - 1 by omega] at hj
          unfold TurnK
          walk_at "vc"
          refine NewK.of L fun t H7 L => ?_
          obtain ⟨B3, s3, h3, L⟩ := L.sink
          have hl : as.length = j := by rw [Paired.length hr, List.length_map, List.length_range]
          refine AppK.of L (by walk_at "mem") (Nat.lt_of_lt_of_le (m := 200) (by rw [List.length_map]; omega) (by decide)) (by walk_at "put") fun H8 L => hN _ _ ⟨B3, as ++ [t], s2.trans s3, by rw [List.map_append]; rfl, ?_, L⟩
          rw [List.range_succ, List.map_append]
          refine Paired.snoc (PrsAt.mono s3 hr) ?_
          unfold PrAt
          rw [h3]
          dsimp only
          rw [show ((e - (j + 1) : Nat) : Int) = (e : Int) - (1 + (j : Int)) by omega, show ((j + 1 : Nat) : Int) = 1 + (j : Int) by omega]
/-! cut row_with_cell -/
def sp_row_with_cell (K : PySem.W.Frag) : Sp := fun vs H Q _ => ∃ (a : Addr) (row : List Nat) (r d : Nat), vs = [.ref a, .int r, .int d] ∧ H a = some (.tup (nv row)) ∧ 0 < row.length ∧ row.length ≤ 100 ∧ ∀ p B' H', Same H B' → B' p = some (.tup (nv (ext row r d))) → Led B' H' [] → Q (.ref p) H'
theorem ok_row_with_cell (m : Mo P K mg d) (sm : SM bs) : FnOk P w K mg bs CX0 1 d.a_row_with_cell d.fd_row_with_cell ["later", "right", "down"] (sp_row_with_cell K) := by
  refine m.F_row_with_cell.ok (k := 0) sc_row_with_cell (fun vs H Q E h => ?_) (fun cdv A fr s H vs Q E hr h => ?_)
  · obtain ⟨a, row, r0, d', rfl, ha, h0, hl, q⟩ := h
    rfl
  · obtain ⟨a, row, r0, d', rfl, ha, h0, hl, q⟩ := h
    refine ⟨_, (pss_one (ps_ret (pe_op op_catA (pe_slice sl_tupA (pv 0) po_none (po_some (pe_un un_neg pe_int))) (pe_tup (pa_cons (pe_op op_add (pe_ix ix_tup (pv 0) (pe_un un_neg pe_int) (fun _ _ => rfl)) (pv 2)) (pa_cons (pv 1) pa_nil)))))), ?_⟩
    walk_at "vc"
    refine SlTK.of (Led.nil H) ha fun s B1 H1 s1 hs L => ?_
    rw [nv_split h0, cut_last] at hs
    refine IxTK.of (.inl (.inl ((s1.trans L.sm) _ _ ha))) (i := -1) (v := .int (row.getLastD 0 : Nat)) (by rw [nv_split h0]; exact atI_last _ _) ?_
    walk_at "vc"
    refine NewK.of L fun t H2 L => ?_
    obtain ⟨B2, s2, h2, L⟩ := L.sink
    refine CatTK.of L (s2 _ _ hs) h2 (Nat.le_trans (m := 200) (by rw [nv_len, List.length_dropLast]; simp; omega) (by decide)) fun r B3 H3 s3 h3 L => ?_
    refine q r B3 H3 ((s1.trans s2).trans s3) ?_ L
    rw [h3]
    unfold ext
    rw [show row.dropLast ++ [row.getLastD 0 + d', r0] = (row.dropLast ++ [row.getLastD 0 + d']) ++ [r0] by simp, nv_app, nv_app, List.append_assoc]
    rfl
/-! cut ways_from -/
def LsAt (ls : List Bool) : List V := ls.map V.bl
theorem Good.first : Good 1 [([0], [])] := ⟨List.nodup_cons.mpr ⟨List.not_mem_nil, List.nodup_nil⟩, fun x hx => by
  rw [List.mem_singleton.mp hx]
  exact ⟨rfl, by decide⟩⟩
def sp_ways_from (K : PySem.W.Frag) (d : Ad) : Sp := fun vs H Q _ => ∃ (a b : Addr) (row : List Nat) (ls : List Bool), vs = [.ref a, .ref b, .ref d.a_ways_on] ∧ H a = some (.tup (nv row)) ∧ H b = some (.lst (LsAt ls)) ∧ row.length = ls.length ∧ row.length ≤ 8 ∧ row.sum ≤ 8 ∧
  ∀ p kvs B' H', Same H B' → StgAt B' kvs (waysFrom ways row ls) → Good (row.length + 1) (waysFrom ways row ls) → Led B' H' [(p, .dT kvs)] → Q (.ref p) H'
theorem ok_ways_from (m : Mo P K mg d) (sm : SM bs) (G_ways_on : FnOk P w K mg bs CX0 1 d.a_ways_on d.fd_ways_on ["entered", "listed"] (sp_ways_on K)) (G_row_with_cell : FnOk P w K mg bs CX0 1 d.a_row_with_cell d.fd_row_with_cell ["later", "right", "down"] (sp_row_with_cell K)) : FnOk P w K mg bs CX0 2 d.a_ways_from d.fd_ways_from ["row", "listed", "ways"] (sp_ways_from K d) := by
  refine m.F_ways_from.ok (k := 1) sc_ways_from (fun vs H Q E h => ?_) (fun cdv A fr s H vs Q E hr h => ?_)
  · obtain ⟨a, b, row, ls, rfl, ha, hb, hl, h8, hs8, q⟩ := h
    rfl
  · obtain ⟨a, b, row, ls, rfl, ha, hb, hl, h8, hs8, q⟩ := h
    refine ⟨_, (pss_cons (ps_asg (pe_d1T (Nat.lt_of_le_of_lt (Nat.add_le_add_left (by decide) _) hr.units) (pe_tup (pa_cons pe_int pa_nil)) (pe_tup pa_nil)) (pg_name (i := 3) sc_ways_from.nd rfl (.inl rfl)))
      (pss_cons (ps_for PassesOwn.never rfl (pi_zipTL (by rfl) m.n_zip (pa_cons (pv 0) (pa_cons (pv 1) pa_nil))) (show PG _ _ (gTup K 2 _) from pg_tup (by rfl) (pgs_cons (pg_name (i := 4) sc_ways_from.nd rfl (.inl rfl)) (pgs_cons (pg_name (i := 5) sc_ways_from.nd rfl (.inl rfl)) pgs_nil)))
      (pss_cons (ps_asg pe_dnewT (pg_name (i := 6) sc_ways_from.nd rfl (.inl rfl)))
      (pss_cons (ps_for PassesOwn.never rfl (pi_itemsN (pv 3)) (show PG _ _ (gTup K 2 _) from pg_tup (by rfl) (pgs_cons (pg_name (i := 7) sc_ways_from.nd rfl (.inl rfl)) (pgs_cons (pg_name (i := 8) sc_ways_from.nd rfl (.inl rfl)) pgs_nil)))
      (pss_one (ps_for PassesOwn.never rfl (pi_list (pe_callL (i := 2) G_ways_on (hr.mono (by decide)) rfl (by first | exact .inl rfl | exact .inr rfl | rfl | decide) m.F_ways_on.kp m.b_ways_on .nil pass0 (pa_cons (pv 4) (pa_cons (pv 5) pa_nil)))) (show PG _ _ (gTup K 2 _) from pg_tup (by rfl) (pgs_cons (pg_name (i := 9) sc_ways_from.nd rfl (.inl rfl)) (pgs_cons (pg_name (i := 10) sc_ways_from.nd rfl (.inl rfl)) pgs_nil)))
      (pss_one (ps_dput (Nat.lt_of_le_of_lt (Nat.add_le_add_left (by decide) _) hr.units) (pv 6) (pe_call G_row_with_cell (hr.mono (by decide)) (by rfl) m.g_row_with_cell m.F_row_with_cell.kp m.b_row_with_cell .nil pass0 (pa_cons (pv 7) (pa_cons (pv 9) (pa_cons (pv 10) pa_nil)))) (pe_op op_catA (pv 8) (pe_tup (pa_cons (pe_tup (pa_cons (pv 4) (pa_cons (pv 9) (pa_cons (pv 10) pa_nil)))) pa_nil))) rfl)))))
      (pss_one (ps_asg (pv 6) (pg_name (i := 3) sc_ways_from.nd rfl (.inl rfl)))))))
      (pss_one (ps_ret (pv 3))))), ?_⟩
    walk_at "v2"
    refine NewK.of (Led.nil H) fun pf H1 L => ?_
    refine NewK.of L fun p1 H2 L => ?_
    refine NewK.of L fun p2 H3 L => ?_
    refine ⟨L.at (by walk_at "mem"), rk [0], by rw [rk_kV]; exact L.at (by walk_at "mem"), ?_⟩
    have L := L.put (p := pf) (o' := .dT [(rk [0], .ref p2)]) (by walk_at "put")
    obtain ⟨B1, s1, hp2, L⟩ := L.sink
    have L : Led B1 _ [(pf, .dT [(rk [0], .ref p2)])] := L.sel (by walk_at "sel")
    walk_at "v2"
    have sH := s1.trans L.sm
    refine ⟨⟨_, .inl (.inl (sH _ _ ha))⟩, ⟨_, .inl (.inl (sH _ _ hb))⟩, ?_⟩
    have hll : (nv row).length = (LsAt ls).length := by rw [nv_len]; unfold LsAt; rw [List.length_map]; exact hl
    refine loop_zipTL hll (fun i σ H' => ∃ y4 y5 y6 y7 y8 y9 y10 B2 pf kvs, σ = [some (.ref a), some (.ref b), some (.ref d.a_ways_on), some (.ref pf), y4, y5, y6, y7, y8, y9, y10] ∧ Same H B2 ∧ StgAt B2 kvs (waysFrom ways (row.take i) (ls.take i)) ∧ Led B2 H' [(pf, .dT kvs)]) ⟨_, _, _, _, _, _, _, B1, pf, _, rfl, s1, .cons ⟨rfl, p2, [], rfl, hp2, .nil⟩ .nil, L⟩ (fun i σ' H' ⟨_, _, _, _, _, _, _, _, _, _, _, s, _, L⟩ => ⟨.inl (.inl ((s.trans L.sm) _ _ ha)), .inl (.inl ((s.trans L.sm) _ _ hb))⟩) (fun i x y σ' H' N hx hy h hN => ?_) (fun σ' H' h => ?_)
    · obtain ⟨y4, y5, y6, y7, y8, y9, y10, B2, pf, kvs, rfl, s2, hst, L⟩ := h
      obtain ⟨e, he, rfl⟩ := nv_at hx
      obtain ⟨l, hle, rfl⟩ : ∃ l, ls[i]? = some l ∧ y = .bl l := by
        unfold LsAt at hy
        rw [List.getElem?_map] at hy
        cases z : ls[i]? with
        | none => rw [z] at hy; cases hy
        | some l => rw [z] at hy; cases hy; exact ⟨l, rfl, rfl⟩
      have hi : i < row.length := (List.getElem?_eq_some_iff.mp he).1
      have htl : (row.take i).length = (ls.take i).length := by rw [List.length_take, List.length_take, hl]
      have hstep : waysFrom ways (row.take (i + 1)) (ls.take (i + 1)) = wayCell ways e l (waysFrom ways (row.take i) (ls.take i)) := by
        unfold waysFrom
        rw [take_snoc he, take_snoc hle, waysGo_snoc htl]
      have hkeys : ∀ x ∈ (waysFrom ways (row.take i) (ls.take i)).map Prod.fst, x.length = i + 1 ∧ x.sum + e ≤ 8 := fun x hx => by
        have h1 := ways_keys ways_ok htl hx
        rw [List.length_take] at h1
        have h2 := sum_take row (i + 1)
        rw [take_snoc he, List.sum_append] at h2
        simp only [List.sum_cons, List.sum_nil, Nat.add_zero] at h2
        omega
      have hwl : ∀ x ∈ waysFrom ways (row.take i) (ls.take i), x.2.length ≤ i := fun x hx => by
        rw [waysFrom_wlen htl x hx, List.length_take]
        exact Nat.min_le_left _ _
      generalize waysFrom ways (row.take i) (ls.take i) = F at *
      refine NewK.of L fun t H1 L => ?_
      walk_at "v1"
      refine UnpK.of (L.tupAt (by walk_at "mem")) rfl ?_
      walk_at "v1"
      have L : Led B2 H1 [(pf, .dT kvs)] := L.sel (by walk_at "sel")
      walk_at "v2"
      refine NewK.of L fun pl H2 L => ?_
      walk_at "v2"
      refine WlkK.of L (by walk_at "mem") (l'' := fun o => [(pl, .dT []), (pf, .frz o (.dT kvs))]) (fun o => by walk_at "put") fun o H3 L => ?_
      refine loop_itemsT (fun j σ' H' => ∃ y7 y8 y9 y10 B3 kvs2, σ' = [some (.ref a), some (.ref b), some (.ref d.a_ways_on), some (.ref pf), some (.int e), some (.bl l), some (.ref pl), y7, y8, y9, y10] ∧ Same B2 B3 ∧ StgAt B3 kvs2 ((F.take j).foldl (wayOne ways e l) []) ∧ Good (i + 2) ((F.take j).foldl (wayOne ways e l) []) ∧ Led B3 H' [(pl, .dT kvs2), (pf, .frz o (.dT kvs))]) ⟨_, _, _, _, B2, [], rfl, Same.refl B2, .nil, Good.nil _, L⟩ (fun j σ' H' ⟨_, _, _, _, _, _, _, _, _, _, L⟩ => L.at (by walk_at "mem")) (fun j k v kq σ' H' N2 hkv h hkq hN2 => ?_) (fun σ' H' h => ?_)
      · obtain ⟨y7, y8, y9, y10, B3, kvs2, rfl, s3, hst2, hg2, L⟩ := h
        obtain ⟨lw, hlw, hk1, hk2⟩ := paired_get hst hkv
        have hk1 : k = rk lw.1 := hk1
        subst hk1
        have hk2 : WayAt B2 v lw.2 := hk2
        obtain ⟨wq, cs, rfl, hwq, hcs⟩ := hk2
        rw [rk_kV] at hkq
        obtain ⟨B4, s4, hkq, L⟩ := L.grab hkq (by intro e he ys; simp only [List.mem_cons, List.not_mem_nil, or_false] at he; rcases he with rfl | rfl <;> (intro z; cases z))
        have hlk := hkeys lw.1 (List.mem_map.mpr ⟨lw, List.mem_of_getElem? hlw, rfl⟩)
        rw [take_snoc hlw, List.foldl_append] at hN2
        have hN2 : ∀ σ2 H2, _ := hN2
        generalize hF1 : (F.take j).foldl (wayOne ways e l) [] = F1 at *
        refine NewK.of L fun t H1 L => ?_
        walk_at "v1"
        refine UnpK.of (L.tupAt (by walk_at "mem")) rfl ?_
        walk_at "v1"
        have L : Led B4 H1 [(pl, .dT kvs2), (pf, .frz o (.dT kvs))] := L.sel (by walk_at "sel")
        refine ⟨e, l, rfl, by omega, fun pw H5 B5 as s5 has L5 => ?_⟩
        walk_at "v1"
        obtain ⟨B6, s6, L, k6⟩ := L.over s5 L5
        have has : PrsAt B6 as (ways e l) := Paired.mapP has fun c x z => k6 _ _ z (by intro e he; simp only [List.mem_cons, List.not_mem_nil, or_false] at he; rcases he with rfl | rfl <;> (intro z; cases z))
        have L : Led B6 H5 [(pw, .lst (as.map V.ref)), (pl, .dT kvs2), (pf, .frz o (.dT kvs))] := L
        refine ⟨⟨_, L.lstAt (by walk_at "mem")⟩, ?_⟩
        refine loop_list (xs := as.map V.ref) (fun m σ' H' => ∃ y9 y10 B7 kvs3, σ' = [some (.ref a), some (.ref b), some (.ref d.a_ways_on), some (.ref pf), some (.int e), some (.bl l), some (.ref pl), some (.ref kq), some (.ref wq), y9, y10] ∧ Same B6 B7 ∧ StgAt B7 kvs3 (((ways e l).take m).foldl (wayPut e lw) F1) ∧ Good (i + 2) (((ways e l).take m).foldl (wayPut e lw) F1) ∧ Led B7 H' [(pw, .lst (as.map V.ref)), (pl, .dT kvs3), (pf, .frz o (.dT kvs))]) ⟨_, _, B6, kvs2, rfl, Same.refl _, hst2.mono (s4.trans s6), hg2, L⟩ (fun m σ' H' _ ⟨_, _, _, _, _, _, _, _, L⟩ => L.lstAt (by walk_at "mem")) (fun m x σ' H' N3 hx h hN3 => ?_) (fun σ' H' h => ?_)
        · obtain ⟨y9, y10, B7, kvs3, rfl, s7, hst3, hg3, L⟩ := h
          rw [List.getElem?_map] at hx
          obtain ⟨c, hc, rfl⟩ : ∃ c, as[m]? = some c ∧ x = .ref c := by
            cases z : as[m]? with
            | none => rw [z] at hx; cases hx
            | some c => rw [z] at hx; cases hx; exact ⟨c, rfl, rfl⟩
          obtain ⟨⟨r0, d0⟩, hrd, hcr⟩ := paired_get has hc
          have hcr : B6 c = some (.tup [.int r0, .int d0]) := hcr
          rw [take_snoc hrd, List.foldl_append] at hN3
          have hle := ways_ok.le (List.mem_of_getElem? hrd)
          walk_at "v1"
          refine UnpK.of (.inl (.inl ((s7.trans L.sm) _ _ hcr))) rfl ?_
          walk_at "v1"
          refine NewK.of L fun t1 H6 L => ?_
          obtain ⟨B8, s8, h8t, L⟩ := L.sink
          refine NewK.of L fun t2 H7 L => ?_
          obtain ⟨B9, s9, h9t, L⟩ := L.sink
          have sB : Same B7 B9 := s8.trans s9
          have sW : Same B2 B9 := (s3.trans (s4.trans (s6.trans s7))).trans sB
          have hcl : cs.length ≤ i := by rw [Paired.length hcs]; exact hwl lw (List.mem_of_getElem? hlw)
          refine CatTK.of L (sW _ _ hwq) h9t (Nat.le_trans (m := 200) (by rw [List.length_map]; simp; omega) (by decide)) fun q3 H8 H9 s10 h10 L => ?_
          have hkq9 : H9 kq = some (.tup (nv lw.1)) := (s6.trans (s7.trans (sB.trans (s10.trans L.sm)))) _ _ hkq
          refine ⟨kq, lw.1, r0, d0, rfl, hkq9, by omega, by omega, fun pk BA HA sA hA LA => ?_⟩
          obtain ⟨B11, s11, L, _⟩ := L.over sA LA
          refine DPutK.t L (k := rk (ext lw.1 r0 d0)) (by walk_at "mem") (by rw [rk_kV]; exact LA.sm _ _ hA) (by rw [hst3.len]; exact size_few (hg3.few (by omega))) (by walk_at "put") fun HB L => ?_
          have way : WayAt B11 (.ref q3) (lw.2 ++ [(e, r0, d0)]) := by
            refine ⟨q3, cs ++ [t1], rfl, ?_, ?_⟩
            · rw [List.map_append]
              exact s11 _ _ h10
            · exact Paired.snoc (Paired.mapP hcs fun _ _ z => (sW.trans (s10.trans s11)) _ _ z) ((s9.trans (s10.trans s11)) _ _ h8t)
          refine hN3 _ _ ⟨_, _, B11, _, rfl, s7.trans (sB.trans (s10.trans s11)), (hst3.mono (sB.trans (s10.trans s11))).put way, ?_, L⟩
          exact hg3.put (by rw [ext_len (by omega)]; omega) (by rw [ext_sum (by omega)]; omega)
        · obtain ⟨y9, y10, B7, kvs3, rfl, s7, hst3, hg3, L⟩ := h
          walk_at "vc"
          have el : as.length = (ways e l).length := Paired.length has
          rw [List.length_map, el, List.take_length] at hst3 hg3
          exact hN2 _ _ ⟨_, _, _, _, B7, kvs3, rfl, (s3.trans (s4.trans (s6.trans s7))), hst3, hg3, L.sel (by walk_at "sel")⟩
      · obtain ⟨y7, y8, y9, y10, B3, kvs2, rfl, s3, hst2, hg2, L⟩ := h
        walk_at "vc"
        refine hN _ _ ⟨_, _, _, _, _, _, _, B3, pl, kvs2, rfl, s2.trans s3, ?_, L.sel (by walk_at "sel")⟩
        rw [hstep]
        rw [hst.len, List.take_length] at hst2
        exact hst2
    · obtain ⟨y4, y5, y6, y7, y8, y9, y10, B2, pf, kvs, rfl, s2, hst, L⟩ := h
      rw [nv_len, List.take_length, hl, List.take_length] at hst
      walk_at "vc"
      exact q pf kvs B2 H' s2 hst (good_ways ways_ok hl hs8) L
/-! cut stage_after -/
theorem Good.adds {wf : Nat → Bool → List (Nat × Nat)} {k : Nat} : ∀ (l : Stg) (f : Stg), Good k f → (∀ x ∈ l.map Prod.fst, x.length = k ∧ x.sum ≤ 8) → Good k (l.foldl stAdd f)
  | [], _, h, _ => h
  | lw :: r, f, h, hl => by
    have := hl lw.1 (by rw [List.map_cons]; exact List.mem_cons_self)
    exact Good.adds (wf := wf) r _ (h.add this.1 this.2) fun x hx => hl x (by rw [List.map_cons]; exact List.mem_cons_of_mem _ hx)
theorem good_after {wf : Nat → Bool → List (Nat × Nat)} (ok : WayOk wf) {ls : List Bool} : ∀ (rows : List (List Nat)) (f : Stg), Good (ls.length + 1) f → (∀ row ∈ rows, row.length = ls.length ∧ row.sum ≤ 8) → Good (ls.length + 1) (rows.foldl (fun acc row => (waysFrom wf row ls).foldl stAdd acc) f)
  | [], _, h, _ => h
  | row :: r, f, h, hr => by
    have := hr row List.mem_cons_self
    have g := good_ways ok this.1 this.2
    rw [this.1] at g
    exact good_after ok r _ (Good.adds (wf := wf) _ _ h g.bx) fun x hx => hr x (List.mem_cons_of_mem _ hx)
def sp_stage_after (K : PySem.W.Frag) (d : Ad) : Sp := fun vs H Q _ => ∃ (a b : Addr) (as : List Addr) (rows : List (List Nat)) (ls : List Bool), vs = [.ref a, .ref b, .ref d.a_ways_on] ∧ H a = some (.lst (as.map V.ref)) ∧ RowsAt H as rows ∧ H b = some (.lst (LsAt ls)) ∧ (∀ row ∈ rows, row.length = ls.length ∧ row.sum ≤ 8) ∧ ls.length ≤ 8 ∧
  ∀ p kvs B' H', Same H B' → StgAt B' kvs (stAfter ways rows ls) → Good (ls.length + 1) (stAfter ways rows ls) → Led B' H' [(p, .dT kvs)] → Q (.ref p) H'
theorem ok_stage_after (m : Mo P K mg d) (sm : SM bs) (G_ways_from : FnOk P w K mg bs CX0 2 d.a_ways_from d.fd_ways_from ["row", "listed", "ways"] (sp_ways_from K d)) : FnOk P w K mg bs CX0 3 d.a_stage_after d.fd_stage_after ["rows", "listed", "ways"] (sp_stage_after K d) := by
  refine m.F_stage_after.ok (k := 2) sc_stage_after (fun vs H Q E h => ?_) (fun cdv A fr s H vs Q E hr h => ?_)
  · obtain ⟨a, b, as, rows, ls, rfl, ha, hrows, hb, hrl, h8, q⟩ := h
    rfl
  · obtain ⟨a, b, as, rows, ls, rfl, ha, hrows, hb, hrl, h8, q⟩ := h
    refine ⟨_, (pss_cons (ps_asg pe_dnewT (pg_name (i := 3) sc_stage_after.nd rfl (.inl rfl)))
      (pss_cons (ps_for PassesOwn.never rfl (pi_list (pv 0)) (pg_name (i := 4) sc_stage_after.nd rfl (.inl rfl))
      (pss_one (ps_for PassesOwn.never rfl (pi_itemsN (pe_call G_ways_from (hr.mono (by decide)) (by rfl) m.g_ways_from m.F_ways_from.kp m.b_ways_from .nil pass0 (pa_cons (pv 4) (pa_cons (pv 1) (pa_cons (pv 2) pa_nil))))) (show PG _ _ (gTup K 2 _) from pg_tup (by rfl) (pgs_cons (pg_name (i := 5) sc_stage_after.nd rfl (.inl rfl)) (pgs_cons (pg_name (i := 6) sc_stage_after.nd rfl (.inl rfl)) pgs_nil)))
      (pss_one (ps_if (pt_cmp (pc_dnotin (Nat.lt_of_le_of_lt (Nat.add_le_add_left (by decide) _) hr.units) (pv 5) (pv 3)))
      (pss_one (ps_dput (Nat.lt_of_le_of_lt (Nat.add_le_add_left (by decide) _) hr.units) (pv 3) (pv 5) (pv 6) rfl))
      pss_nil)))))
      (pss_one (ps_ret (pv 3))))), ?_⟩
    walk_at "v2"
    refine NewK.of (Led.nil H) fun ps H1 L => ?_
    walk_at "v2"
    refine ⟨⟨_, .inl (.inl (L.sm _ _ ha))⟩, ?_⟩
    refine loop_list (xs := as.map V.ref) (fun i σ H' => ∃ y4 y5 y6 B2 kvs, σ = [some (.ref a), some (.ref b), some (.ref d.a_ways_on), some (.ref ps), y4, y5, y6] ∧ Same H B2 ∧ StgAt B2 kvs ((rows.take i).foldl (fun acc row => (waysFrom ways row ls).foldl stAdd acc) []) ∧ Good (ls.length + 1) ((rows.take i).foldl (fun acc row => (waysFrom ways row ls).foldl stAdd acc) []) ∧ Led B2 H' [(ps, .dT kvs)]) ⟨_, _, _, H, [], rfl, Same.refl _, .nil, Good.nil _, L⟩ (fun i σ' H' _ ⟨_, _, _, _, _, _, s, _, _, L⟩ => .inl (.inl ((s.trans L.sm) _ _ ha))) (fun i x σ' H' N hx h hN => ?_) (fun σ' H' h => ?_)
    · obtain ⟨y4, y5, y6, B2, kvs, rfl, s2, hst, hg, L⟩ := h
      rw [List.getElem?_map] at hx
      obtain ⟨c, hc, rfl⟩ : ∃ c, as[i]? = some c ∧ x = .ref c := by
        cases z : as[i]? with
        | none => rw [z] at hx; cases hx
        | some c => rw [z] at hx; cases hx; exact ⟨c, rfl, rfl⟩
      obtain ⟨row, hrow, hcr⟩ := paired_get hrows hc
      have hcr : H c = some (.tup (nv row)) := hcr
      obtain ⟨hl, hs⟩ := hrl row (List.mem_of_getElem? hrow)
      rw [take_snoc hrow, List.foldl_append] at hN
      have gw := good_ways ways_ok hl hs
      rw [hl] at gw
      walk_at "v1"
      refine ⟨c, b, row, ls, rfl, (s2.trans L.sm) _ _ hcr, (s2.trans L.sm) _ _ hb, hl, by omega, hs, fun pw kw BA HA sA hsw _ LA => ?_⟩
      obtain ⟨B3, s3, L, k3⟩ := L.over sA LA
      have L : Led B3 HA [(pw, .dT kw), (ps, .dT kvs)] := L
      have hsw := hsw.via (tks_of k3 (by intro e he ys; simp only [List.mem_cons, List.not_mem_nil, or_false] at he; rw [he]; intro z; cases z))
      have gk : ∀ x ∈ waysFrom ways row ls, x.1.length = ls.length + 1 ∧ x.1.sum ≤ 8 := fun x hx => gw.bx x.1 (List.mem_map.mpr ⟨x, hx, rfl⟩)
      generalize hF : (rows.take i).foldl (fun acc row => (waysFrom ways row ls).foldl stAdd acc) [] = F at *
      have hN : ∀ σ2 H2, (∃ y4 y5 y6 B2 kvs, σ2 = [some (.ref a), some (.ref b), some (.ref d.a_ways_on), some (.ref ps), y4, y5, y6] ∧ Same H B2 ∧ StgAt B2 kvs ((waysFrom ways row ls).foldl stAdd F) ∧ Good (ls.length + 1) ((waysFrom ways row ls).foldl stAdd F) ∧ Led B2 H2 [(ps, .dT kvs)]) → N σ2 H2 := fun σ2 H2 z => hN σ2 H2 z
      generalize waysFrom ways row ls = W at *
      refine ⟨pw, rfl, ?_⟩
      refine WlkK.of L (by walk_at "mem") (l'' := fun o => [(pw, .frz o (.dT kw)), (ps, .dT kvs)]) (fun o => by walk_at "put") fun o H3 L => ?_
      refine loop_itemsT (fun j σ' H' => ∃ y5 y6 B4 kvs2, σ' = [some (.ref a), some (.ref b), some (.ref d.a_ways_on), some (.ref ps), some (.ref c), y5, y6] ∧ Same B3 B4 ∧ StgAt B4 kvs2 ((W.take j).foldl stAdd F) ∧ Good (ls.length + 1) ((W.take j).foldl stAdd F) ∧ Led B4 H' [(pw, .frz o (.dT kw)), (ps, .dT kvs2)]) ⟨_, _, B3, kvs, rfl, Same.refl _, hst.mono s3, hg, L⟩ (fun j σ' H' ⟨_, _, _, _, _, _, _, _, L⟩ => L.at (by walk_at "mem")) (fun j k v kq σ' H' N2 hkv h hkq hN2 => ?_) (fun σ' H' h => ?_)
      · obtain ⟨y5, y6, B4, kvs2, rfl, s4, hst2, hg2, L⟩ := h
        obtain ⟨lw, hlw, hk1, hk2⟩ := paired_get hsw hkv
        have hk1 : k = rk lw.1 := hk1
        subst hk1
        have hk2 : WayAt B3 v lw.2 := hk2
        rw [rk_kV] at hkq
        obtain ⟨B5, s5, hkq, L⟩ := L.grab hkq (by intro e he ys; simp only [List.mem_cons, List.not_mem_nil, or_false] at he; rcases he with rfl | rfl <;> (intro z; cases z))
        have hlk := gk lw (List.mem_of_getElem? hlw)
        rw [take_snoc hlw, List.foldl_append] at hN2
        have gadd := hg2.add (lw := lw) hlk.1 hlk.2
        generalize (W.take j).foldl stAdd F = F1 at *
        refine NewK.of L fun t H1 L => ?_
        walk_at "v1"
        refine UnpK.of (L.tupAt (by walk_at "mem")) rfl ?_
        walk_at "v1"
        have L : Led B5 H1 [(pw, .frz o (.dT kw)), (ps, .dT kvs2)] := L.sel (by walk_at "sel")
        have hkq1 : H1 kq = some (.tup ((rk lw.1).map kV)) := by rw [rk_kV]; exact L.sm _ _ hkq
        refine KinK.t L (k := rk lw.1) (by walk_at "mem") hkq1 ?_
        rw [hst2.valV]
        walk_at "v1"
        cases hh : hasA F1 lw.1 with
        | true =>
          rw [if_neg (by decide)]
          have e : stAdd F1 lw = F1 := by unfold stAdd; rw [if_pos hh]
          exact hN2 _ _ ⟨_, _, B5, kvs2, rfl, s4.trans s5, by show StgAt B5 kvs2 (stAdd F1 lw); rw [e]; exact hst2.mono s5, by show Good _ (stAdd F1 lw); rw [e]; exact hg2, L⟩
        | false =>
          rw [if_pos (by decide)]
          have e : stAdd F1 lw = putA F1 lw.1 lw.2 := by unfold stAdd putA; rw [hh]; rfl
          refine DPutK.t L (k := rk lw.1) (by walk_at "mem") hkq1 (by rw [hst2.len]; exact size_few (hg2.few (by omega))) (by walk_at "put") fun HB L => ?_
          exact hN2 _ _ ⟨_, _, B5, _, rfl, s4.trans s5, by show StgAt B5 _ (stAdd F1 lw); rw [e]; exact (hst2.mono s5).put (hk2.mono (s4.trans s5)), gadd, L⟩
      · obtain ⟨y5, y6, B4, kvs2, rfl, s4, hst2, hg2, L⟩ := h
        walk_at "vc"
        rw [hsw.len, List.take_length] at hst2 hg2
        exact hN _ _ ⟨_, _, _, B4, kvs2, rfl, s2.trans (s3.trans s4), hst2, hg2, L.sel (by walk_at "sel")⟩
    · obtain ⟨y4, y5, y6, B2, kvs, rfl, s2, hst, hg, L⟩ := h
      have el : as.length = rows.length := Paired.length hrows
      rw [List.length_map, el, List.take_length] at hst hg
      walk_at "vc"
      exact q ps kvs B2 H' s2 hst hg L
/-! cut is_integer_within -/
def sp_is_integer_within (K : PySem.W.Frag) : Sp := fun vs H Q _ => ∃ a lo hi : Int, vs = [.int a, .int lo, .int hi] ∧ Q (.bl (decide (lo ≤ a) && decide (a ≤ hi))) H
theorem ok_is_integer_within (m : Mo P K mg d) (sm : SM bs) (G_is_integer : FnOk P w K mg bs CX0 1 d.a_is_integer d.fd_is_integer ["value"] (sp_is_integer K)) : FnOk P w K mg bs CX0 2 d.a_is_integer_within d.fd_is_integer_within ["value", "least", "greatest"] (sp_is_integer_within K) := by
  refine m.F_is_integer_within.ok (k := 1) sc_is_integer_within (fun vs H Q E h => ?_) (fun cdv A fr s H vs Q E hr h => ?_)
  · obtain ⟨a, lo, hi, rfl, q⟩ := h
    rfl
  · obtain ⟨a, lo, hi, rfl, q⟩ := h
    refine ⟨_, (pss_one (ps_ret (pe_and (pe_call G_is_integer (hr.mono (by decide)) (by rfl) m.g_is_integer m.F_is_integer.kp m.b_is_integer .nil pass0 (pa_cons (pv 0) pa_nil)) (pe_one (pe_chain op_le op_le (pv 1) (pv 0) (pv 2)))))), ?_⟩
    walk_at "vc"
    refine ⟨_, rfl, ?_⟩
    walk_at "vc"
    split
    · rename_i h1
      rw [decide_eq_true h1] at q
      exact q
    · rename_i h1
      rw [decide_eq_false h1] at q
      exact q
/-! cut check_coordinate -/
def sp_check_coordinate (K : PySem.W.Frag) : Sp := fun vs H Q _ => ∃ t : Int, vs = [.int t] ∧ 0 ≤ t ∧ t ≤ 10 ^ 15 ∧ Q .non H
theorem ok_check_coordinate (m : Mo P K mg d) (sm : SM bs) (G_is_integer_within : FnOk P w K mg bs CX0 2 d.a_is_integer_within d.fd_is_integer_within ["value", "least", "greatest"] (sp_is_integer_within K)) : FnOk P w K mg bs CX0 3 d.a_check_coordinate d.fd_check_coordinate ["value"] (sp_check_coordinate K) := by
  obtain ⟨t_GREATEST_COORDINATE, h_GREATEST_COORDINATE⟩ := m.mg_GREATEST_COORDINATE
  refine m.F_check_coordinate.ok (k := 2) sc_check_coordinate (fun vs H Q E h => ?_) (fun cdv A fr s H vs Q E hr h => ?_)
  · obtain ⟨t, rfl, h0, h1, q⟩ := h
    rfl
  · obtain ⟨t, rfl, h0, h1, q⟩ := h
    refine ⟨_, (pss_one (ps_if (pt_not (pt_val (pe_call G_is_integer_within (hr.mono (by decide)) (by rfl) m.g_is_integer_within m.F_is_integer_within.kp m.b_is_integer_within .nil pass0 (pa_cons (pv 0) (pa_cons pe_int (pa_cons (pe_glob (v := .int (1000000000000000)) rfl h_GREATEST_COORDINATE ⟨_, rfl⟩) pa_nil))))))
      (pss_one ps_never)
      pss_nil)), ?_⟩
    walk_at "vc"
    refine ⟨_, _, _, rfl, ?_⟩
    walk_at "vc"
    rw [decide_eq_true h0, decide_eq_true (show t ≤ 1000000000000000 from h1)]
    walk_at "vc"
    exact q
/-! cut cells_before -/
def sp_cells_before (K : PySem.W.Frag) : Sp := fun vs H Q _ => ∃ t : Int, vs = [.int t] ∧ 0 ≤ t ∧ t < 2 ^ 60 ∧ Q (.int (t * (t + 1) / 2)) H
theorem ok_cells_before (m : Mo P K mg d) (sm : SM bs) : FnOk P w K mg bs CX0 1 d.a_cells_before d.fd_cells_before ["diagonal"] (sp_cells_before K) := by
  refine m.F_cells_before.ok (k := 0) sc_cells_before (fun vs H Q E h => ?_) (fun cdv A fr s H vs Q E hr h => ?_)
  · obtain ⟨t, rfl, h0, h1, q⟩ := h
    rfl
  · obtain ⟨t, rfl, h0, h1, q⟩ := h
    refine ⟨_, (pss_one (ps_ret (pe_op op_fdiv (pe_op op_mul (pv 0) (pe_op op_add (pv 0) pe_int)) pe_int))), ?_⟩
    walk_at "vc"
    exact ⟨by walk_at "sd", by walk_at "sd", q⟩
/-! cut name_of -/
def sp_name_of (K : PySem.W.Frag) : Sp := fun vs H Q _ => ∃ r d : Int, vs = [.int r, .int d] ∧ 0 ≤ r ∧ r ≤ 10 ^ 15 ∧ 0 ≤ d ∧ d ≤ 10 ^ 15 ∧ Q (.int ((r + d) * (r + d + 1) / 2 + r)) H
theorem ok_name_of (m : Mo P K mg d) (sm : SM bs) (G_check_coordinate : FnOk P w K mg bs CX0 3 d.a_check_coordinate d.fd_check_coordinate ["value"] (sp_check_coordinate K)) (G_cells_before : FnOk P w K mg bs CX0 1 d.a_cells_before d.fd_cells_before ["diagonal"] (sp_cells_before K)) : FnOk P w K mg bs CX0 4 d.a_name_of d.fd_name_of ["right", "down"] (sp_name_of K) := by
  refine m.F_name_of.ok (k := 3) sc_name_of (fun vs H Q E h => ?_) (fun cdv A fr s H vs Q E hr h => ?_)
  · obtain ⟨r, d', rfl, h0, h1, h2, h3, q⟩ := h
    rfl
  · obtain ⟨r, d', rfl, h0, h1, h2, h3, q⟩ := h
    refine ⟨_, (pss_cons (ps_expr (pe_call G_check_coordinate (hr.mono (by decide)) (by rfl) m.g_check_coordinate m.F_check_coordinate.kp m.b_check_coordinate .nil pass0 (pa_cons (pv 0) pa_nil)))
      (pss_cons (ps_expr (pe_call G_check_coordinate (hr.mono (by decide)) (by rfl) m.g_check_coordinate m.F_check_coordinate.kp m.b_check_coordinate .nil pass0 (pa_cons (pv 1) pa_nil)))
      (pss_one (ps_ret (pe_op op_add (pe_call G_cells_before (hr.mono (by decide)) (by rfl) m.g_cells_before m.F_cells_before.kp m.b_cells_before .nil pass0 (pa_cons (pe_op op_add (pv 0) (pv 1)) pa_nil)) (pv 0)))))), ?_⟩
    walk_at "vc"
    refine ⟨_, rfl, h0, h1, ?_⟩
    walk_at "vc"
    refine ⟨_, rfl, h2, h3, ?_⟩
    walk_at "vc"
    refine ⟨_, rfl, by omega, by omega, ?_⟩
    walk_at "vc"
    exact q
/-! cut stages_of -/
theorem keys_rows {B : Hp} : ∀ {kvs : List (List Key × V)} {bs : List Addr} {f : Stg}, IsKeys B kvs bs → StgAt B kvs f → RowsAt B bs (f.map Prod.fst)
  | _, _, _, .nil, .nil => .nil
  | _, _, _, .cons h r, .cons h2 r2 => .cons (by rw [h2.1, rk_kV] at h; exact h) (keys_rows r r2)
theorem inV_nv {l : List Nat} {z : Nat} : inV (.int (z : Int)) (nv l) = decide (z ∈ l) := by
  rw [Bool.eq_iff_iff, decide_eq_true_iff]
  constructor
  · intro h
    obtain ⟨p, hp, e⟩ := in_nv h
    rw [show z = p by omega]; exact hp
  · intro h
    unfold inV nv
    rw [List.any_eq_true]
    exact ⟨.int (z : Int), List.mem_map.mpr ⟨z, h, rfl⟩, by simp [eqV]⟩
def sp_stages_of (K : PySem.W.Frag) (d : Ad) : Sp := fun vs H Q _ => ∃ (a : Addr) (names : List Nat) (n : Nat), vs = [.int n, .ref a, .ref d.a_ways_on] ∧ n ≤ 8 ∧ SqL K H a (nv names) ∧
  ∀ p ds B' H', Same H B' → StsAt B' ds (stagesOf ways (nmOf names) n) → Led B' H' [(p, .lst (ds.map V.ref))] → Q (.ref p) H'
theorem ok_stages_of (m : Mo P K mg d) (sm : SM bs) (G_stage_after : FnOk P w K mg bs CX0 3 d.a_stage_after d.fd_stage_after ["rows", "listed", "ways"] (sp_stage_after K d)) (G_name_of : FnOk P w K mg bs CX0 4 d.a_name_of d.fd_name_of ["right", "down"] (sp_name_of K)) : FnOk P w K mg bs CX0 5 d.a_stages_of d.fd_stages_of ["count", "names", "ways"] (sp_stages_of K d) := by
  refine m.F_stages_of.ok (k := 4) sc_stages_of (fun vs H Q E h => ?_) (fun cdv A fr s H vs Q E hr h => ?_)
  · obtain ⟨a, names, n, rfl, h8, hS, q⟩ := h
    rfl
  · obtain ⟨a, names, n, rfl, h8, hS, q⟩ := h
    refine ⟨_, (pss_cons (ps_asg (pe_lst pa_nil) (pg_name (i := 3) sc_stages_of.nd rfl (.inl rfl)))
      (pss_cons (ps_asg (pe_lst (pa_cons (pe_tup (pa_cons (pv 0) pa_nil)) pa_nil)) (pg_name (i := 4) sc_stages_of.nd rfl (.inl rfl)))
      (pss_cons (ps_for PassesOwn.never rfl (pi_range1 (by rfl) m.n_range (pa_cons (pv 0) pa_nil)) (pg_name (i := 5) sc_stages_of.nd rfl (.inr rfl))
      (pss_cons (ps_setLc (i := 6) (own := [("right", 7)]) (by rfl) sc_stages_of.nd rfl rfl (sw_true rfl rfl rfl (by decide +kernel)) (pi_range1 (by rfl) m.n_range (pa_cons (pe_op op_add (pv 5) pe_int) pa_nil)) (blkOk_by (own := [("right", 7)]) (N := ["count", "names", "ways", "stages", "rows", "diagonal", "listed", "right"]) (sc := defScope s_stages_of) (by decide +kernel)) (fun _ _ _ _ _ => by exact (pg_name (i := 7) sc_stages_of.nd rfl (.inl rfl))) (fun _ _ _ _ _ => by exact pts_nil) (fun _ _ _ _ _ => by exact (pe_cmpR (show OpR _ _ (rIn K false) from op_in_seq) (pe_call G_name_of (hr.mono (by decide)) (by rfl) m.g_name_of m.F_name_of.kp m.b_name_of .nil pass0 (pa_cons (pv 7) (pa_cons (pe_op op_sub (pv 5) (pv 7)) pa_nil))) (pv 1) rfl)))
      (pss_cons (ps_expr (pe_bm PySem.F.plainAttrs_list PySem.F.slot_list_append PySem.F.type_list_append mt_append (pv 3) (pa_cons (pe_call G_stage_after (hr.mono (by decide)) (by rfl) m.g_stage_after m.F_stage_after.kp m.b_stage_after .nil pass0 (pa_cons (pv 4) (pa_cons (pv 6) (pa_cons (pv 2) pa_nil)))) pa_nil)))
      (pss_cons (ps_asg (pe_callTy (cr_lstD rfl) (by rfl) m.n_list (by decide +kernel) (pa_cons (pe_ix ix_list (pv 3) (pe_un un_neg pe_int) (fun _ _ => rfl)) pa_nil)) (pg_name (i := 4) sc_stages_of.nd rfl (.inl rfl)))
      (pss_one (ps_if (pt_cmpR (op_eqL hr.units) (pv 4) (pe_lst pa_nil) (nomark _))
      (pss_one ps_break)
      pss_nil))))))
      (pss_one (ps_ret (pv 3)))))), ?_⟩
    walk_at "v2"
    refine NewK.of (Led.nil H) fun ps H1 L => ?_
    walk_at "v2"
    refine NewK.of L fun t H2 L => ?_
    obtain ⟨B1, s1, ht, L⟩ := L.sink
    refine NewK.of L fun pr H3 L => ?_
    walk_at "v2"
    refine ⟨by omega, by omega, ?_⟩
    refine loop_range (fun i σ H' => ∃ y5 y6 y7 B2 pr as rows ds ss, σ = [some (.int n), some (.ref a), some (.ref d.a_ways_on), some (.ref ps), some (.ref pr), y5, y6, y7] ∧ Same H B2 ∧ RowsAt B2 as rows ∧ StsAt B2 ds ss ∧ ss.length = i ∧ (∀ row ∈ rows, row.length = i + 1 ∧ row.sum ≤ 8) ∧ stagesOf ways (nmOf names) n = ss ++ stagesGo ways (nmOf names) (n - i) i rows ∧ Led B2 H' [(pr, .lst (as.map V.ref)), (ps, .lst (ds.map V.ref))]) ⟨_, _, _, B1, pr, [t], [[n]], [], [], rfl, s1, .cons ht .nil, .nil, rfl, fun row hr => by rw [List.mem_singleton.mp hr]; exact ⟨rfl, by simpa using h8⟩, rfl, L⟩ (fun i σ H' N hi h hN => ?_) (fun σ H' h => ?_)
    · obtain ⟨y5, y6, y7, B2, pr, as, rows, ds, ss, rfl, s2, hrows, hds, hsl, hrl, heq, L⟩ := h
      rw [Int.toNat_natCast] at hi
      walk_at "v1"
      walk_at "v2"
      refine ⟨by omega, by omega, ?_⟩
      refine comp_range (fun j z acc H' => acc = LsAt ((lsAt (nmOf names) i).take j) ∧ Led B2 H' [(z, .lst acc), (pr, .lst (as.map V.ref)), (ps, .lst (ds.map V.ref))]) (fun z hz => ⟨rfl, L.new hz⟩) ?_ ?_
      · rintro z acc H6 ⟨rfl, L⟩
        have e1 : ((i : Int) + 1).toNat = i + 1 := by omega
        rw [e1, List.take_of_length_le (by rw [lsAt_len]; exact Nat.le_refl _)] at L
        walk_at "v2"
        refine ⟨tyL (L.lstAt (by walk_at "mem")), ?_⟩
        refine ⟨pr, z, as, rows, lsAt (nmOf names) i, rfl, L.at (by walk_at "mem"), hrows.mono L.sm, L.at (by walk_at "mem"), fun row hr => by rw [lsAt_len]; exact hrl row hr, by rw [lsAt_len]; omega, fun pd kvs BA HA sA hst hgd LA => ?_⟩
        obtain ⟨B3, s3, L, k3⟩ := L.over sA LA
        have hst := hst.via (tks_of k3 (by intro e he ys; simp only [List.mem_cons, List.not_mem_nil, or_false] at he; rcases he with rfl | rfl | rfl <;> (intro z; cases z)))
        obtain ⟨B4, s4, hpd, L⟩ := L.sink
        have L : Led B4 HA [(z, .lst (LsAt (lsAt (nmOf names) i))), (pr, .lst (as.map V.ref)), (ps, .lst (ds.map V.ref))] := L
        have hst := hst.mono s4
        have hdl : ds.length = i := by rw [Paired.length hds, hsl]
        rw [lsAt_len] at hgd
        generalize hS : stAfter ways rows (lsAt (nmOf names) i) = S at *
        refine AppK.of L (by walk_at "mem") (Nat.lt_of_lt_of_le (m := 100) (by rw [List.length_map]; omega) (by decide)) (by walk_at "put") fun H7 L => ?_
        have L : Led B4 H7 [(z, .lst (LsAt (lsAt (nmOf names) i))), (pr, .lst (as.map V.ref)), (ps, .lst ((ds ++ [pd]).map V.ref))] := by rw [List.map_append]; exact L
        have hds2 : StsAt B4 (ds ++ [pd]) (ss ++ [S]) := Paired.snoc (hds.mono (s3.trans s4)) ⟨kvs, hpd, hst⟩
        walk_at "v2"
        refine IxLK.of (L.lstAt (by walk_at "mem")) (i := -1) (v := .ref pd) (by rw [List.map_append]; exact atI_last _ _) ?_
        walk_at "v1"
        refine LstDK.of L (L.sm _ _ hpd) (by intro e he ys; simp only [List.mem_cons, List.not_mem_nil, or_false] at he; rcases he with rfl | rfl | rfl <;> (intro z; cases z)) fun pr2 bs B5 H8 s5 hbs L => ?_
        have hrows2 := keys_rows hbs (hst.mono s5)
        walk_at "v1"
        refine NewK.of L fun p0 H9 L => ?_
        refine EqL0 (xs := bs.map V.ref) (L.lstAt (by walk_at "mem")) (L.lstAt (by walk_at "mem")) ?_
        walk_at "v1"
        have hbl : bs.length = S.length := by rw [Paired.length hrows2, List.length_map]
        obtain ⟨m, hm⟩ : ∃ m, n - i = m + 1 := ⟨n - i - 1, by omega⟩
        have heq2 : stagesOf ways (nmOf names) n = ss ++ (S :: (if S = [] then [] else stagesGo ways (nmOf names) m (i + 1) (S.map Prod.fst))) := by
          rw [heq, hm, ← hS]
          rfl
        split
        · rename_i hnil
          have hS0 : S = [] := by
            cases S with
            | nil => rfl
            | cons x r =>
              cases bs with
              | nil => cases hbl
              | cons _ _ => cases hnil
          rw [if_pos hS0] at heq2
          walk_at "vc"
          refine q ps (ds ++ [pd]) B5 H9 (s2.trans (s3.trans (s4.trans s5))) ?_ (L.sel (by walk_at "sel"))
          rw [heq2]
          exact hds2.mono s5
        · rename_i hnil
          have hS0 : S ≠ [] := by
            intro z
            apply hnil
            rw [z] at hbl
            cases bs with
            | nil => rfl
            | cons _ _ => cases hbl
          rw [if_neg hS0] at heq2
          refine hN _ _ ⟨_, _, _, B5, pr2, bs, S.map Prod.fst, ds ++ [pd], ss ++ [S], rfl, s2.trans (s3.trans (s4.trans s5)), hrows2, hds2.mono s5, by rw [List.length_append, hsl]; rfl, fun row hr => hgd.bx row hr, ?_, L.sel (by walk_at "sel")⟩
          rw [heq2, List.append_assoc, show n - (i + 1) = m by omega]
          rfl
      · rintro j z acc H6 N2 hj ⟨rfl, L⟩ hN2
        have hj : j < i + 1 := by omega
        unfold TurnK
        walk_at "v1"
        refine ⟨_, _, rfl, by omega, by omega, by omega, by omega, ?_⟩
        refine ⟨nv names, .inl ((s2.trans L.sm).seq hS), rfl, flat_nv names, ?_⟩
        have e1 : ((j : Int) + ((i : Int) - j)) * ((j : Int) + ((i : Int) - j) + 1) / 2 + (j : Int) = ((i * (i + 1) / 2 + j : Nat) : Int) := by
          rw [show (j : Int) + ((i : Int) - j) = (i : Int) by omega]
          push_cast
          rfl
        rw [e1, if_neg Bool.false_ne_true, inV_nv]
        refine AppK.of L (by walk_at "mem") (Nat.lt_of_lt_of_le (m := 100) (by unfold LsAt; rw [List.length_map, List.length_take, lsAt_len]; omega) (by decide)) (by walk_at "put") fun H9 L => hN2 _ _ ⟨?_, L⟩
        have : (lsAt (nmOf names) i)[j]? = some (nmOf names (i * (i + 1) / 2 + j)) := by
          unfold lsAt
          rw [List.getElem?_map, List.getElem?_range (by omega)]
          rfl
        rw [take_snoc this]
        unfold LsAt
        rw [List.map_append]
        rfl
    · obtain ⟨y5, y6, y7, B2, pr, as, rows, ds, ss, rfl, s2, hrows, hds, hsl, hrl, heq, L⟩ := h
      rw [Int.toNat_natCast] at hsl heq
      walk_at "vc"
      rw [Nat.sub_self, show stagesGo ways (nmOf names) 0 n rows = [] from rfl, List.append_nil] at heq
      exact q ps ds B2 H' s2 (by rw [heq]; exact hds) (L.sel (by walk_at "sel"))
/-! cut stages_of_p -/
def sp_stages_of_p (K : PySem.W.Frag) (d : Ad) : Sp := fun vs H Q _ => ∃ (a : Addr) (ms : List Nat), vs = [.ref a] ∧ SqL K H a (nv ms) ∧ ms.length ≤ 8 ∧
  ∀ p ds B' H', Same H B' → StsAt B' ds (stagesOf ways (nmOf ms) ms.length) → Led B' H' [(p, .lst (ds.map V.ref))] → Q (.ref p) H'
theorem ok_stages_of_p (m : Mo P K mg d) (sm : SM bs) (G_stages_of : FnOk P w K mg bs CX0 5 d.a_stages_of d.fd_stages_of ["count", "names", "ways"] (sp_stages_of K d)) : FnOk P w K mg bs CX0 6 d.a_stages_of_p d.fd_stages_of_p ["names"] (sp_stages_of_p K d) := by
  refine m.F_stages_of_p.ok (k := 5) sc_stages_of_p (fun vs H Q E h => ?_) (fun cdv A fr s H vs Q E hr h => ?_)
  · obtain ⟨a, ms, rfl, hS, h8, q⟩ := h
    rfl
  · obtain ⟨a, ms, rfl, hS, h8, q⟩ := h
    refine ⟨_, (pss_one (ps_ret (pe_call G_stages_of (hr.mono (by decide)) (by rfl) m.g_stages_of m.F_stages_of.kp m.b_stages_of .nil pass0 (pa_cons (pe_callB cr_len (by rfl) m.n_len (by decide +kernel) (pa_cons (pv 0) pa_nil)) (pa_cons (pv 0) (pa_cons (pe_glob (v := .ref d.a_ways_on) rfl m.g_ways_on rfl) pa_nil)))))), ?_⟩
    walk_at "vc"
    refine LenK.ofL hS ?_
    rw [nv_len]
    exact ⟨a, ms, ms.length, rfl, h8, hS, q⟩
/-! cut stuck_in -/
def oV : Option Nat → V
  | none => .non
  | some n => .int (n : Int)
theorem atI_neg1 {l : List V} {v : V} (h : l.getLast? = some v) : atI l (-1) = some v := by
  have hpos : 0 < l.length := by
    cases l with
    | nil => cases h
    | cons _ _ => exact Nat.succ_pos _
  unfold atI ixN
  rw [if_neg (by decide), if_pos (by omega)]
  show l[((-1 : Int) + (l.length : Int)).toNat]? = _
  rw [show ((-1 : Int) + (l.length : Int)).toNat = l.length - 1 by omega, ← List.getLast?_eq_getElem?, h]
theorem EqEK.k {H : Hp} {a b : Addr} {kvs : List (List Key × V)} {G : Bool → Prop} (h1 : H a = some (.dT kvs)) (h2 : H b = some (.dK [])) (q : G kvs.isEmpty) : EqEK a b H G :=
  ⟨kvs.length, .inl ⟨kvs, .inl h1, rfl⟩, .inr ⟨[], .inl h2, rfl⟩, by rw [show (kvs.length == 0) = kvs.isEmpty by cases kvs <;> rfl]; exact q⟩
def sp_stuck_in (K : PySem.W.Frag) : Sp := fun vs H Q _ => ∃ (a : Addr) (ds : List Addr) (ss : List Stg), vs = [.ref a] ∧ H a = some (.lst (ds.map V.ref)) ∧ StsAt H ds ss ∧ ss ≠ [] ∧ ∀ H', Same H H' → Q (oV (stkIn ss)) H'
theorem ok_stuck_in (m : Mo P K mg d) (sm : SM bs) : FnOk P w K mg bs CX0 1 d.a_stuck_in d.fd_stuck_in ["stages"] (sp_stuck_in K) := by
  refine m.F_stuck_in.ok (k := 0) sc_stuck_in (fun vs H Q E h => ?_) (fun cdv A fr s H vs Q E hr h => ?_)
  · obtain ⟨a, ds, ss, rfl, ha, hds, hne, q⟩ := h
    rfl
  · obtain ⟨a, ds, ss, rfl, ha, hds, hne, q⟩ := h
    refine ⟨_, (pss_cons (ps_if (pt_cmpR (op_eqE hr.units) (pe_ix ix_list (pv 0) (pe_un un_neg pe_int) (fun _ _ => rfl)) pe_dnewK (nomark _))
      (pss_one (ps_ret (pe_op op_sub (pe_callB cr_len (by rfl) m.n_len (by decide +kernel) (pa_cons (pv 0) pa_nil)) pe_int)))
      pss_nil)
      (pss_one (ps_ret pe_non))), ?_⟩
    have hl : ds.length = ss.length := Paired.length hds
    have hpos : 0 < ss.length := List.length_pos_iff.mpr hne
    obtain ⟨r, hr⟩ : ∃ r, ds[ss.length - 1]? = some r := ⟨_, List.getElem?_eq_getElem (by omega)⟩
    obtain ⟨f, hf, kvs, hk1, hk2⟩ := paired_get hds hr
    have hlast : ss.getLast? = some f := by rw [List.getLast?_eq_getElem?]; exact hf
    have hkl : kvs.length = f.length := hk2.len
    walk_at "v2"
    refine IxLK.of (.inl (.inl ha)) (i := -1) (v := .ref r) (atI_neg1 (by rw [List.getLast?_eq_getElem?, List.length_map, hl, List.getElem?_map, hr]; rfl)) ?_
    refine NewK.of (Led.nil H) fun p0 H1 L => ?_
    refine x_eqE.mpr (EqEK.k (L.sm _ _ hk1) (L.at (by walk_at "mem")) ?_)
    refine ⟨_, rfl, ?_⟩
    unfold stkIn at q
    rw [hlast] at q
    cases hkv : kvs with
    | nil =>
      rw [hkv] at hkl
      have hf0 : f = [] := List.length_eq_zero_iff.mp hkl.symm
      rw [hf0, if_pos rfl] at q
      rw [if_pos (by rfl)]
      refine LenK.ofL (.inl (.inl (L.sm _ _ ha))) ?_
      rw [List.length_map, hl]
      have := q _ L.sm
      have this : Q (.int ((ss.length - 1 : Nat) : Int)) H1 := this
      rw [show ((ss.length - 1 : Nat) : Int) = (ss.length : Int) - 1 by omega] at this
      exact this
    | cons _ _ =>
      rw [hkv] at hkl
      have hf0 : ¬ some f = some [] := by
        intro z
        rw [Option.some.inj z] at hkl
        cases hkl
      rw [if_neg hf0] at q
      rw [if_neg (by intro z; cases z)]
      exact q _ L.sm
/-! cut routing_in -/
def accR (e r d : Nat → Nat → Nat) (n i : Nat) : List Rt := (List.range i).flatMap fun j => cellsR e r d (n - 1 - j)
theorem accR_succ {e r d : Nat → Nat → Nat} {n i : Nat} : accR e r d n (i + 1) = accR e r d n i ++ cellsR e r d (n - 1 - i) := by
  unfold accR
  rw [List.range_succ, List.flatMap_append, List.flatMap_cons, List.flatMap_nil, List.append_nil]
theorem perm_flatMap {α β : Type} {f : α → List β} {l1 l2 : List α} (h : l1.Perm l2) : (l1.flatMap f).Perm (l2.flatMap f) := by
  induction h with
  | nil => exact .refl _
  | cons x _ ih => rw [List.flatMap_cons, List.flatMap_cons]; exact ih.append_left _
  | swap x y l =>
    rw [List.flatMap_cons, List.flatMap_cons, List.flatMap_cons, List.flatMap_cons]
    exact List.perm_append_comm_assoc _ _ _
  | trans _ _ ih1 ih2 => exact ih1.trans ih2
theorem accR_perm {e r d : Nat → Nat → Nat} {n : Nat} : (accR e r d n n).Perm (rtOf e r d n) := by
  have h1 : accR e r d n n = ((List.range n).map fun j => n - 1 - j).flatMap (cellsR e r d) := by
    unfold accR
    rw [List.flatMap_map]
  have h2 : (List.range n).map (fun j => n - 1 - j) = (List.range n).reverse := by
    refine List.ext_getElem? fun i => ?_
    by_cases hi : i < n
    · rw [List.getElem?_map, List.getElem?_range hi, List.getElem?_reverse (by rw [List.length_range]; exact hi), List.length_range, List.getElem?_range (by omega)]
      rfl
    · rw [List.getElem?_eq_none (by rw [List.length_map, List.length_range]; omega), List.getElem?_eq_none (by rw [List.length_reverse, List.length_range]; omega)]
  rw [h1, h2]
  exact perm_flatMap (List.reverse_perm _)
def sp_routing_in (K : PySem.W.Frag) : Sp := fun vs H Q _ => ∃ (a : Addr) (ds : List Addr) (nm : Nat → Bool) (n : Nat), vs = [.ref a] ∧ H a = some (.lst (ds.map V.ref)) ∧ StsAt H ds (stagesOf ways nm n) ∧ 1 ≤ n ∧ n ≤ 8 ∧ stkIn (stagesOf ways nm n) = none ∧
  ∀ p ts B' H', Same H B' → RtsAt B' ts (rtOf (eB (stagesOf ways nm n) n) (rB (stagesOf ways nm n) n) (dB (stagesOf ways nm n) n) n) → Led B' H' [(p, .lst (ts.map V.ref))] → Q (.ref p) H'
theorem ok_routing_in (m : Mo P K mg d) (sm : SM bs) (G_name_of : FnOk P w K mg bs CX0 4 d.a_name_of d.fd_name_of ["right", "down"] (sp_name_of K)) : FnOk P w K mg bs CX0 5 d.a_routing_in d.fd_routing_in ["stages"] (sp_routing_in K) := by
  refine m.F_routing_in.ok (k := 4) sc_routing_in (fun vs H Q E h => ?_) (fun cdv A fr s H vs Q E hr h => ?_)
  · obtain ⟨a, ds, nm, n, rfl, ha, hds, h1, h8, hst, q⟩ := h
    rfl
  · obtain ⟨a, ds, nm, n, rfl, ha, hds, h1, h8, hst, q⟩ := h
    refine ⟨_, (pss_cons (ps_asg (pe_lst pa_nil) (pg_name (i := 1) sc_routing_in.nd rfl (.inl rfl)))
      (pss_cons (ps_asg (pe_op op_repT (pe_tup (pa_cons pe_int pa_nil)) (pe_op op_add (pe_callB cr_len (by rfl) m.n_len (by decide +kernel) (pa_cons (pv 0) pa_nil)) pe_int)) (pg_name (i := 2) sc_routing_in.nd rfl (.inl rfl)))
      (pss_cons (ps_for PassesOwn.never rfl (pi_reversed (by rfl) m.n_reversed (pa_cons (pe_listEnum rfl (by rfl) m.n_list (by rfl) m.n_enumerate (pv 0)) pa_nil)) (show PG _ _ (gTup K 2 _) from pg_tup (by rfl) (pgs_cons (pg_name (i := 3) sc_routing_in.nd rfl (.inl rfl)) (pgs_cons (pg_name (i := 4) sc_routing_in.nd rfl (.inl rfl)) pgs_nil)))
      (pss_cons (ps_asg (pe_dget (Nat.lt_of_le_of_lt (Nat.add_le_add_left (by decide) _) hr.units) (pv 4) (pv 2) (fun _ _ => rfl)) (pg_name (i := 5) sc_routing_in.nd rfl (.inl rfl)))
      (pss_cons (ps_asg (pe_callTy cr_tupL (by rfl) m.n_tuple (by decide +kernel) (pa_cons (pe_lc (own := [("entered", 7), ("right", 8), ("down", 9)]) (by rfl) sc_routing_in.nd (pi_tup (pv 5)) (blkOk_by (own := [("entered", 7), ("right", 8), ("down", 9)]) (N := ["stages", "routing", "row", "diagonal", "stage", "way", "at", "entered", "right", "down"]) (sc := defScope s_routing_in) (by decide +kernel)) (fun _ _ _ _ _ => by exact (show PG _ _ (gTup K 3 _) from pg_tup (by rfl) (pgs_cons (pg_name (i := 7) sc_routing_in.nd rfl (.inl rfl)) (pgs_cons (pg_name (i := 8) sc_routing_in.nd rfl (.inl rfl)) (pgs_cons (pg_name (i := 9) sc_routing_in.nd rfl (.inl rfl)) pgs_nil))))) (fun _ _ _ _ _ => by exact pts_nil) (fun _ _ _ _ _ => by exact (pv 7))) pa_nil)) (pg_name (i := 2) sc_routing_in.nd rfl (.inl rfl)))
      (pss_one (ps_for PassesOwn.never rfl (pi_enumT (by rfl) m.n_enumerate (pa_cons (pv 5) pa_nil)) (show PG _ _ (gTup K 2 _) from pg_tup (by rfl) (pgs_cons (pg_name (i := 6) sc_routing_in.nd rfl (.inl rfl)) (pgs_cons (show PG _ _ (gTup K 3 _) from pg_tup (by rfl) (pgs_cons (pg_name (i := 7) sc_routing_in.nd rfl (.inl rfl)) (pgs_cons (pg_name (i := 8) sc_routing_in.nd rfl (.inl rfl)) (pgs_cons (pg_name (i := 9) sc_routing_in.nd rfl (.inl rfl)) pgs_nil)))) pgs_nil)))
      (pss_one (ps_if (pt_cmpR op_gt (pv 7) pe_int (nomark _))
      (pss_one (ps_expr (pe_bm PySem.F.plainAttrs_list PySem.F.slot_list_append PySem.F.type_list_append mt_append (pv 1) (pa_cons (pe_tup (pa_cons (pe_call G_name_of (hr.mono (by decide)) (by rfl) m.g_name_of m.F_name_of.kp m.b_name_of .nil pass0 (pa_cons (pv 6) (pa_cons (pe_op op_sub (pv 3) (pv 6)) pa_nil))) (pa_cons (pv 7) (pa_cons (pv 8) (pa_cons (pv 9) pa_nil))))) pa_nil))))
      pss_nil)))))))
      (pss_one (ps_ret (pe_callB (cr_sortT (d := 4) (B := 10 ^ 40) (by decide)) (by rfl) m.n_sorted (by decide +kernel) (pa_cons (pv 1) pa_nil))))))), ?_⟩
    have hwh := stages_whole h1 hst
    have hdl : ds.length = n := by rw [Paired.length hds]; exact hwh.1
    have F := flow_bk h1 hst
    have cellw : ∀ i, i < n → ∀ (j : Nat) (x : Nat × Nat × Nat), (bk (stagesOf ways nm n) n (i + 1)).2[j]? = some x → eB (stagesOf ways nm n) n (n - 1 - i) j = x.1 ∧ rB (stagesOf ways nm n) n (n - 1 - i) j = x.2.1 ∧ dB (stagesOf ways nm n) n (n - 1 - i) j = x.2.2 := fun i hi j x hx => by
      unfold eB rB dB
      rw [show n - (n - 1 - i) = i + 1 by omega, show (bk (stagesOf ways nm n) n (i + 1)).1 = (bk (stagesOf ways nm n) n (i + 1)).2.map Prod.fst from rfl]
      rw [List.getD_eq_getElem?_getD, List.getD_eq_getElem?_getD, List.getD_eq_getElem?_getD, List.getElem?_map, List.getElem?_map, List.getElem?_map, hx]
      exact ⟨rfl, rfl, rfl⟩
    have wlen : ∀ i, i < n → (bk (stagesOf ways nm n) n (i + 1)).2.length = n - 1 - i + 1 := fun i hi => by
      have := (RowAt.ok ways_ok (bk_ok h1 hst (i + 1) (by omega))).1.len
      rw [show (bk (stagesOf ways nm n) n (i + 1)).1 = (bk (stagesOf ways nm n) n (i + 1)).2.map Prod.fst from rfl, List.length_map] at this
      omega
    obtain ⟨e, he⟩ : ∃ e, e = eB (stagesOf ways nm n) n := ⟨_, rfl⟩
    obtain ⟨r, hr2⟩ : ∃ r, r = rB (stagesOf ways nm n) n := ⟨_, rfl⟩
    obtain ⟨d', hd2⟩ : ∃ d', d' = dB (stagesOf ways nm n) n := ⟨_, rfl⟩
    rw [← he, ← hr2, ← hd2] at q F
    rw [← he, ← hr2, ← hd2] at cellw
    clear he hr2 hd2
    walk_at "v2"
    refine NewK.of (Led.nil H) fun pr H1 L => ?_
    walk_at "v2"
    refine NewK.of L fun t0 H2 L => ?_
    walk_at "v1"
    refine LenK.ofL (.inl (.inl (L.sm _ _ ha))) ?_
    rw [List.length_map, hdl]
    refine RptTK.of (n := n + 1) L (L.tupAt (by walk_at "mem")) (by omega) (by omega) fun p0 H3 L => ?_
    obtain ⟨B0, s0, hp0, L⟩ := L.sink
    have hp0 : B0 p0 = some (.tup (nv (bk (stagesOf ways nm n) n 0).1)) := by
      rw [hp0]
      show some (HO.tup (List.replicate (n + 1) (V.int 0))) = some (HO.tup (nv (List.replicate (n + 1) 0)))
      unfold nv
      rw [List.map_replicate]
      rfl
    have L : Led B0 H3 [(pr, .lst [])] := L.sel (by walk_at "sel")
    walk_at "v2"
    have s03 := s0.trans L.sm
    refine LeK.of L (xs := ds.map V.ref) (.inl (.inl (s03 _ _ ha))) fun pe ts B2 H4 s2 htl hts L => ?_
    refine ⟨ts.map V.ref, L.lstAt (by walk_at "mem"), ?_⟩
    have htn : ts.length = n := by rw [htl, List.length_map, hdl]
    refine loop_rev (xs := ts.map V.ref) (fun i σ H' => ∃ y3 y4 y5 y6 y7 y8 y9 B' row rts, σ = [some (.ref a), some (.ref pr), some (.ref row), y3, y4, y5, y6, y7, y8, y9] ∧ Same B2 B' ∧ B' row = some (.tup (nv (bk (stagesOf ways nm n) n i).1)) ∧ RtsAt B' rts (accR e r d' n i) ∧ Led B' H' [(pe, .lst (ts.map V.ref)), (pr, .lst (rts.map V.ref))]) ⟨_, _, _, _, _, _, _, B2, p0, [], rfl, Same.refl _, s2 _ _ hp0, .nil, L⟩ (fun i σ H' h => ?_) (fun i x σ H' N hi hx h hN => ?_) (fun σ H' h => ?_)
    · obtain ⟨_, _, _, _, _, _, _, B', row, rts, _, _, _, _, L⟩ := h
      exact L.lstAt (by walk_at "mem")
    · obtain ⟨y3, y4, y5, y6, y7, y8, y9, B', row, rts, rfl, s', hrow, hrts, L⟩ := h
      rw [List.length_map, htn] at hi hx
      rw [List.getElem?_map] at hx
      obtain ⟨t, ht, rfl⟩ : ∃ t, ts[n - 1 - i]? = some t ∧ x = .ref t := by
        cases z : ts[n - 1 - i]? with
        | none => rw [z] at hx; cases hx
        | some t => rw [z] at hx; cases hx; exact ⟨t, rfl, rfl⟩
      obtain ⟨c, hc⟩ : ∃ c, ds[n - 1 - i]? = some c := ⟨_, List.getElem?_eq_getElem (by omega)⟩
      have htt := hts (n - 1 - i) t (.ref c) ht (by rw [List.getElem?_map, hc]; rfl)
      obtain ⟨S, hS, kvs, hk1, hk2⟩ := paired_get hds hc
      obtain ⟨S', hS', hmem, hent⟩ := bk_step h1 hst hi
      have eSS : S' = S := by rw [hS] at hS'; exact (Option.some.inj hS').symm
      subst eSS
      have hkey : (bk (stagesOf ways nm n) n i).1 ∈ S'.map Prod.fst := List.mem_map.mpr ⟨_, hmem, rfl⟩
      obtain ⟨v, hv, hway⟩ := hk2.look hkey
      have elook : lookA S' (bk (stagesOf ways nm n) n i).1 = (bk (stagesOf ways nm n) n (i + 1)).2 := by
        show _ = lookA ((stagesOf ways nm n).getD (n - 1 - i) []) _
        rw [List.getD_eq_getElem?_getD, hS']
        rfl
      rw [elook] at hway
      obtain ⟨wq, cs, rfl, hwq, hcs⟩ := hway
      have sHB : Same H B' := s0.trans (s2.trans s')
      walk_at "v1"
      refine UnpK.of (.inl (.inl ((s'.trans L.sm) _ _ htt))) rfl ?_
      walk_at "v1"
      walk_at "v2"
      have sBH : Same B' H' := L.sm
      refine ⟨.ref wq, by rw [← hv]; exact DGet.t ((sHB.trans sBH) _ _ hk1) (by rw [rk_kV]; exact sBH _ _ hrow), ?_⟩
      have hwl := wlen i hi
      have hcl : cs.length = n - 1 - i + 1 := by rw [Paired.length hcs]; exact hwl
      obtain ⟨W, hW⟩ : ∃ W, W = (bk (stagesOf ways nm n) n (i + 1)).2 := ⟨_, rfl⟩
      have cw := cellw i hi
      have hbk1 : (bk (stagesOf ways nm n) n (i + 1)).1 = W.map Prod.fst := by rw [hW]; rfl
      rw [← hW] at hcs cw hwl
      have hwq' := (sHB.trans sBH) _ _ hwq
      walk_at "v2"
      refine ⟨⟨_, .inl (.inl hwq')⟩, ?_⟩
      refine comp_tup (xs := cs.map V.ref) (fun j z acc H2 => acc = nv ((W.map Prod.fst).take j) ∧ Led B' H2 [(z, .lst acc), (pe, .lst (ts.map V.ref)), (pr, .lst (rts.map V.ref))]) (fun z hz => ⟨rfl, L.new hz⟩) (fun j z acc H2 h => .inl (.inl ((sHB.trans h.2.sm) _ _ hwq))) ?_ ?_
      rotate_left
      · rintro j z acc H2 x N2 hx ⟨rfl, L⟩ hN2
        rw [List.getElem?_map] at hx
        obtain ⟨cc, hcc, rfl⟩ : ∃ cc, cs[j]? = some cc ∧ x = .ref cc := by
          cases z : cs[j]? with
          | none => rw [z] at hx; cases hx
          | some cc => rw [z] at hx; cases hx; exact ⟨cc, rfl, rfl⟩
        obtain ⟨y, hy, hyt⟩ := paired_get hcs hcc
        have hyt : H cc = some (.tup [.int y.1, .int y.2.1, .int y.2.2]) := hyt
        have hj : j < W.length := (List.getElem?_eq_some_iff.mp hy).1
        unfold TurnK
        walk_at "v1"
        refine UnpK.of (.inl (.inl ((sHB.trans L.sm) _ _ hyt))) rfl ?_
        walk_at "v1"
        refine AppK.of L (by walk_at "mem") (Nat.lt_of_le_of_lt (m := 100) (by rw [nv_len, List.length_take, List.length_map]; omega) (by decide)) (by walk_at "put") fun H4 L => hN2 _ _ ⟨?_, L⟩
        rw [List.take_add_one, List.getElem?_map, hy, show (Option.map Prod.fst (some y)).toList = [y.1] from rfl, nv_app]
      rintro z acc H2 ⟨rfl, L⟩
      rw [List.length_map, hcl, List.take_of_length_le (by rw [List.length_map]; omega)] at L
      refine x_tupL.mpr ⟨_, L.lstAt (by walk_at "mem"), NewK.of L fun rq H5 L => ?_⟩
      obtain ⟨B3, s3, hrq, L⟩ := L.sink
      have L : Led B3 H5 [(pe, .lst (ts.map V.ref)), (pr, .lst (rts.map V.ref))] := L.sel (.skip .all)
      walk_at "v1"
      have sH3 : Same H B3 := sHB.trans s3
      refine ⟨⟨cs.map V.ref, .inl (.inl ((sH3.trans L.sm) _ _ hwq))⟩, ?_⟩
      refine loop_enumT (xs := cs.map V.ref) (fun j σ H2 => ∃ y6 y7 y8 y9 B4 rts2, σ = [some (.ref a), some (.ref pr), some (.ref rq), some (.int (n - 1 - i : Nat)), some (.ref c), some (.ref wq), y6, y7, y8, y9] ∧ Same B3 B4 ∧ RtsAt B4 rts2 (accR e r d' n i ++ ((List.range j).filterMap (cellR e r d' (n - 1 - i)))) ∧ Led B4 H2 [(pe, .lst (ts.map V.ref)), (pr, .lst (rts2.map V.ref))]) ⟨_, _, _, _, B3, rts, rfl, Same.refl _, by rw [show (List.range 0).filterMap (cellR e r d' (n - 1 - i)) = [] from rfl, List.append_nil]; exact hrts.mono s3, L⟩ (fun j σ H2 h => ?_) (fun j x σ H2 N2 hx h hN2 => ?_) (fun σ H2 h => ?_)
      · obtain ⟨_, _, _, _, B4, rts2, _, s4, _, L⟩ := h
        exact .inl (.inl ((sH3.trans (s4.trans L.sm)) _ _ hwq))
      · obtain ⟨y6, y7, y8, y9, B4, rts2, rfl, s4, hrts2, L⟩ := h
        rw [List.getElem?_map] at hx
        obtain ⟨cc, hcc, rfl⟩ : ∃ cc, cs[j]? = some cc ∧ x = .ref cc := by
          cases z : cs[j]? with
          | none => rw [z] at hx; cases hx
          | some cc => rw [z] at hx; cases hx; exact ⟨cc, rfl, rfl⟩
        obtain ⟨y, hy, hyt⟩ := paired_get hcs hcc
        have hyt : H cc = some (.tup [.int y.1, .int y.2.1, .int y.2.2]) := hyt
        have hj : j < n - 1 - i + 1 := by rw [← hcl]; exact (List.getElem?_eq_some_iff.mp hcc).1
        obtain ⟨c1, c2, c3⟩ := cw j y hy
        refine NewK.of L fun t2 H6 L => ?_
        walk_at "v1"
        refine UnpK.of (L.tupAt (by walk_at "mem")) rfl ?_
        have L : Led B4 H6 [(pe, .lst (ts.map V.ref)), (pr, .lst (rts2.map V.ref))] := L.sel (.skip .all)
        walk_at "v1"
        refine UnpK.of (.inl (.inl ((sH3.trans (s4.trans L.sm)) _ _ hyt))) rfl ?_
        walk_at "v1"
        have hcell : (List.range (j + 1)).filterMap (cellR e r d' (n - 1 - i)) = (List.range j).filterMap (cellR e r d' (n - 1 - i)) ++ (if 0 < y.1 then [(n - 1 - i, j, y.1, y.2.1, y.2.2)] else []) := by
          have hc1 : cellR e r d' (n - 1 - i) j = if 0 < y.1 then some (n - 1 - i, j, y.1, y.2.1, y.2.2) else none := by
            unfold cellR
            rw [c1, c2, c3]
          rw [List.range_succ, List.filterMap_append, List.filterMap_cons, List.filterMap_nil, hc1]
          by_cases h0 : 0 < y.1
          · rw [if_pos h0, if_pos h0]
          · rw [if_neg h0, if_neg h0]
        by_cases h0 : 0 < y.1
        · rw [if_pos (by omega)]
          rw [if_pos h0] at hcell
          refine ⟨tyL (L.lstAt (xs := rts2.map V.ref) (by walk_at "mem")), ?_⟩
          refine ⟨_, _, rfl, by omega, by omega, by omega, by omega, ?_⟩
          refine NewK.of L fun t3 H7 L => ?_
          obtain ⟨B5, s5, ht3, L⟩ := L.sink
          have hacl : rts2.length ≤ 400 := by
            rw [Paired.length hrts2, List.length_append]
            have q1 : (accR e r d' n i).length ≤ i * 8 := by
              unfold accR
              have : ∀ k, k ≤ i → ((List.range k).flatMap fun j => cellsR e r d' (n - 1 - j)).length ≤ k * 8 := fun k => by
                induction k with
                | zero => intro _; exact Nat.le_refl _
                | succ k ih =>
                  intro hk
                  rw [List.range_succ, List.flatMap_append, List.length_append, List.flatMap_cons, List.flatMap_nil, List.append_nil]
                  have h2 := ih (by omega)
                  have h3 := List.length_filterMap_le (cellR e r d' (n - 1 - k)) (List.range (n - 1 - k + 1))
                  rw [List.length_range] at h3
                  have h4 : (cellsR e r d' (n - 1 - k)).length ≤ 8 := by
                    unfold cellsR
                    omega
                  omega
              exact this i (Nat.le_refl _)
            have q2 := List.length_filterMap_le (cellR e r d' (n - 1 - i)) (List.range j)
            rw [List.length_range] at q2
            omega
          refine AppK.of L (by walk_at "mem") (Nat.lt_of_le_of_lt (m := 400) (by rw [List.length_map]; exact hacl) (by decide)) (by walk_at "put") fun H8 L => hN2 _ _ ⟨_, _, _, _, B5, rts2 ++ [t3], rfl, s4.trans s5, ?_, by rw [List.map_append]; exact L⟩
          rw [hcell, ← List.append_assoc]
          refine Paired.snoc (hrts2.mono s5) ?_
          unfold RtAt rtN
          rw [ht3]
          dsimp only
          rw [show ((j : Nat) : Int) + (((n - 1 - i : Nat) : Int) - (j : Int)) = ((n - 1 - i : Nat) : Int) by omega]
          unfold tri
          push_cast
          rfl
        · rw [if_neg (by omega)]
          rw [if_neg h0, List.append_nil] at hcell
          exact hN2 _ _ ⟨_, _, _, _, B4, rts2, rfl, s4, by rw [hcell]; exact hrts2, L⟩
      · obtain ⟨y6, y7, y8, y9, B4, rts2, rfl, s4, hrts2, L⟩ := h
        rw [List.length_map, hcl] at hrts2
        walk_at "v1"
        refine hN _ _ ⟨_, _, _, _, _, _, _, B4, rq, rts2, rfl, s'.trans (s3.trans s4), ?_, ?_, L⟩
        · rw [hbk1]
          exact s4 _ _ hrq
        · rw [accR_succ]
          exact hrts2
    · obtain ⟨y3, y4, y5, y6, y7, y8, y9, B', row, rts, rfl, s', hrow, hrts, L⟩ := h
      rw [List.length_map, htn] at hrts
      walk_at "v1"
      have hacc := flow_acc F (by omega)
      have hrl := rt_len (e := e) (r := r) (d := d') n
      have htri : tri n ≤ 36 := tri_mono h8
      have hall : ∀ x ∈ rtOf e r d' n, TS.Bd (10 ^ 40) (rtI x) := fun x hx => by
        obtain ⟨t, i, h1, h2, h3, rfl⟩ := rt_mem hx
        have hb := F.bd t i (by omega) h2
        have hw := F.way t i h1 h2
        have hrd : r t i ≤ e t i ∧ d' t i ≤ e t i := by rcases ways_mem.mp hw with ⟨_, z⟩ | ⟨_, z, _⟩ <;> omega
        have h5 : tri t ≤ tri 8 := tri_mono (by omega)
        have h6 : tri 8 = 36 := rfl
        intro m hm
        unfold rtI rtN at hm
        simp only [List.mem_cons, List.not_mem_nil, or_false] at hm
        have big : (1000 : Int) < 10 ^ 40 := by decide
        rcases hm with z | z | z | z <;> (rw [z]; omega)
      have hlen : rts.length ≤ 36 := by
        rw [Paired.length hrts, accR_perm.length_eq]
        omega
      refine ⟨rts.map V.ref, L.lstAt (by walk_at "mem"), by rw [List.length_map]; omega, fun x hx => ?_, fun ys hp hs => ?_⟩
      · obtain ⟨t, ht, rfl⟩ := List.mem_map.mp hx
        obtain ⟨j, hj⟩ := List.mem_iff_getElem?.mp ht
        obtain ⟨y, hy, hyt⟩ := paired_get hrts hj
        exact ⟨rtI y, RtAt.tup hyt L.sm, rfl, hall y (accR_perm.mem_iff.mp (List.mem_of_getElem? hy))⟩
      · obtain ⟨ts', rfl, hts'⟩ := rts_sorted hrts L.sm hp hs hall accR_perm hacc.sorted.2
        exact NewK.of L fun p H9 L => q p ts' B' H9 (s0.trans (s2.trans s')) hts' (L.sel (l' := [_]) (.cons .hd (.skip (.skip .all))))
/-! cut routing_for -/
def rtFor (ms : List Nat) : List Rt := rtOf (eB (stagesOf ways (nmOf ms) ms.length) ms.length) (rB (stagesOf ways (nmOf ms) ms.length) ms.length) (dB (stagesOf ways (nmOf ms) ms.length) ms.length) ms.length
def sp_routing_for (K : PySem.W.Frag) (d : Ad) : Sp := fun vs H Q E => ∃ (a : Addr) (ms : List Nat), vs = [.ref a] ∧ SqL K H a (nv ms) ∧ NL ms ∧
  (stkOf ms = none → ∀ p ts B' H', Same H B' → RtsAt B' ts (rtFor ms) → Led B' H' [(p, .lst (ts.map V.ref))] → Q (.ref p) H') ∧
  (∀ t dx H', stkOf ms = some t → Same H H' → H' dx = some (.xd [("diagonal", .int (t : Nat))]) → E (.ref d.c_Impossible) (some dx) H')
theorem ok_routing_for (m : Mo P K mg d) (sm : SM bs) (G_x_Impossible : FnOk P w K mg bs CX0 2 d.xf_Impossible d.xd_Impossible ["self", "diagonal"] (sp_xinit d.c_Impossible "diagonal")) (G_check_names : FnOk P w K mg bs CX0 4 d.a_check_names d.fd_check_names ["names"] (sp_check_names K)) (G_stages_of_p : FnOk P w K mg bs CX0 6 d.a_stages_of_p d.fd_stages_of_p ["names"] (sp_stages_of_p K d)) (G_stuck_in : FnOk P w K mg bs CX0 1 d.a_stuck_in d.fd_stuck_in ["stages"] (sp_stuck_in K)) (G_routing_in : FnOk P w K mg bs CX0 5 d.a_routing_in d.fd_routing_in ["stages"] (sp_routing_in K)) : FnOk P w K mg bs (L2.CX P w) 7 d.a_routing_for d.fd_routing_for ["names"] (sp_routing_for K d) := by
  refine m.F_routing_for.okX (k := 6) sc_routing_for (fun vs H Q E h => ?_) (fun cdv A fr s H vs Q E hr h => ?_)
  · obtain ⟨a, ms, rfl, hS, hN, q, q2⟩ := h
    rfl
  · obtain ⟨a, ms, rfl, hS, hN, q, q2⟩ := h
    refine ⟨_, (pss_cons (ps_expr (pe_call G_check_names (hr.mono (by decide)) (by rfl) m.g_check_names m.F_check_names.kp m.b_check_names .nil pass0 (pa_cons (pv 0) pa_nil)))
      (pss_cons (ps_asg (pe_call G_stages_of_p (hr.mono (by decide)) (by rfl) m.g_stages_of_p m.F_stages_of_p.kp m.b_stages_of_p .nil pass0 (pa_cons (pv 0) pa_nil)) (pg_name (i := 1) sc_routing_for.nd rfl (.inl rfl)))
      (pss_cons (ps_asg (pe_call G_stuck_in (hr.mono (by decide)) (by rfl) m.g_stuck_in m.F_stuck_in.kp m.b_stuck_in .nil pass0 (pa_cons (pv 1) pa_nil)) (pg_name (i := 2) sc_routing_for.nd rfl (.inl rfl)))
      (pss_cons (ps_if (pt_cmpR op_notN (pv 2) pe_non (nomark _))
      (pss_one (ps_raise rfl (takes_of rfl rfl rfl rfl) (pmk_oex m.O_Impossible.T m.O_Impossible.iC m.O_Impossible.tI G_x_Impossible (hr.mono (by decide)) m.O_Impossible.b .nil pass0 (by rfl) m.g_Impossible (pa_cons (pv 2) pa_nil))))
      pss_nil)
      (pss_one (ps_ret (pe_call G_routing_in (hr.mono (by decide)) (by rfl) m.g_routing_in m.F_routing_in.kp m.b_routing_in .nil pass0 (pa_cons (pv 1) pa_nil)))))))), ?_⟩
    walk_at "v2"
    refine ⟨a, ms, rfl, hS, hN.1, hN.2.1, hN.2.2, fun H1 s1 => ?_⟩
    walk_at "v2"
    refine ⟨a, ms, rfl, s1.seq hS, hN.2.2, fun p ds B2 H2 s2 hds L => ?_⟩
    walk_at "v2"
    refine ⟨p, ds, stagesOf ways (nmOf ms) ms.length, rfl, L.at (by walk_at "mem"), hds.mono L.sm, stagesOf_ne hN.2.1, fun H3 s3 => ?_⟩
    cases hst : stkOf ms with
    | some t =>
      have hst2 := hst
      have ht := stk_isStuck (nm := nmOf ms) (n := ms.length) hN.2.1
      unfold stkOf at hst
      rw [hst] at ht ⊢
      have ht : t < ms.length := ht.1
      have h8 := hN.2.2
      walk_at "v2"
      rw [decide_eq_false (show ¬ oV (some t) = V.non from fun z => by cases z), if_pos (by rfl)]
      have hlen : ∀ k : Nat, k < 9 → (Str.ofString (toString ((k : Nat) : Int))).length ≤ 1000 := by decide +kernel
      refine MkXK.of (n := (t : Int)) (Nat.lt_of_lt_of_le (m := 2 ^ 8) (by omega) (by decide)) (hlen t (by omega)) fun dx hdx => ?_
      exact q2 t dx _ hst2 (((s1.trans s2).trans (L.sm.trans s3)).trans ((Led.nil H3).new hdx).sm) upd_same
    | none =>
      have hst2 := hst
      unfold stkOf at hst
      rw [hst]
      walk_at "v2"
      rw [decide_eq_true (show oV none = V.non from rfl)]
      walk_at "v1"
      refine ⟨p, ds, nmOf ms, ms.length, rfl, (L.same s3).at (by walk_at "mem"), hds.mono (L.sm.trans s3), hN.2.1, hN.2.2, hst, fun p2 ts B4 H4 s4 hts L4 => ?_⟩
      exact q hst2 p2 ts B4 H4 ((s1.trans s2).trans ((L.sm.trans s3).trans s4)) hts L4
/-! cut diagonal_of -/
def sp_diagonal_of (K : PySem.W.Frag) : Sp := fun vs H Q _ => ∃ n : Int, vs = [.int n] ∧ 0 ≤ n ∧ n ≤ 10 ^ 30 ∧ ∀ t : Int, 0 ≤ t → t < 2 ^ 53 → t * (t + 1) / 2 ≤ n → n < t * (t + 1) / 2 + (t + 1) → Q (.int t) H
theorem ok_diagonal_of (m : Mo P K mg d) (sm : SM bs) : FnOk P w K mg bs CX0 1 d.a_diagonal_of d.fd_diagonal_of ["name"] (sp_diagonal_of K) := by
  refine m.F_diagonal_of.ok (k := 0) sc_diagonal_of (fun vs H Q E h => ?_) (fun cdv A fr s H vs Q E hr h => ?_)
  · obtain ⟨n, rfl, h0, h1, q⟩ := h
    rfl
  · obtain ⟨n, rfl, h0, h1, q⟩ := h
    refine ⟨_, (pss_one (ps_ret (pe_op op_fdiv (pe_op op_sub (pe_callBfun cr_isqrt (by rfl) m.i_isqrt (pa_cons (pe_op op_add (pe_op op_mul pe_int (pv 0)) pe_int) pa_nil)) pe_int) pe_int))), ?_⟩
    walk_at "vc"
    refine ⟨by walk_at "sd", _, rfl, by omega, by omega, fun s hs => ?_⟩
    walk_at "vc"
    refine ⟨by walk_at "sd", ?_⟩
    obtain ⟨s1, s2⟩ := hs
    have s3 : ((s * s : Nat) : Int) ≤ 8 * n + 1 := by omega
    have s4 : 8 * n + 1 < (((s + 1) * (s + 1) : Nat) : Int) := by omega
    rw [Int.natCast_mul] at s3 s4
    have s0 : 1 ≤ s := by
      apply Classical.byContradiction
      intro z
      have z : s = 0 := by omega
      subst z
      simp at s4
      omega
    obtain ⟨t, ht⟩ : ∃ t : Int, t = ((s : Int) - 1) / 2 := ⟨_, rfl⟩
    have t1 : 2 * t + 1 ≤ (s : Int) := by omega
    have t2 : ((s + 1 : Nat) : Int) ≤ 2 * t + 3 := by omega
    have m1 : (2 * t + 1) * (2 * t + 1) ≤ (s : Int) * s := Int.mul_le_mul t1 t1 (by omega) (by omega)
    have m2 : ((s + 1 : Nat) : Int) * ((s + 1 : Nat) : Int) ≤ (2 * t + 3) * (2 * t + 3) := Int.mul_le_mul t2 t2 (by omega) (by omega)
    have e1 : (2 * t + 1) * (2 * t + 1) = 4 * (t * (t + 1)) + 1 := by
      rw [Int.mul_add (2 * t + 1), Int.add_mul (2 * t) 1 (2 * t), Int.mul_assoc, Int.mul_left_comm t 2 t, Int.mul_add t t 1]
      omega
    have e2 : (2 * t + 3) * (2 * t + 3) = 4 * (t * (t + 1)) + 8 * (t + 1) + 1 := by
      rw [Int.mul_add (2 * t + 3), Int.add_mul (2 * t) 3 (2 * t), Int.mul_assoc, Int.mul_left_comm t 2 t, Int.mul_add t t 1]
      omega
    have e3 : t < 2 ^ 53 := by
      apply Classical.byContradiction
      intro z
      have z : (2 : Int) ^ 53 ≤ t := by omega
      have : (2 : Int) ^ 53 * 2 ^ 53 ≤ t * (t + 1) := Int.mul_le_mul z (by omega) (by decide) (by omega)
      omega
    have ev := even_tt t
    rw [← ht]
    exact q t (by omega) e3 (by omega) (by omega)
/-! cut cell_of -/
def sp_cell_of (K : PySem.W.Frag) : Sp := fun vs H Q _ => ∃ n : Int, vs = [.int n] ∧ 0 ≤ n ∧ n ≤ 10 ^ 30 ∧ ∀ p H' r d, Led H H' [(p, .tup [.int r, .int d])] → 0 ≤ r → 0 ≤ d → r + d < 2 ^ 53 → nameC r d = n → Q (.ref p) H'
theorem ok_cell_of (m : Mo P K mg d) (sm : SM bs) (G_is_integer_within : FnOk P w K mg bs CX0 2 d.a_is_integer_within d.fd_is_integer_within ["value", "least", "greatest"] (sp_is_integer_within K)) (G_cells_before : FnOk P w K mg bs CX0 1 d.a_cells_before d.fd_cells_before ["diagonal"] (sp_cells_before K)) (G_diagonal_of : FnOk P w K mg bs CX0 1 d.a_diagonal_of d.fd_diagonal_of ["name"] (sp_diagonal_of K)) : FnOk P w K mg bs CX0 3 d.a_cell_of d.fd_cell_of ["name"] (sp_cell_of K) := by
  obtain ⟨t_GREATEST_NAME, h_GREATEST_NAME⟩ := m.mg_GREATEST_NAME
  refine m.F_cell_of.ok (k := 2) sc_cell_of (fun vs H Q E h => ?_) (fun cdv A fr s H vs Q E hr h => ?_)
  · obtain ⟨n, rfl, h0, h1, q⟩ := h
    rfl
  · obtain ⟨n, rfl, h0, h1, q⟩ := h
    refine ⟨_, (pss_cons (ps_if (pt_not (pt_val (pe_call G_is_integer_within (hr.mono (by decide)) (by rfl) m.g_is_integer_within m.F_is_integer_within.kp m.b_is_integer_within .nil pass0 (pa_cons (pv 0) (pa_cons pe_int (pa_cons (pe_glob (v := .int (1000000000000000000000000000000)) rfl h_GREATEST_NAME ⟨_, rfl⟩) pa_nil))))))
      (pss_one ps_never)
      pss_nil)
      (pss_cons (ps_asg (pe_call G_diagonal_of (hr.mono (by decide)) (by rfl) m.g_diagonal_of m.F_diagonal_of.kp m.b_diagonal_of .nil pass0 (pa_cons (pv 0) pa_nil)) (pg_name (i := 1) sc_cell_of.nd rfl (.inl rfl)))
      (pss_cons (ps_asg (pe_op op_sub (pv 0) (pe_call G_cells_before (hr.mono (by decide)) (by rfl) m.g_cells_before m.F_cells_before.kp m.b_cells_before .nil pass0 (pa_cons (pv 1) pa_nil))) (pg_name (i := 2) sc_cell_of.nd rfl (.inl rfl)))
      (pss_one (ps_ret (pe_tup (pa_cons (pv 2) (pa_cons (pe_op op_sub (pv 1) (pv 2)) pa_nil)))))))), ?_⟩
    walk_at "vc"
    refine ⟨_, _, _, rfl, ?_⟩
    walk_at "vc"
    rw [decide_eq_true h0, decide_eq_true (show n ≤ 1000000000000000000000000000000 from h1)]
    walk_at "vc"
    refine ⟨n, rfl, h0, h1, fun t t0 t1 t2 t3 => ?_⟩
    walk_at "vc"
    refine ⟨t, rfl, t0, by omega, ?_⟩
    walk_at "vc"
    refine NewK.of (Led.nil H) fun p H1 L => q p H1 _ _ L (by omega) (by omega) (by omega) ?_
    unfold nameC
    have e : n - t * (t + 1) / 2 + (t - (n - t * (t + 1) / 2)) = t := by omega
    rw [e]
    omega
/-! cut send -/
/-- a dict of numbers by names -/
def comK (c : Nat → Nat) (kvs : List (Key × V)) : Prop := (∀ x : Nat, L2.valV kvs (.inl (x : Int)) = if c x = 0 then none else some (.int (c x : Nat))) ∧ ∀ kv ∈ kvs, ∃ x : Nat, kv.1 = .inl (x : Int)
theorem keyN_inj {x y : Nat} (h : (Sum.inl (x : Int) : Key) = .inl (y : Int)) : x = y := by
  have := Sum.inl.inj h
  omega
theorem comK.put {c : Nat → Nat} {kvs : List (Key × V)} (h : comK c kvs) {x k : Nat} (hk : 0 < k) : comK (fun y => c y + if y = x then k else 0) (putK kvs (.inl (x : Int)) (.int ((c x : Nat) + (k : Nat) : Int))) := by
  refine ⟨fun y => ?_, fun kv hkv => ?_⟩
  · rw [L2.valV_put]
    by_cases e : y = x
    · have e2 : (fun y => c y + if y = x then k else 0) y = c x + k := by
        show c y + (if y = x then k else 0) = _
        rw [if_pos e, e]
      rw [e2, if_pos (by rw [e]), if_neg (by omega)]
      rfl
    · have e2 : (fun y => c y + if y = x then k else 0) y = c y := by
        show c y + (if y = x then k else 0) = _
        rw [if_neg e]
        rfl
      rw [e2, if_neg fun z => e (keyN_inj z), h.1 y]
  · unfold putK at hkv
    split at hkv
    · obtain ⟨q, hq, rfl⟩ := List.mem_map.mp hkv
      split
      · exact h.2 q hq
      · exact h.2 q hq
    · rcases List.mem_append.mp hkv with z | z
      · exact h.2 kv z
      · rw [List.mem_singleton.mp z]; exact ⟨x, rfl⟩
theorem valV_drop {kvs : List (Key × V)} {k j : Key} : L2.valV (dropK kvs k) j = if j = k then none else L2.valV kvs j := by
  unfold dropK L2.valV
  induction kvs with
  | nil => split <;> rfl
  | cons a r ih =>
    rw [List.filter_cons]
    by_cases e : a.1 = k
    · rw [decide_eq_false (fun z => z e), if_neg Bool.false_ne_true, ih]
      by_cases f : j = k
      · rw [if_pos f, if_pos f]
      · rw [if_neg f, if_neg f, List.find?_cons, decide_eq_false (fun z : a.1 = j => f (z.symm.trans e))]
    · rw [decide_eq_true e, if_pos rfl, List.find?_cons, List.find?_cons]
      by_cases f : a.1 = j
      · rw [decide_eq_true f, if_neg (fun z => e (f.trans z))]
      · rw [decide_eq_false f]
        exact ih
theorem comK.drop {c : Nat → Nat} {kvs : List (Key × V)} (h : comK c kvs) (x : Nat) : comK (fun y => if y = x then 0 else c y) (dropK kvs (.inl (x : Int))) := by
  refine ⟨fun y => ?_, fun kv hkv => h.2 kv (List.mem_filter.mp hkv).1⟩
  rw [valV_drop]
  by_cases e : y = x
  · have e2 : (fun y => if y = x then 0 else c y) y = 0 := if_pos e
    rw [e2, if_pos (by rw [e]), if_pos rfl]
  · have e2 : (fun y => if y = x then 0 else c y) y = c y := if_neg e
    rw [e2, if_neg fun z => e (keyN_inj z), h.1 y]
theorem comK.zero {c : Nat → Nat} {kvs : List (Key × V)} (h : comK c kvs) (h0 : ∀ y, c y = 0) : kvs = [] := by
  cases kvs with
  | nil => rfl
  | cons a r =>
    obtain ⟨x, hx⟩ := h.2 a List.mem_cons_self
    have := h.1 x
    rw [if_pos (h0 x)] at this
    unfold L2.valV at this
    rw [List.find?_cons, decide_eq_true hx] at this
    cases this
def sp_send (K : PySem.W.Frag) : Sp := fun vs H Q _ => ∃ (B : Hp) (a : Addr) (c : Nat → Nat) (kvs : List (Key × V)) (x k : Nat) (l : List (Addr × HO)), vs = [.ref a, .int (x : Int), .int (k : Int)] ∧ Led B H ((a, .dK kvs) :: l) ∧ comK c kvs ∧ kvs.length < 1000 ∧
  ∀ H' kvs', Led B H' ((a, .dK kvs') :: l) → comK (fun y => c y + if y = x then k else 0) kvs' → kvs'.length ≤ kvs.length + 1 → Q .non H'
theorem ok_send (m : Mo P K mg d) (sm : SM bs) : FnOk P w K mg bs CX0 1 d.a_send d.fd_send ["coming", "name", "many"] (sp_send K) := by
  refine m.F_send.ok (k := 0) sc_send (fun vs H Q E h => ?_) (fun cdv A fr s H vs Q E hr h => ?_)
  · obtain ⟨B, a, c, kvs, x, k, l, rfl, L, hc, hkl, q⟩ := h
    rfl
  · obtain ⟨B, a, c, kvs, x, k, l, rfl, L, hc, hkl, q⟩ := h
    refine ⟨_, (pss_one (ps_if (pt_cmpR op_gt (pv 2) pe_int (nomark _))
      (pss_one (ps_dput (Nat.lt_of_le_of_lt (Nat.add_le_add_left (by decide) _) hr.units) (pv 0) (pv 1) (pe_op op_add (pe_dget2 (Nat.lt_of_le_of_lt (Nat.add_le_add_left (by decide) _) hr.units) (pv 0) (pv 1) pe_int ⟨by rfl, by rfl, by rfl, by rfl⟩) (pv 2)) rfl))
      pss_nil)), ?_⟩
    walk_at "v1"
    by_cases h0 : 0 < k
    · rw [if_pos (by omega)]
      refine ⟨.inl ⟨kvs, .inl (L.at (.head _))⟩, _, DGet.k (k := .inl (x : Int)) (L.at (.head _)), ?_⟩
      have ho : (L2.valV kvs (.inl (x : Int))).getD (V.int 0) = V.int (c x : Nat) := by
        rw [hc.1 x]
        by_cases z : c x = 0
        · rw [if_pos z, z]; rfl
        · rw [if_neg z]; rfl
      rw [ho]
      walk_at "v1"
      refine DPutK.k (k := .inl (x : Int)) L (.head _) (Nat.lt_of_lt_of_le hkl (by decide)) .hd fun H1 L => ?_
      exact q H1 _ L (hc.put h0) (length_putK _ _ _)
    · rw [if_neg (by omega)]
      have : (fun y => c y + if y = x then k else 0) = c := by
        funext y
        rw [show k = 0 by omega, ite_self]
        rfl
      rw [this] at q
      exact q H kvs L hc (Nat.le_succ _)
/-! cut send_on -/
theorem tri_int (t : Nat) : (t : Int) * ((t : Int) + 1) / 2 = ((tri t : Nat) : Int) := by
  unfold tri
  push_cast
  rfl
def sp_send_on (K : PySem.W.Frag) : Sp := fun vs H Q _ => ∃ (B : Hp) (a : Addr) (c : Nat → Nat) (kvs : List (Key × V)) (t i r d : Nat) (l : List (Addr × HO)), vs = [.ref a, .int ((tri t + i : Nat) : Int), .int (r : Int), .int (d : Int)] ∧ Led B H ((a, .dK kvs) :: l) ∧ comK c kvs ∧ kvs.length < 990 ∧ i ≤ t ∧ t ≤ 100 ∧
  ∀ H' kvs', Led B H' ((a, .dK kvs') :: l) → comK (fun y => (c y + if y = tri (t + 1) + i + 1 then r else 0) + if y = tri (t + 1) + i then d else 0) kvs' → kvs'.length ≤ kvs.length + 2 → Q .non H'
theorem ok_send_on (m : Mo P K mg d) (sm : SM bs) (G_name_of : FnOk P w K mg bs CX0 4 d.a_name_of d.fd_name_of ["right", "down"] (sp_name_of K)) (G_cell_of : FnOk P w K mg bs CX0 3 d.a_cell_of d.fd_cell_of ["name"] (sp_cell_of K)) (G_send : FnOk P w K mg bs CX0 1 d.a_send d.fd_send ["coming", "name", "many"] (sp_send K)) : FnOk P w K mg bs CX0 5 d.a_send_on d.fd_send_on ["coming", "name", "right", "down"] (sp_send_on K) := by
  refine m.F_send_on.ok (k := 4) sc_send_on (fun vs H Q E h => ?_) (fun cdv A fr s H vs Q E hr h => ?_)
  · obtain ⟨B, a, c, kvs, t, i, r, d', l, rfl, L, hc, hkl, hi, ht, q⟩ := h
    rfl
  · obtain ⟨B, a, c, kvs, t, i, r, d', l, rfl, L, hc, hkl, hi, ht, q⟩ := h
    refine ⟨_, (pss_cons (ps_asg (pe_call G_cell_of (hr.mono (by decide)) (by rfl) m.g_cell_of m.F_cell_of.kp m.b_cell_of .nil pass0 (pa_cons (pv 1) pa_nil)) (show PG _ _ (gTup K 2 _) from pg_tup (by rfl) (pgs_cons (pg_name (i := 4) sc_send_on.nd rfl (.inl rfl)) (pgs_cons (pg_name (i := 5) sc_send_on.nd rfl (.inl rfl)) pgs_nil))))
      (pss_cons (ps_expr (pe_call G_send (hr.mono (by decide)) (by rfl) m.g_send m.F_send.kp m.b_send .nil pass0 (pa_cons (pv 0) (pa_cons (pe_call G_name_of (hr.mono (by decide)) (by rfl) m.g_name_of m.F_name_of.kp m.b_name_of .nil pass0 (pa_cons (pe_op op_add (pv 4) pe_int) (pa_cons (pv 5) pa_nil))) (pa_cons (pv 2) pa_nil)))))
      (pss_one (ps_expr (pe_call G_send (hr.mono (by decide)) (by rfl) m.g_send m.F_send.kp m.b_send .nil pass0 (pa_cons (pv 0) (pa_cons (pe_call G_name_of (hr.mono (by decide)) (by rfl) m.g_name_of m.F_name_of.kp m.b_name_of .nil pass0 (pa_cons (pv 4) (pa_cons (pe_op op_add (pv 5) pe_int) pa_nil))) (pa_cons (pv 3) pa_nil)))))))), ?_⟩
    have ht2 : tri t ≤ tri 100 := tri_mono ht
    have ht3 : tri 100 = 5050 := rfl
    walk_at "vc"
    refine ⟨_, rfl, by omega, by omega, fun p H1 rr dd L1 h0 h1 h2 hn => ?_⟩
    obtain ⟨rfl, rfl⟩ := cell_is hi h0 h1 hn
    have L := L.join L1
    have L : Led B H1 ((p, .tup [.int (i : Int), .int ((t : Int) - i)]) :: (a, .dK kvs) :: l) := L
    walk_at "vc"
    refine UnpK.of (L.tupAt (.head _)) rfl ?_
    walk_at "vc"
    refine ⟨_, _, rfl, by omega, by omega, by omega, by omega, ?_⟩
    have L := L.sel (.skip .all)
    have e1 : ((i : Int) + 1 + ((t : Int) - i)) * ((i : Int) + 1 + ((t : Int) - i) + 1) / 2 + ((i : Int) + 1) = ((tri (t + 1) + i + 1 : Nat) : Int) := by
      rw [show (i : Int) + 1 + ((t : Int) - i) = ((t + 1 : Nat) : Int) by omega, tri_int]
      omega
    rw [e1]
    refine ⟨B, a, c, kvs, tri (t + 1) + i + 1, r, l, rfl, L, hc, by omega, fun H2 kvs2 L hc2 hl2 => ?_⟩
    walk_at "vc"
    refine ⟨_, _, rfl, by omega, by omega, by omega, by omega, ?_⟩
    have e2 : ((i : Int) + ((t : Int) - i + 1)) * ((i : Int) + ((t : Int) - i + 1) + 1) / 2 + (i : Int) = ((tri (t + 1) + i : Nat) : Int) := by
      rw [show (i : Int) + ((t : Int) - i + 1) = ((t + 1 : Nat) : Int) by omega, tri_int]
      omega
    rw [e2]
    refine ⟨B, a, _, kvs2, tri (t + 1) + i, d', l, rfl, L, hc2, by omega, fun H3 kvs3 L hc3 hl3 => ?_⟩
    walk_at "vc"
    exact q H3 kvs3 L hc3 (by omega)
/-! cut is_routing_item -/
def sp_is_routing_item (K : PySem.W.Frag) : Sp := fun vs H Q _ => ∃ (t : Addr) (x : Rt), vs = [.ref t] ∧ RtAt H t x ∧ ∀ H', Same H H' → Q (.bl true) H'
theorem ok_is_routing_item (m : Mo P K mg d) (sm : SM bs) (G_is_integer : FnOk P w K mg bs CX0 1 d.a_is_integer d.fd_is_integer ["value"] (sp_is_integer K)) : FnOk P w K mg bs CX0 2 d.a_is_routing_item d.fd_is_routing_item ["value"] (sp_is_routing_item K) := by
  refine m.F_is_routing_item.ok (k := 1) sc_is_routing_item (fun vs H Q E h => ?_) (fun cdv A fr s H vs Q E hr h => ?_)
  · obtain ⟨t, x, rfl, ht, q⟩ := h
    rfl
  · obtain ⟨t, x, rfl, ht, q⟩ := h
    refine ⟨_, (pss_cons (ps_if (PW.pt (pw_or (pt_not (pt_val (pe_callB cr_is (by rfl) m.n_isinstance (by decide +kernel) (pa_cons (pv 0) (pa_cons (pe_bltn (v := .ty "tuple") (by rfl) m.n_tuple (by decide +kernel) rfl) pa_nil))))) (pw_or1 (pt_cmpR op_ne (pe_callB cr_len (by rfl) m.n_len (by decide +kernel) (pa_cons (pv 0) pa_nil)) pe_int (nomark _)))))
      (pss_one (ps_ret pe_bl))
      pss_nil)
      (pss_one (ps_ret (pe_cmpR (op_eqL hr.units) (pe_lc (own := [("item", 1)]) (by rfl) sc_is_routing_item.nd (pi_tup (pv 0)) (blkOk_by (own := [("item", 1)]) (N := ["value", "item"]) (sc := defScope s_is_routing_item) (by decide +kernel)) (fun _ _ _ _ _ => by exact (pg_name (i := 1) sc_is_routing_item.nd rfl (.inl rfl))) (fun _ _ _ _ _ => by exact (pts_one (pt_not (pt_val (pe_call G_is_integer (hr.mono (by decide)) (by rfl) m.g_is_integer m.F_is_integer.kp m.b_is_integer .nil pass0 (pa_cons (pv 1) pa_nil)))))) (fun _ _ _ _ _ => by exact (pv 1))) (pe_lst pa_nil) (nomark _))))), ?_⟩
    have ht : H t = some (.tup ((rtI x).map V.int)) := ht
    walk_at "v2"
    refine IsK.tup (b := true) ht (by decide +kernel) ?_
    rw [show (!true) = false from rfl, if_neg Bool.false_ne_true]
    refine LenK.ofT (.inl (.inl ht)) ?_
    rw [show ((((rtI x).map V.int).length : Nat) : Int) = 4 from rfl, decide_eq_true rfl, show (!true) = false from rfl, if_neg Bool.false_ne_true]
    refine ⟨⟨_, .inl (.inl ht)⟩, ?_⟩
    refine comp_tup (xs := (rtI x).map V.int) (fun j z acc H' => acc = [] ∧ Led H H' [(z, .lst [])]) (fun z hz => ⟨rfl, (Led.nil H).new hz⟩) (fun j z acc H' h => .inl (.inl (h.2.sm _ _ ht))) ?_ ?_
    · rintro z acc H2 ⟨rfl, L⟩
      refine NewK.of L fun e0 H3 L => ?_
      refine EqL0 (L.lstAt (xs := []) (by walk_at "mem")) (L.lstAt (by walk_at "mem")) ?_
      exact q _ L.sm
    · rintro j z acc H2 y N hx ⟨rfl, L⟩ hN
      rw [List.getElem?_map] at hx
      obtain ⟨i, hi, rfl⟩ : ∃ i : Int, (rtI x)[j]? = some i ∧ y = .int i := by
        cases z : (rtI x)[j]? with
        | none => rw [z] at hx; cases hx
        | some i => rw [z] at hx; cases hx; exact ⟨i, rfl, rfl⟩
      unfold TurnK
      walk_at "vc"
      refine ⟨_, rfl, ?_⟩
      walk_at "vc"
      exact hN _ _ ⟨rfl, L⟩
/-! cut is_routing -/
theorem prs_dp {K : PySem.W.Frag} {B H : Hp} (s : Same B H) : ∀ {as : List Addr} {l : List (Nat × Nat)}, PrsAt B as l → DpAll K H (as.map V.ref) (l.map fun x => PyData.tuple [.int (x.1 : Nat), .int (x.2 : Nat)])
  | [], [], _ => .nil
  | a :: as, x :: l, .cons h r => .cons (.tup (.inl (.inl (s _ _ h))) (.cons (.int _) (.cons (.int _) .nil))) (prs_dp s (as := as) (l := l) r)
theorem eqd_pr (x : Nat × Nat) : Eqd 2 (PyData.tuple [.int (x.1 : Nat), .int (x.2 : Nat)]) := Eqd.tup fun y hy => by
  simp only [List.mem_cons, List.not_mem_nil, or_false] at hy
  rcases hy with z | z <;> (rw [z]; exact Eqd.int _)
theorem nin_ways {K : PySem.W.Frag} {B H : Hp} {t pw : Addr} {r d : Nat} {as : List Addr} {l : List (Nat × Nat)} {G : Bool → Prop} (ht : SqT K H t [.int (r : Int), .int (d : Int)]) (hp : SqL K H pw (as.map V.ref)) (s : Same B H) (has : PrsAt B as l) (hm : (r, d) ∈ l) (q : G false) : NInK K (.ref t) (.ref pw) H G := by
  have g1 := eqd_pr (r, d)
  have g2 : Eqd 3 (PyData.list (l.map fun x => PyData.tuple [.int (x.1 : Nat), .int (x.2 : Nat)])) := Eqd.lst fun x hx => by
    obtain ⟨y, _, rfl⟩ := List.mem_map.mp hx
    exact eqd_pr y
  refine ⟨_, _, .tup ht (.cons (.int _) (.cons (.int _) .nil)), .lst hp (prs_dp s has), g1.sh (by decide), g2.sh (by decide), ?_⟩
  have : ((l.map fun x => PyData.tuple [.int (x.1 : Nat), .int (x.2 : Nat)]).any fun z => PyData.eqv z (.tuple [.int (r : Nat), .int (d : Nat)])) = true := by
    rw [List.any_eq_true]
    exact ⟨_, List.mem_map.mpr ⟨(r, d), hm, rfl⟩, SeqAt.eqv_refl _ g1.c⟩
  rw [this]
  exact q
def sp_is_routing (K : PySem.W.Frag) (d : Ad) : Sp := fun vs H Q _ => ∃ (a b : Addr) (ms : List Nat) (ts : List Addr) (rows : List Rt), vs = [.ref a, .ref b] ∧ SqL K H a (nv ms) ∧ NL ms ∧ H b = some (.lst (ts.map V.ref)) ∧ RtsAt H ts rows ∧ Acc (nmOf ms) (fun y => if y = 0 then ms.length else 0) (-1) rows ∧ (∀ x ∈ rows, x.1 ≤ 50 ∧ x.2.2.1 ≤ 50) ∧ rows.length ≤ 100 ∧
  ∀ H', Same H H' → Q (.bl true) H'
theorem ok_is_routing (m : Mo P K mg d) (sm : SM bs) (G_check_names : FnOk P w K mg bs CX0 4 d.a_check_names d.fd_check_names ["names"] (sp_check_names K)) (G_ways_on : FnOk P w K mg bs CX0 1 d.a_ways_on d.fd_ways_on ["entered", "listed"] (sp_ways_on K)) (G_send_on : FnOk P w K mg bs CX0 5 d.a_send_on d.fd_send_on ["coming", "name", "right", "down"] (sp_send_on K)) (G_is_routing_item : FnOk P w K mg bs CX0 2 d.a_is_routing_item d.fd_is_routing_item ["value"] (sp_is_routing_item K)) : FnOk P w K mg bs CX0 6 d.a_is_routing d.fd_is_routing ["names", "value"] (sp_is_routing K d) := by
  refine m.F_is_routing.ok (k := 5) sc_is_routing (fun vs H Q E h => ?_) (fun cdv A fr s H vs Q E hr h => ?_)
  · obtain ⟨a, b, ms, ts, rows, rfl, hS, hN, hb, hts, hacc, hbd, hrl, q⟩ := h
    rfl
  · obtain ⟨a, b, ms, ts, rows, rfl, hS, hN, hb, hts, hacc, hbd, hrl, q⟩ := h
    refine ⟨_, (pss_cons (ps_expr (pe_call G_check_names (hr.mono (by decide)) (by rfl) m.g_check_names m.F_check_names.kp m.b_check_names .nil pass0 (pa_cons (pv 0) pa_nil)))
      (pss_cons (ps_if (pt_not (pt_val (pe_callB cr_is (by rfl) m.n_isinstance (by decide +kernel) (pa_cons (pv 1) (pa_cons (pe_bltn (v := .ty "list") (by rfl) m.n_list (by decide +kernel) rfl) pa_nil)))))
      (pss_one (ps_ret pe_bl))
      pss_nil)
      (pss_cons (ps_asg (pe_disp (pps_cons pe_int (pe_callB cr_len (by rfl) m.n_len (by decide +kernel) (pa_cons (pv 0) pa_nil)) pps_nil) (by rfl) (by rfl) (fun z => by cases z) (by decide)) (pg_name (i := 2) sc_is_routing.nd rfl (.inl rfl)))
      (pss_cons (ps_asg (pe_un un_neg pe_int) (pg_name (i := 3) sc_is_routing.nd rfl (.inl rfl)))
      (pss_cons (ps_for PassesOwn.never rfl (pi_list (pv 1)) (pg_name (i := 4) sc_is_routing.nd rfl (.inl rfl))
      (pss_cons (ps_if (PW.pt (pw_or (pt_not (pt_val (pe_call G_is_routing_item (hr.mono (by decide)) (by rfl) m.g_is_routing_item m.F_is_routing_item.kp m.b_is_routing_item .nil pass0 (pa_cons (pv 4) pa_nil)))) (pw_or1 (pt_cmpR op_le (pe_ix ix_tup (pv 4) pe_int (fun _ _ => rfl)) (pv 3) (nomark _)))))
      (pss_one (ps_ret pe_bl))
      pss_nil)
      (pss_cons (ps_asg (pv 4) (show PG _ _ (gTup K 4 _) from pg_tup (by rfl) (pgs_cons (pg_name (i := 3) sc_is_routing.nd rfl (.inl rfl)) (pgs_cons (pg_name (i := 5) sc_is_routing.nd rfl (.inl rfl)) (pgs_cons (pg_name (i := 6) sc_is_routing.nd rfl (.inl rfl)) (pgs_cons (pg_name (i := 7) sc_is_routing.nd rfl (.inl rfl)) pgs_nil))))))
      (pss_cons (ps_if (PW.pt (pw_or (pt_cmpR op_ne (pe_dpop2 (pv 2) (pv 3) pe_int ⟨by rfl, by rfl, by rfl, by rfl⟩) (pv 5) (nomark _)) (pw_or1 (pt_cmpR op_eq (pv 5) pe_int (nomark _)))))
      (pss_one (ps_ret pe_bl))
      pss_nil)
      (pss_cons (ps_if (pt_cmpR (op_notInD (u65 hr)) (pe_tup (pa_cons (pv 6) (pa_cons (pv 7) pa_nil))) (pe_call G_ways_on (hr.mono (by decide)) (by rfl) m.g_ways_on m.F_ways_on.kp m.b_ways_on .nil pass0 (pa_cons (pv 5) (pa_cons (pe_cmpR op_in_seq (pv 3) (pv 0) rfl) pa_nil))) rfl)
      (pss_one (ps_ret pe_bl))
      pss_nil)
      (pss_one (ps_expr (pe_call G_send_on (hr.mono (by decide)) (by rfl) m.g_send_on m.F_send_on.kp m.b_send_on .nil pass0 (pa_cons (pv 2) (pa_cons (pv 3) (pa_cons (pv 6) (pa_cons (pv 7) pa_nil))))))))))))
      (pss_one (ps_ret (pe_cmpR (op_eqE hr.units) (pv 2) pe_dnewK (nomark _))))))))), ?_⟩
    walk_at "v2"
    refine ⟨a, ms, rfl, hS, hN.1, hN.2.1, hN.2.2, fun H1 s1 => ?_⟩
    have hb1 := s1 _ _ hb
    walk_at "v2"
    refine IsK.lst (b := true) hb1 (by decide +kernel) ?_
    rw [show (!true) = false from rfl, if_neg Bool.false_ne_true]
    walk_at "v2"
    refine NewK.of (Led.nil H1) fun pc H2 L => ?_
    refine LenK.ofL ((s1.trans L.sm).seq hS) ?_
    rw [nv_len]
    refine DoneK.of [(.inl 0, .int (ms.length : Int))] L (.head _) rfl (by show 1 ≤ 15; decide) .hd fun H3 L => ?_
    have hc0 : comK (fun y => if y = 0 then ms.length else 0) [(.inl 0, .int (ms.length : Int))] := by
      refine ⟨fun y => ?_, fun kv hkv => ⟨0, by rw [List.mem_singleton.mp hkv]; rfl⟩⟩
      have hn := hN.2.1
      by_cases e : y = 0
      · have e1 : (fun y => if y = 0 then ms.length else 0) y = ms.length := if_pos e
        rw [e1, if_neg (by omega)]
        unfold L2.valV
        rw [List.find?_cons, decide_eq_true (show (Sum.inl 0 : Key) = .inl (y : Int) by rw [e]; rfl)]
        rfl
      · have e1 : (fun y => if y = 0 then ms.length else 0) y = 0 := if_neg e
        have e2 : ¬ (Sum.inl 0 : Key) = .inl (y : Int) := fun z => e (keyN_inj z).symm
        rw [e1, if_pos rfl]
        unfold L2.valV
        rw [List.find?_cons, decide_eq_false e2]
        rfl
    have L : Led H1 H3 [(pc, .dK [(.inl 0, .int (ms.length : Int))])] := L
    walk_at "v2"
    walk_at "v2"
    refine ⟨⟨_, .inl (.inl (L.sm _ _ hb1))⟩, ?_⟩
    refine loop_list (xs := ts.map V.ref) (fun k σ H' => ∃ last y4 y5 y6 y7 c kvs B', σ = [some (.ref a), some (.ref b), some (.ref pc), some (.int last), y4, y5, y6, y7] ∧ Same H1 B' ∧ comK c kvs ∧ kvs.length ≤ 1 + 2 * k ∧ Acc (nmOf ms) c last (rows.drop k) ∧ Led B' H' [(pc, .dK kvs)]) ⟨-1, _, _, _, _, _, _, H1, rfl, Same.refl _, hc0, Nat.le_refl _, hacc, L⟩ (fun k σ H' hk h => ?_) (fun k x σ H' N hx h hN2 => ?_) (fun σ H' h => ?_)
    · obtain ⟨_, _, _, _, _, _, _, B', _, s', _, _, _, L⟩ := h
      exact .inl (.inl ((s'.trans L.sm) _ _ hb1))
    · obtain ⟨last, y4, y5, y6, y7, c, kvs, B', rfl, s', hc, hkl, hacc, L⟩ := h
      rw [List.getElem?_map] at hx
      obtain ⟨t, ht, rfl⟩ : ∃ t, ts[k]? = some t ∧ x = .ref t := by
        cases z : ts[k]? with
        | none => rw [z] at hx; cases hx
        | some t => rw [z] at hx; cases hx; exact ⟨t, rfl, rfl⟩
      obtain ⟨y, hy, hyt⟩ := paired_get hts ht
      have hkr : k < rows.length := (List.getElem?_eq_some_iff.mp hy).1
      rw [List.drop_eq_getElem_cons hkr, show rows[k] = y from (List.getElem?_eq_some_iff.mp hy).2] at hacc
      obtain ⟨hla, hi, hce, h0, hw, hacc⟩ := hacc
      obtain ⟨hb50, he50⟩ := hbd y (List.mem_of_getElem? hy)
      have sHB : Same H B' := s1.trans s'
      have hyB : B' t = some (.tup ((rtI y).map V.int)) := sHB _ _ hyt
      walk_at "v1"
      walk_at "v2"
      refine ⟨t, y, rfl, L.sm _ _ hyB, fun H5 s5 => ?_⟩
      have L := L.same s5
      refine ⟨true, rfl, ?_⟩
      rw [show (!true) = false from rfl, if_neg Bool.false_ne_true]
      walk_at "v1"
      refine IxTK.of (.inl (.inl (L.sm _ _ hyB))) (i := 0) (v := .int (rtN y : Nat)) rfl ?_
      walk_at "v1"
      rw [if_neg (by omega)]
      walk_at "v2"
      refine UnpK.of (xs := (rtI y).map V.int) (.inl (.inl (L.sm _ _ hyB))) rfl ?_
      unfold rtI
      walk_at "v1"
      walk_at "v2"
      refine ⟨.inl ⟨kvs, .inl (L.at (.head _))⟩, kvs, .inl (rtN y : Int), L.at (.head _), rfl, fun v hv => ?_, fun hn => ?_⟩
      rotate_left
      · rw [hc.1, if_neg (by omega)] at hn
        cases hn
      rw [hc.1, if_neg (by omega), hce] at hv
      cases hv
      have L := L.put (o' := .dK (dropK kvs (.inl (rtN y : Int)))) .hd
      refine ⟨rfl, ?_⟩
      rw [decide_eq_true rfl, show (!true) = false from rfl, if_neg Bool.false_ne_true, if_neg (by omega)]
      have hc := hc.drop (rtN y)
      have hdl : (dropK kvs (.inl (rtN y : Int))).length ≤ kvs.length := List.length_filter_le _ _
      walk_at "v2"
      refine NewK.of L fun t9 H7 L => ?_
      obtain ⟨B4, s4, h9, L⟩ := L.sink
      refine ⟨nv ms, .inl ((s1.trans (s'.trans (s4.trans L.sm))).seq hS), rfl, flat_nv ms, ?_⟩
      rw [if_neg Bool.false_ne_true, inV_nv]
      refine ⟨y.2.2.1, nmOf ms (rtN y), rfl, by omega, fun pw H8 B9 as s9 has L9 => ?_⟩
      obtain ⟨B6, s6, L, k6⟩ := L.over s9 L9
      have has : PrsAt B6 as (ways y.2.2.1 (nmOf ms (rtN y))) := Paired.mapP has fun c x z => k6 _ _ z (by
        intro e he
        rw [List.mem_singleton.mp he]
        intro z
        cases z)
      have L : Led B6 H8 [(pw, .lst (as.map V.ref)), (pc, .dK (dropK kvs (.inl (rtN y : Int))))] := L
      show NInK K (V.ref t9) (V.ref pw) H8 _
      refine nin_ways (.inl (.inl ((s6.trans L.sm) _ _ h9))) (L.lstAt (by walk_at "mem")) L.sm has hw ?_
      rw [if_neg Bool.false_ne_true]
      refine ⟨B6, pc, _, _, y.1, y.2.1, y.2.2.2.1, y.2.2.2.2, _, rfl, L.sel (l' := [_]) (.skip .all), hc, by omega, hi, by omega, fun H9 kvs9 L hc9 hl9 => ?_⟩
      have hst : (fun z => ((if z = rtN y then 0 else c z) + if z = tri (y.1 + 1) + y.2.1 + 1 then y.2.2.2.1 else 0) + if z = tri (y.1 + 1) + y.2.1 then y.2.2.2.2 else 0) = stepC c y := by
        funext z
        exact Nat.add_right_comm _ _ _
      rw [hst] at hc9
      exact hN2 _ _ ⟨_, _, _, _, _, _, kvs9, B6, rfl, s'.trans (s4.trans s6), hc9, by omega, hacc, L⟩
    · obtain ⟨last, y4, y5, y6, y7, c, kvs, B', rfl, s', hc, hkl, hacc, L⟩ := h
      have hrt : rows.length = ts.length := (Paired.length hts).symm
      rw [List.length_map, ← hrt, List.drop_length] at hacc
      have hz := hc.zero hacc
      subst hz
      walk_at "v1"
      refine NewK.of L fun p0 H9 L => ?_
      exact ⟨0, .inr ⟨[], .inl (L.at (by walk_at "mem")), rfl⟩, .inr ⟨[], .inl (L.at (.head _)), rfl⟩, q H9 ((s1.trans s').trans L.sm)⟩
/-! cut law_pot -/
def sp_law_pot (K : PySem.W.Frag) : Sp := fun vs H Q _ => ∃ (a : Addr) (ns : List Int) (k : Int), vs = [.ref a, .int k] ∧ SqL K H a (ns.map V.int) ∧ 0 ≤ k ∧ k < 1000 ∧ ∀ p H', Urn H H' p [] 0 → Q (.ref p) H'
theorem ok_law_pot (m : Mo P K mg d) (sm : SM bs) : Fg P w K mg bs CX0 1 d.a_law_pot d.fd_law_pot ["script", "k"] (sp_law_pot K) := by
  refine ok (n := 0) m.F_law_pot sc_law_pot (fun vs H Q E h => ?_) (fun cdv A fr s H vs Q E hg hr h => ?_)
  · obtain ⟨a, ns, k, rfl, hS, h0, h1, q⟩ := h
    rfl
  · obtain ⟨a, ns, k, rfl, hS, h0, h1, q⟩ := h
    refine ⟨_, (pss_cons (ps_asg pe_int (pg_name (i := 2) sc_law_pot.nd rfl (.inl rfl)))
      (pss_cons (ps_if (pt_cmpR op_lt (pv 1) (pe_callB cr_len (by rfl) m.n_len (by decide +kernel) (pa_cons (pv 0) pa_nil)) (nomark _))
      (pss_one (ps_asg (pe_ix ix_list (pv 0) (pv 1) (fun _ _ => rfl)) (pg_name (i := 2) sc_law_pot.nd rfl (.inl rfl))))
      pss_nil)
      (pss_one (ps_ret (pe_lst (pa_cons (pe_callB (cr_max2 rfl) (by rfl) m.n_max (by decide +kernel) (pa_cons pe_int (pa_cons (pe_op op_sub (pv 2) (pe_op op_pow pe_int pe_int)) pa_nil))) (pa_cons (pe_op op_add (pe_op op_mod (pv 2) (pe_op op_add (pe_op op_pow pe_int pe_int) pe_int)) (pe_op op_mul pe_int (pv 1))) (pa_cons pe_int pa_nil)))))))), ?_⟩
    walk_at "vc"
    refine LenK.ofL hS ?_
    walk_at "vc"
    split
    · obtain ⟨n, _, hn⟩ := atI_map h0 ‹_›
      refine IxLK.of hS hn ?_
      walk_at "vc"
      walk_at "sds"
      exact NewK.of (Led.nil H) fun p H1 L => q p H1 ⟨_, _, _, L, by omega, by omega, by omega, by omega, by omega⟩
    · walk_at "sds"
      exact NewK.of (Led.nil H) fun p H1 L => q p H1 ⟨_, _, _, L, by omega, by omega, by omega, by omega, by omega⟩
/-! cut law_take -/
def sp_law_take (K : PySem.W.Frag) : Sp := fun vs H Q _ => ∃ (B : Hp) (u : Addr) (l : List (Addr × HO)) (c : Nat) (n : Int), vs = [.ref u, .int n] ∧ Urn B H u l c ∧ c < 1000000 ∧ 0 < n ∧ n < 1073741824 ∧
  ∀ H' r, Urn B H' u l (c + 1) → 0 ≤ r → r < n → Q (.int r) H'
theorem take_go {K : PySem.W.Frag} {B H : Hp} {u : Addr} {l : List (Addr × HO)} {c : Nat} {n : Int} {Q : VK} {E : XK} (U : Urn B H u l c) (hc : c < 1000000) (h0 : 0 < n) (h1 : n < 1073741824) (k : ∀ H' r, Urn B H' u l (c + 1) → 0 ≤ r → r < n → Q (.int r) H') : sp_law_take K [.ref u, .int n] H Q E :=
  ⟨B, u, l, c, n, rfl, U, hc, h0, h1, k⟩
theorem ok_law_take (m : Mo P K mg d) (sm : SM bs) : Fg P w K mg bs CX0 1 d.a_law_take d.fd_law_take ["pot", "many"] (sp_law_take K) := by
  refine ok (n := 0) m.F_law_take sc_law_take (fun vs H Q E h => ?_) (fun cdv A fr s H vs Q E hg hr h => ?_)
  · obtain ⟨B, u, l, c, n, rfl, ⟨x, y, z, L, hx, hy, hy2, hz, hz2⟩, hc, hn, hn2, q⟩ := h
    rfl
  · obtain ⟨B, u, l, c, n, rfl, ⟨x, y, z, L, hx, hy, hy2, hz, hz2⟩, hc, hn, hn2, q⟩ := h
    refine ⟨_, (pss_cons (ps_if (pt_cmpR op_gt (pe_ix ix_list (pv 0) pe_int (fun _ _ => rfl)) pe_int (nomark _))
      (pss_cons (ps_asg (pe_op op_mod (pe_ix ix_list (pv 0) pe_int (fun _ _ => rfl)) (pv 1)) (pg_name (i := 2) sc_law_take.nd rfl (.inl rfl)))
      (pss_cons (ps_asg (pe_op op_fdiv (pe_ix ix_list (pv 0) pe_int (fun _ _ => rfl)) (pv 1)) (pg_sub (pv 0) pe_int set_list))
      (pss_one (ps_ret (pv 2)))))
      pss_nil)
      (pss_cons (ps_asg (pe_op op_add (pe_ix ix_list (pv 0) pe_int (fun _ _ => rfl)) pe_int) (pg_sub (pv 0) pe_int set_list))
      (pss_cons (ps_asg (pe_op op_mod (pe_op op_powW (pe_op op_add (pe_ix ix_list (pv 0) pe_int (fun _ _ => rfl)) (pe_op op_mul pe_int (pe_ix ix_list (pv 0) pe_int (fun _ _ => rfl)))) pe_int) (pe_op op_add (pe_op op_pow pe_int pe_int) pe_int)) (pg_name (i := 3) sc_law_take.nd rfl (.inl rfl)))
      (pss_cons (ps_asg (pe_op op_mod (pe_op op_powW (pe_op op_add (pv 3) (pe_op op_mul pe_int (pe_ix ix_list (pv 0) pe_int (fun _ _ => rfl)))) pe_int) (pe_op op_add (pe_op op_pow pe_int pe_int) pe_int)) (pg_name (i := 3) sc_law_take.nd rfl (.inl rfl)))
      (pss_one (ps_ret (pe_op op_mod (pe_op op_fdiv (pv 3) pe_int) (pv 1)))))))), ?_⟩
    walk_at "vc"
    refine IxLK.of (L.lstAt (by walk_at "mem")) rfl ?_
    walk_at "vc"
    split
    · refine IxLK.of (L.lstAt (by walk_at "mem")) rfl ?_
      walk_at "vc"
      refine ⟨hn, IxLK.of (L.lstAt (by walk_at "mem")) rfl ?_⟩
      walk_at "vc"
      refine ⟨by first | exact ⟨hn, hn2⟩ | exact div_w (n := 200) (by decide) hn (by omega) (by decide), SetK.of (j := 0) L (by walk_at "mem") rfl (by walk_at "put") fun H1 L1 => ?_⟩
      exact q _ _ ⟨_, _, _, L1, Int.ediv_nonneg hx (by omega), hy, hy2, hz, by omega⟩ (Int.emod_nonneg _ (by omega)) (Int.emod_lt_of_pos _ hn)
    · refine IxLK.of (L.lstAt (by walk_at "mem")) rfl ?_
      walk_at "vc"
      refine SetK.of (j := 2) L (by walk_at "mem") rfl (by walk_at "put") fun H1 L1 => ?_
      refine IxLK.of (L1.lstAt (by walk_at "mem")) rfl ?_
      refine IxLK.of (L1.lstAt (by walk_at "mem")) rfl ?_
      walk_at "vc"
      walk_at "sds"
      refine ⟨(pow_bits (n := 151) (m := 3) (by decide) (by omega) (by omega) (by decide)).2, ?_⟩
      have w0 := Int.emod_nonneg ((y + 5527939700884757 * (z + 1)) ^ 3) (show (100000000000000000000000000000000000000037 : Int) ≠ 0 by decide)
      have w1 := Int.emod_lt_of_pos ((y + 5527939700884757 * (z + 1)) ^ 3) (show (0 : Int) < 100000000000000000000000000000000000000037 by decide)
      generalize (y + 5527939700884757 * (z + 1)) ^ 3 % 100000000000000000000000000000000000000037 = a at *
      walk_at "sds"
      refine IxLK.of (L1.lstAt (by walk_at "mem")) rfl ?_
      walk_at "vc"
      walk_at "sds"
      refine ⟨(pow_bits (n := 151) (m := 3) (by decide) (by omega) (by omega) (by decide)).2, ?_⟩
      walk_at "sds"
      exact q _ _ ⟨_, _, _, L1, hx, hy, hy2, by omega, by omega⟩ (Int.emod_nonneg _ (by omega)) (Int.emod_lt_of_pos _ hn)
/-! cut law_drawn -/
theorem at_nv1 {l : List Nat} {i d : Nat} (h : l[i + 1]? = some d) : atI (nv l) ((i : Int) + 1) = some (.int (d : Int)) := nv_atI h
theorem ix_nv1 {n i : Nat} (h : i + 1 < n) : ixN n ((i : Int) + 1) = some (i + 1) := ixN_nat h
def DrwI (B : Hp) (u : Addr) (c n : Nat) (l : List (Addr × HO)) (mm : Nat) (σ : L2.St) (H' : Hp) : Prop := ∃ t row ms st fo y5 y6 y7 y8 y9, σ = [some (.ref u), some (.int (n : Int)), some (.ref st), some (.ref fo), some (.int (tri t : Nat)), y5, y6, y7, y8, y9] ∧
  Urn B H' u ((st, .lst (nv row)) :: (fo, .lst (nv ms)) :: l) (c + 2 * tri t) ∧ Sent n t ms row ∧ t ≤ n ∧ mm = n - t
def sp_law_drawn (K : PySem.W.Frag) : Sp := fun vs H Q _ => ∃ (B : Hp) (u : Addr) (c n : Nat) (l : List (Addr × HO)), vs = [.ref u, .int n] ∧ Urn B H u l c ∧ 1 ≤ n ∧ n ≤ 8 ∧ c < 900000 ∧
  ∀ H' p ms, Urn B H' u ((p, .lst (nv ms)) :: l) (c + 80) → Poss n ms → Q (.ref p) H'
theorem ok_law_drawn (m : Mo P K mg d) (sm : SM bs) (G_law_take : Fg P w K mg bs CX0 1 d.a_law_take d.fd_law_take ["pot", "many"] (sp_law_take K)) : Fg P w K mg bs CX0 2 d.a_law_drawn d.fd_law_drawn ["pot", "count"] (sp_law_drawn K) := by
  refine ok (n := 1) m.F_law_drawn sc_law_drawn (fun vs H Q E h => ?_) (fun cdv A fr s H vs Q E hg hr h => ?_)
  · obtain ⟨B, u, c, n, l, rfl, U, h1, h8, hc, q⟩ := h
    rfl
  · obtain ⟨B, u, c, n, l, rfl, U, h1, h8, hc, q⟩ := h
    refine ⟨_, (pss_cons (ps_par3 (i := 2) (j := 3) (l := 4) (by rfl) sc_law_drawn.nd rfl rfl rfl (by decide) (by decide) (by decide) rfl rfl rfl (pa_cons (pe_lst (pa_cons (pv 1) pa_nil)) (pa_cons (pe_lst pa_nil) (pa_cons pe_int pa_nil))) (by rfl))
      (pss_cons (ps_while PassesOwn.never (pt_cmpR op_gt (pe_callB (cr_sum rfl) (by rfl) m.n_sum (by decide +kernel) (pa_cons (pv 2) pa_nil)) pe_int (nomark _))
      (pss_cons (ps_asg (pe_op op_rep (pe_lst (pa_cons pe_int pa_nil)) (pe_op op_add (pe_callB cr_len (by rfl) m.n_len (by decide +kernel) (pa_cons (pv 2) pa_nil)) pe_int)) (pg_name (i := 5) sc_law_drawn.nd rfl (.inl rfl)))
      (pss_cons (ps_for PassesOwn.never rfl (pi_enum (by rfl) m.n_enumerate (pa_cons (pv 2) pa_nil)) (show PG _ _ (gTup K 2 _) from pg_tup (by rfl) (pgs_cons (pg_name (i := 6) sc_law_drawn.nd rfl (.inl rfl)) (pgs_cons (pg_name (i := 7) sc_law_drawn.nd rfl (.inl rfl)) pgs_nil)))
      (pss_cons (ps_asg (pe_callTy cr_intB (by rfl) m.n_int (by decide +kernel) (pa_cons (pe_or (pe_cmpR op_eq (pv 7) pe_int (nomark _)) (pe_one (pe_and (pe_cmpR op_gt (pv 7) pe_int (nomark _)) (pe_one (pe_cmpR op_gt (pg_call G_law_take hg (hr.mono (by decide)) (by rfl) m.g_law_take m.F_law_take.kp m.b_law_take .nil (fun _ => passG) (pa_cons (pv 0) (pa_cons pe_int pa_nil))) pe_int (nomark _)))))) pa_nil)) (pg_name (i := 8) sc_law_drawn.nd rfl (.inl rfl)))
      (pss_cons (ps_if (pt_cmpR op_eq (pv 8) pe_int (nomark _))
      (pss_cons (ps_expr (pe_bm PySem.F.plainAttrs_list PySem.F.slot_list_append PySem.F.type_list_append mt_append (pv 3) (pa_cons (pe_op op_add (pv 4) (pv 6)) pa_nil)))
      (pss_one (ps_asg (pg_call G_law_take hg (hr.mono (by decide)) (by rfl) m.g_law_take m.F_law_take.kp m.b_law_take .nil (fun _ => passG) (pa_cons (pv 0) (pa_cons (pv 7) pa_nil))) (pg_name (i := 9) sc_law_drawn.nd rfl (.inl rfl)))))
      (pss_one (ps_asg (pe_ifExp (pt_cmpR op_gt (pv 7) pe_int (nomark _)) (pe_op op_add pe_int (pg_call G_law_take hg (hr.mono (by decide)) (by rfl) m.g_law_take m.F_law_take.kp m.b_law_take .nil (fun _ => passG) (pa_cons (pv 0) (pa_cons (pe_op op_sub (pv 7) pe_int) pa_nil)))) pe_int) (pg_name (i := 9) sc_law_drawn.nd rfl (.inl rfl)))))
      (pss_cons (ps_asg (pe_op op_add (pe_ix ix_list (pv 5) (pe_op op_add (pv 6) pe_int) (fun _ _ => rfl)) (pv 9)) (pg_sub (pv 5) (pe_op op_add (pv 6) pe_int) set_list))
      (pss_one (ps_asg (pe_op op_sub (pe_op op_sub (pe_op op_add (pe_ix ix_list (pv 5) (pv 6) (fun _ _ => rfl)) (pv 7)) (pv 8)) (pv 9)) (pg_sub (pv 5) (pv 6) set_list)))))))
      (pss_one (ps_par (i := 4) (j := 2) (by rfl) sc_law_drawn.nd rfl rfl (by decide) rfl rfl (pa_cons (pe_op op_add (pv 4) (pe_callB cr_len (by rfl) m.n_len (by decide +kernel) (pa_cons (pv 2) pa_nil))) (pa_cons (pv 5) pa_nil)) (by rfl))))))
      (pss_one (ps_ret (pv 3))))), ?_⟩
    walk_at "v2"
    refine U.new fun st H1 U => ?_
    refine U.new fun fo H2 U => ?_
    walk_at "v2"
    refine ⟨DrwI B u c n l, ⟨n, 0, [n], [], st, fo, _, _, _, _, _, rfl, U.sel (.cons (.tl .hd) .all), Sent.first n, Nat.zero_le _, rfl⟩, ?_⟩
    rintro mm σ H3 ⟨t, row, ms, st, fo, y5, y6, y7, y8, y9, rfl, U, hs, ht, rfl⟩
    obtain ⟨⟨hrl, hfew⟩, hrs⟩ := RowAt.ok ways_ok hs.here
    walk_at "v1"
    refine ⟨st, row.map (fun (p : Nat) => (p : Int)), rfl, by rw [← nv_ints]; exact U.led.lstAt (.head _), ?_⟩
    rw [sum_cast]
    walk_at "v1"
    by_cases h0 : 0 < row.sum
    · have htn := hs.more h0
      rw [if_pos (by omega)]
      refine ⟨fun σ' H' => ∃ m', m' < n - t ∧ DrwI B u c n l m' σ' H', fun _ _ z => z, ?_⟩
      walk_at "v2"
      refine U.new fun z0 H4 U => ?_
      refine LenK.ofL (U.led.lstAt (xs := nv row) (by walk_at "mem")) ?_
      rw [nv_len, hrl]
      refine Urn.rptK (n := t + 1 + 1) U (.head _) (by omega) fun la H5 U => ?_
      walk_at "v2"
      refine ⟨⟨_, U.led.lstAt (xs := nv row) (by walk_at "mem")⟩, ?_⟩
      refine loop_enum (xs := nv row) (fun i σ' H' => ∃ y6 y7 y8 y9 ls cc, σ' = [some (.ref u), some (.int (n : Int)), some (.ref st), some (.ref fo), some (.int (tri t : Nat)), some (.ref la), y6, y7, y8, y9] ∧ ls.length = i ∧ Fits ways (row.take i) ls cc ∧
        Urn B H' u ((la, .lst (nv (My.mg 0 cc ++ List.replicate (t + 1 - i) 0))) :: (st, .lst (nv row)) :: (fo, .lst (nv (ms ++ lstd (tri t) ls))) :: l) (c + 2 * tri t + 2 * i)) ⟨_, _, _, _, [], [], rfl, rfl, trivial, ?_⟩ (fun i σ' H' h => ?_) (fun i x σ' H' N hx h hN => ?_) (fun σ' H' h => ?_)
      · rw [show lstd (tri t) [] = [] from rfl, List.append_nil]
        have e : (List.replicate (t + 1 + 1) (V.int 0)) = nv (My.mg 0 [] ++ List.replicate (t + 1 - 0) 0) := by
          show _ = nv (0 :: List.replicate (t + 1) 0)
          unfold nv
          rw [List.map_cons, List.map_replicate]
          rfl
        rw [← e]
        exact U.sel (.cons .hd (.skip .all))
      · obtain ⟨y6, y7, y8, y9, ls, cc, rfl, h1, h2, U⟩ := h
        exact U.led.lstAt (.tail _ (.head _))
      · obtain ⟨y6, y7, y8, y9, ls, cc, rfl, hli, hfi, U⟩ := h
        obtain ⟨e, he, rfl⟩ := nv_at hx
        have hi : i < t + 1 := by have := (List.getElem?_eq_some_iff.mp he).1; omega
        have hcl : cc.length = i := by rw [hfi.len.1, List.length_take]; omega
        have he8 : e ≤ 8 := by
          have := sum_take row (i + 1)
          rw [take_snoc he, List.sum_append] at this
          simp at this
          omega
        refine U.new fun tp H6 U => ?_
        walk_at "v1"
        refine UnpK.of (U.led.tupAt (.head _)) rfl ?_
        have U := U.sel (.skip .all)
        walk_at "v1"
        walk_at "v2"
        have hcnt : c + 2 * tri t + 2 * i + 1 < 1000000 := by have := tri_mono ht; have := tri_mono h8; have : tri 8 = 36 := rfl; omega
        have hfl : (nv (ms ++ lstd (tri t) ls)).length ≤ 20 := by rw [nv_len, List.length_append, lstd_len]; have := hfi.total; have := hs.tot; have := sum_take row i; omega
        have ef1 : nv (ms ++ lstd (tri t) ls) ++ [V.int ((tri t : Int) + (i : Int))] = nv (ms ++ lstd (tri t) (ls ++ [true])) := by
          rw [lstd_snoc, if_pos rfl, ← List.append_assoc, nv_app, hli]
          rfl
        have ef2 : nv (ms ++ lstd (tri t) ls) = nv (ms ++ lstd (tri t) (ls ++ [false])) := by rw [lstd_snoc, if_neg Bool.false_ne_true, List.append_nil]
        have hll : (nv (My.mg 0 cc ++ List.replicate (t + 1 - i) 0)).length = t + 2 := by rw [nv_len, List.length_append, List.length_replicate, mg_len, hcl]; omega
        by_cases e1 : e = 1
        · rw [if_pos (by omega)]
          walk_at "v2"
          walk_at "v2"
          refine ⟨tyL (U.led.lstAt (xs := nv (ms ++ lstd (tri t) ls)) (by walk_at "mem")), ?_⟩
          refine U.appK (xs := nv (ms ++ lstd (tri t) ls)) (by walk_at "mem") (Nat.lt_of_le_of_lt hfl (by decide)) (by walk_at "put") fun H7 U => ?_
          rw [ef1] at U
          walk_at "v1"
          refine take_go U (by omega) (by omega) (by omega) fun H8 r1 U a1 b1 => ?_
          obtain ⟨r2, rfl⟩ : ∃ r2 : Nat, r1 = (r2 : Int) := ⟨r1.toNat, by omega⟩
          obtain ⟨d2, hd2⟩ : ∃ d2, r2 + d2 + 1 = e := ⟨e - 1 - r2, by omega⟩
          have hw : (r2, d2) ∈ ways e true := ways_mem.mpr (.inl ⟨rfl, hd2⟩)
          walk_at "v2"
          obtain ⟨k, k1, k2, k3⟩ := later_step (c := cc) (t := t) (r := r2) (d := d2) hcl (by omega)
          refine IxLK.of (U.led.lstAt (.head _)) (i := (i : Int) + 1) (at_nv1 k1) ?_
          walk_at "v1"
          rw [show ((0 : Nat) : Int) + (r2 : Int) = (r2 : Int) by omega]
          refine U.setK (.head _) (j := i + 1) (ix_nv1 (by omega)) .hd fun H9 U => ?_
          rw [nv_set] at U
          refine IxLK.of (U.led.lstAt (.head _)) (nv_atI k2) ?_
          walk_at "v1"
          first | rw [show (k : Int) + (e : Int) - 1 - (r2 : Int) = ((k + d2 : Nat) : Int) by omega] | rw [show (k : Int) + (e : Int) - 0 - (r2 : Int) = ((k + d2 : Nat) : Int) by omega] | rw [show (k : Int) + (e : Int) - (r2 : Int) - (r2 : Int) = ((k + d2 : Nat) : Int) by omega]
          refine U.setK (.head _) (j := i) (ixN_nat (by rw [nv_len, List.length_set, ← nv_len]; omega)) .hd fun H10 U => ?_
          rw [nv_set, k3] at U
          refine hN _ _ ⟨_, _, _, _, ls ++ [_], cc ++ [(r2, d2)], rfl, by rw [List.length_append, hli]; rfl, by rw [take_snoc he]; exact hfi.snoc hw, U.up (by omega)⟩
        · rw [if_neg (by omega)]
          by_cases e0 : e = 0
          · rw [if_neg (by omega)]
            walk_at "v2"
            rw [if_neg (by decide), if_neg (by omega)]
            obtain ⟨r2, hr2⟩ : ∃ r2 : Nat, r2 = 0 := ⟨0, rfl⟩
            obtain ⟨d2, hd2⟩ : ∃ d2, r2 + d2 = e := ⟨0, by omega⟩
            have hw : (r2, d2) ∈ ways e false := ways_mem.mpr (.inr ⟨rfl, hd2, .inl e0⟩)
            rw [ef2] at U
            walk_at "v2"
            rw [show V.int 0 = V.int (r2 : Int) by rw [hr2]; rfl]
            obtain ⟨k, k1, k2, k3⟩ := later_step (c := cc) (t := t) (r := r2) (d := d2) hcl (by omega)
            refine IxLK.of (U.led.lstAt (.head _)) (i := (i : Int) + 1) (at_nv1 k1) ?_
            walk_at "v1"
            rw [show ((0 : Nat) : Int) + (r2 : Int) = (r2 : Int) by omega]
            refine U.setK (.head _) (j := i + 1) (ix_nv1 (by omega)) .hd fun H9 U => ?_
            rw [nv_set] at U
            refine IxLK.of (U.led.lstAt (.head _)) (nv_atI k2) ?_
            walk_at "v1"
            first | rw [show (k : Int) + (e : Int) - 1 - (r2 : Int) = ((k + d2 : Nat) : Int) by omega] | rw [show (k : Int) + (e : Int) - 0 - (r2 : Int) = ((k + d2 : Nat) : Int) by omega] | rw [show (k : Int) + (e : Int) - (r2 : Int) - (r2 : Int) = ((k + d2 : Nat) : Int) by omega]
            refine U.setK (.head _) (j := i) (ixN_nat (by rw [nv_len, List.length_set, ← nv_len]; omega)) .hd fun H10 U => ?_
            rw [nv_set, k3] at U
            refine hN _ _ ⟨_, _, _, _, ls ++ [_], cc ++ [(r2, d2)], rfl, by rw [List.length_append, hli]; rfl, by rw [take_snoc he]; exact hfi.snoc hw, U.up (by omega)⟩
          · rw [if_pos (by omega)]
            refine take_go U (by omega) (by omega) (by omega) fun H8 r1 U a1 b1 => ?_
            walk_at "v1"
            by_cases hp : 0 < r1
            · rw [if_pos hp]
              clear hp a1 b1
              walk_at "v2"
              walk_at "v2"
              refine ⟨tyL (U.led.lstAt (xs := nv (ms ++ lstd (tri t) ls)) (by walk_at "mem")), ?_⟩
              refine U.appK (xs := nv (ms ++ lstd (tri t) ls)) (by walk_at "mem") (Nat.lt_of_le_of_lt hfl (by decide)) (by walk_at "put") fun H7 U => ?_
              rw [ef1] at U
              walk_at "v1"
              refine take_go U (by omega) (by omega) (by omega) fun H8 r1 U a1 b1 => ?_
              obtain ⟨r2, rfl⟩ : ∃ r2 : Nat, r1 = (r2 : Int) := ⟨r1.toNat, by omega⟩
              obtain ⟨d2, hd2⟩ : ∃ d2, r2 + d2 + 1 = e := ⟨e - 1 - r2, by omega⟩
              have hw : (r2, d2) ∈ ways e true := ways_mem.mpr (.inl ⟨rfl, hd2⟩)
              walk_at "v2"
              obtain ⟨k, k1, k2, k3⟩ := later_step (c := cc) (t := t) (r := r2) (d := d2) hcl (by omega)
              refine IxLK.of (U.led.lstAt (.head _)) (i := (i : Int) + 1) (at_nv1 k1) ?_
              walk_at "v1"
              rw [show ((0 : Nat) : Int) + (r2 : Int) = (r2 : Int) by omega]
              refine U.setK (.head _) (j := i + 1) (ix_nv1 (by omega)) .hd fun H9 U => ?_
              rw [nv_set] at U
              refine IxLK.of (U.led.lstAt (.head _)) (nv_atI k2) ?_
              walk_at "v1"
              first | rw [show (k : Int) + (e : Int) - 1 - (r2 : Int) = ((k + d2 : Nat) : Int) by omega] | rw [show (k : Int) + (e : Int) - 0 - (r2 : Int) = ((k + d2 : Nat) : Int) by omega] | rw [show (k : Int) + (e : Int) - (r2 : Int) - (r2 : Int) = ((k + d2 : Nat) : Int) by omega]
              refine U.setK (.head _) (j := i) (ixN_nat (by rw [nv_len, List.length_set, ← nv_len]; omega)) .hd fun H10 U => ?_
              rw [nv_set, k3] at U
              refine hN _ _ ⟨_, _, _, _, ls ++ [_], cc ++ [(r2, d2)], rfl, by rw [List.length_append, hli]; rfl, by rw [take_snoc he]; exact hfi.snoc hw, U.up (by omega)⟩
            · rw [if_neg hp]
              clear hp a1 b1
              walk_at "v2"
              rw [if_neg (by decide), if_pos (by omega)]
              refine take_go U (by omega) (by omega) (by omega) fun H8 r1 U a1 b1 => ?_
              obtain ⟨r2, hr2⟩ : ∃ r2 : Nat, 1 + r1 = (r2 : Int) := ⟨(1 + r1).toNat, by omega⟩
              obtain ⟨d2, hd2⟩ : ∃ d2, r2 + d2 = e := ⟨e - r2, by omega⟩
              have hw : (r2, d2) ∈ ways e false := ways_mem.mpr (.inr ⟨rfl, hd2, .inr ⟨by omega, by omega⟩⟩)
              rw [ef2] at U
              walk_at "v1"
              rw [hr2]
              walk_at "v2"
              obtain ⟨k, k1, k2, k3⟩ := later_step (c := cc) (t := t) (r := r2) (d := d2) hcl (by omega)
              refine IxLK.of (U.led.lstAt (.head _)) (i := (i : Int) + 1) (at_nv1 k1) ?_
              walk_at "v1"
              rw [show ((0 : Nat) : Int) + (r2 : Int) = (r2 : Int) by omega]
              refine U.setK (.head _) (j := i + 1) (ix_nv1 (by omega)) .hd fun H9 U => ?_
              rw [nv_set] at U
              refine IxLK.of (U.led.lstAt (.head _)) (nv_atI k2) ?_
              walk_at "v1"
              first | rw [show (k : Int) + (e : Int) - 1 - (r2 : Int) = ((k + d2 : Nat) : Int) by omega] | rw [show (k : Int) + (e : Int) - 0 - (r2 : Int) = ((k + d2 : Nat) : Int) by omega] | rw [show (k : Int) + (e : Int) - (r2 : Int) - (r2 : Int) = ((k + d2 : Nat) : Int) by omega]
              refine U.setK (.head _) (j := i) (ixN_nat (by rw [nv_len, List.length_set, ← nv_len]; omega)) .hd fun H10 U => ?_
              rw [nv_set, k3] at U
              refine hN _ _ ⟨_, _, _, _, ls ++ [_], cc ++ [(r2, d2)], rfl, by rw [List.length_append, hli]; rfl, by rw [take_snoc he]; exact hfi.snoc hw, U.up (by omega)⟩
      · obtain ⟨y6, y7, y8, y9, ls, cc, rfl, hli, hfi, U⟩ := h
        rw [nv_len] at *
        rw [List.take_length] at hfi
        walk_at "v1"
        refine LenK.ofL (U.led.lstAt (xs := nv row) (by walk_at "mem")) ?_
        rw [hrl] at hli U
        rw [Nat.sub_self, List.replicate_zero, List.append_nil] at U
        refine ⟨n - (t + 1), by omega, t + 1, _, _, la, fo, some (.ref la), y6, y7, y8, y9, ?_, (U.sel (.cons .hd (.skip .all))).up (by rw [tri_succ]; omega), hs.next hfi, by omega, rfl⟩
        rw [nv_len, hrl, tri_succ]
        rfl
    · rw [if_neg (by omega)]
      walk_at "v1"
      exact q _ fo ms ((U.sel (.skip .all)).up (by have := tri_mono ht; have := tri_mono h8; have : tri 8 = 36 := rfl; omega)) (hs.done ht (by omega))
/-! cut law_some -/
theorem nv_erase : ∀ (l : List Nat) (i : Nat), (nv l).eraseIdx i = nv (l.eraseIdx i)
  | [], _ => rfl
  | _ :: _, 0 => rfl
  | x :: r, i + 1 => by
    show V.int (x : Int) :: (nv r).eraseIdx i = V.int (x : Int) :: nv (r.eraseIdx i)
    rw [nv_erase r i]
theorem erase_nd : ∀ {l : List Nat} {i p : Nat}, l.Nodup → l[i]? = some p → (l.eraseIdx i).Nodup ∧ p ∉ l.eraseIdx i ∧ (∀ x ∈ l.eraseIdx i, x ∈ l) ∧ p ∈ l
  | [], _, _, _, h => by cases h
  | x :: r, 0, p, nd, h => by
    cases h
    obtain ⟨n1, n2⟩ := List.nodup_cons.mp nd
    exact ⟨n2, n1, fun x hx => List.mem_cons_of_mem _ hx, List.mem_cons_self⟩
  | x :: r, i + 1, p, nd, h => by
    obtain ⟨n1, n2⟩ := List.nodup_cons.mp nd
    have h : r[i]? = some p := h
    obtain ⟨e1, e2, e3, e4⟩ := erase_nd n2 h
    refine ⟨List.nodup_cons.mpr ⟨fun z => n1 (e3 _ z), e1⟩, fun z => ?_, fun y hy => ?_, List.mem_cons_of_mem _ e4⟩
    · rcases List.mem_cons.mp z with w | w
      · exact n1 (by rw [← w]; exact e4)
      · exact e2 w
    · rcases List.mem_cons.mp hy with w | w
      · rw [w]; exact List.mem_cons_self
      · exact List.mem_cons_of_mem _ (e3 y w)
/-- one of the pool comes to the members -/
theorem draw_in {xs : List Nat} {i p : Nat} {ms ps : List Nat} (h : (ms ++ ps).Nodup) (hl : ∀ x ∈ ms ++ ps, x ∈ xs) (hp : ps[i]? = some p) : ((ms ++ [p]) ++ ps.eraseIdx i).Nodup ∧ ∀ x ∈ (ms ++ [p]) ++ ps.eraseIdx i, x ∈ xs := by
  obtain ⟨n1, n2, n3⟩ := List.nodup_append.mp h
  obtain ⟨e1, e2, e3, e4⟩ := erase_nd n2 hp
  constructor
  · refine List.nodup_append.mpr ⟨List.nodup_append.mpr ⟨n1, List.nodup_cons.mpr ⟨List.not_mem_nil, List.nodup_nil⟩, fun x hx y hy => ?_⟩, e1, fun x hx y hy => ?_⟩
    · rw [List.mem_singleton.mp hy]; exact n3 x hx p e4
    · rcases List.mem_append.mp hx with z | z
      · exact n3 x z y (e3 y hy)
      · rw [List.mem_singleton.mp z]
        exact fun w => e2 (by rw [w]; exact hy)
  · intro x hx
    rcases List.mem_append.mp hx with z | z
    · rcases List.mem_append.mp z with w | w
      · exact hl x (List.mem_append_left _ w)
      · rw [List.mem_singleton.mp w]; exact hl p (List.mem_append_right _ e4)
    · exact hl x (List.mem_append_right _ (e3 x z))
theorem Urn.popAt {B H : Hp} {u a : Addr} {c : Nat} {ls : List Nat} {l l' : List (Addr × HO)} {Q : VK} {r : Int} (U : Urn B H u l c) (m : (a, HO.lst (nv ls)) ∈ l) (h0 : 0 ≤ r) (h1 : r < ls.length) (hl : ls.length ≤ 1000) (t : Put l a (.lst (nv (ls.eraseIdx r.toNat))) l')
    (q : ∀ p H', ls[r.toNat]? = some p → Urn B H' u l' c → Q (.int (p : Int)) H') : rPopAt (.ref a) [.int r] H Q := by
  obtain ⟨p, hp⟩ : ∃ p, ls[r.toNat]? = some p := ⟨_, List.getElem?_eq_getElem (by omega)⟩
  refine ⟨a, nv ls, r, r.toNat, .int (p : Int), rfl, rfl, U.led.at m, by omega, by omega, ?_, by unfold nv; rw [List.getElem?_map, hp]; rfl, q p _ hp ?_⟩
  · rw [nv_len]
    exact seqIndex_of h0 h1
  · rw [nv_erase]
    exact U.put t
def sp_law_some (K : PySem.W.Frag) : Sp := fun vs H Q _ => ∃ (B : Hp) (u a : Addr) (c m : Nat) (xs : List Nat) (l : List (Addr × HO)), vs = [.ref u, .ref a, .int m] ∧ Urn B H u l c ∧ (a, HO.lst (nv xs)) ∈ l ∧ xs.Nodup ∧ m ≤ xs.length ∧ xs.length ≤ 1000 ∧ c < 900000 ∧
  ∀ H' p ys, Urn B H' u ((p, .lst (nv ys)) :: l) (c + m) → ys.length = m → ys.Nodup → (∀ y ∈ ys, y ∈ xs) → Q (.ref p) H'
theorem ok_law_some (m : Mo P K mg d) (sm : SM bs) (G_law_take : Fg P w K mg bs CX0 1 d.a_law_take d.fd_law_take ["pot", "many"] (sp_law_take K)) : Fg P w K mg bs CX0 2 d.a_law_some d.fd_law_some ["pot", "things", "many"] (sp_law_some K) := by
  refine ok (n := 1) m.F_law_some sc_law_some (fun vs H Q E h => ?_) (fun cdv A fr s H vs Q E hg hr h => ?_)
  · obtain ⟨B, u, a, c, m', xs, l, rfl, U, ha, hnd, hm, hl, hc, q⟩ := h
    rfl
  · obtain ⟨B, u, a, c, m', xs, l, rfl, U, ha, hnd, hm, hl, hc, q⟩ := h
    refine ⟨_, (pss_cons (ps_asg (pe_callTy cr_listOf (by rfl) m.n_list (by decide +kernel) (pa_cons (pv 1) pa_nil)) (pg_name (i := 3) sc_law_some.nd rfl (.inr rfl)))
      (pss_one (ps_ret (pe_lc (own := [("k", 4)]) (by rfl) sc_law_some.nd (pi_range1 (by rfl) m.n_range (pa_cons (pv 2) pa_nil)) (blkOk_by (own := [("k", 4)]) (N := ["pot", "things", "many", "left", "k"]) (sc := defScope s_law_some) (by decide +kernel)) (fun _ _ _ _ _ => by exact (pg_name (i := 4) sc_law_some.nd rfl (.inl rfl))) (fun _ _ _ _ _ => by exact pts_nil) (fun _ _ _ _ _ => by exact (show PE _ _ (tBM K _ _ _ _) from (pe_bm PySem.F.plainAttrs_list PySem.F.slot_list_pop PySem.F.type_list_pop mt_popAt (pv 3) (pa_cons (pg_call G_law_take hg (hr.mono (by decide)) (by rfl) m.g_law_take m.F_law_take.kp m.b_law_take .nil (fun _ => passG) (pa_cons (pv 0) (pa_cons (pe_callB (show CallR _ _ (Vg.rLen K) from cr_len) (by rfl) m.n_len (by decide +kernel) (pa_cons (pv 3) pa_nil)) pa_nil))) pa_nil)))))))), ?_⟩
    walk_at "vc"
    refine ⟨_, .inl (U.led.lstAt ha), U.new fun lf H1 U => ?_⟩
    walk_at "vc"
    refine ⟨by omega, by omega, ?_⟩
    refine comp_range (fun j z acc H' => ∃ ms ps : List Nat, acc = nv ms ∧ ms.length = j ∧ ps.length = xs.length - j ∧ (ms ++ ps).Nodup ∧ (∀ x ∈ ms ++ ps, x ∈ xs) ∧ Urn B H' u ((z, .lst acc) :: (lf, .lst (nv ps)) :: l) (c + j)) (fun z hz => ⟨[], xs, rfl, rfl, rfl, hnd, fun x hx => hx, ?_⟩) ?_ ?_
    · exact U.map fun o L => (L.new hz).sel (.cons (.tl .hd) .all)
    · rintro z acc H7 ⟨ms, ps, rfl, h1, h2, h3, h4, U⟩
      rw [Int.toNat_natCast] at h1 U
      exact q _ z ms (U.sel (.cons .hd (.skip .all))) h1 (List.nodup_append.mp h3).1 fun y hy => h4 y (List.mem_append_left _ hy)
    · rintro j z acc H7 N hj ⟨ms, ps, rfl, h1, h2, h3, h4, U⟩ hN
      rw [Int.toNat_natCast] at hj
      unfold TurnK
      walk_at "vc"
      refine ⟨tyL (U.led.lstAt (xs := nv ps) (.tail _ (.head _))), LenK.ofL (U.led.lstAt (xs := nv ps) (.tail _ (.head _))) ?_⟩
      rw [nv_len]
      refine take_go U (by omega) (by omega) (by omega) fun H8 r U a b => ?_
      refine U.popAt (.tail _ (.head _)) a b (by omega) (.tl .hd) fun p H9 hp U => ?_
      obtain ⟨g1, g2⟩ := draw_in h3 h4 hp
      refine U.appK (xs := nv ms) (.head _) (Nat.lt_of_lt_of_le (m := 2000) (by rw [nv_len]; omega) (by decide)) .hd fun H10 U => ?_
      rw [← nv_app] at U
      exact hN _ _ ⟨ms ++ [p], _, rfl, by rw [List.length_append, h1]; rfl, by rw [List.length_eraseIdx, if_pos (by omega)]; omega, g1, g2, U⟩
/-! cut law_list -/
def sp_law_list (K : PySem.W.Frag) : Sp := fun vs H Q _ => ∃ (B : Hp) (u : Addr) (c n : Nat) (l : List (Addr × HO)), vs = [.ref u, .int n] ∧ Urn B H u l c ∧ 1 ≤ n ∧ n ≤ 8 ∧ c < 800000 ∧
  ∀ H' p ms, Urn B H' u ((p, .lst (nv ms)) :: l) (c + 100) → NL ms → ms.length ≤ n → (∀ x ∈ ms, x < 2 ^ 140) → Q (.ref p) H'
theorem ok_law_list (m : Mo P K mg d) (sm : SM bs) (G_law_take : Fg P w K mg bs CX0 1 d.a_law_take d.fd_law_take ["pot", "many"] (sp_law_take K)) (G_law_drawn : Fg P w K mg bs CX0 2 d.a_law_drawn d.fd_law_drawn ["pot", "count"] (sp_law_drawn K)) (G_law_some : Fg P w K mg bs CX0 2 d.a_law_some d.fd_law_some ["pot", "things", "many"] (sp_law_some K)) : Fg P w K mg bs CX0 3 d.a_law_list d.fd_law_list ["pot", "count"] (sp_law_list K) := by
  refine ok (n := 2) m.F_law_list sc_law_list (fun vs H Q E h => ?_) (fun cdv A fr s H vs Q E hg hr h => ?_)
  · obtain ⟨B, u, c, n, l, rfl, U, h1, h8, hc, q⟩ := h
    rfl
  · obtain ⟨B, u, c, n, l, rfl, U, h1, h8, hc, q⟩ := h
    refine ⟨_, (pss_cons (ps_par (i := 2) (j := 3) (by rfl) sc_law_list.nd rfl rfl (by decide) rfl rfl (pa_cons (pg_call G_law_drawn hg (hr.mono (by decide)) (by rfl) m.g_law_drawn m.F_law_drawn.kp m.b_law_drawn .nil (fun _ => passG) (pa_cons (pv 0) (pa_cons (pv 1) pa_nil))) (pa_cons (pg_call G_law_take hg (hr.mono (by decide)) (by rfl) m.g_law_take m.F_law_take.kp m.b_law_take .nil (fun _ => passG) (pa_cons (pv 0) (pa_cons pe_int pa_nil))) pa_nil)) (by rfl))
      (pss_cons (ps_if (PW.pt (pw_or (pt_cmpR op_eq (pv 3) pe_int (nomark _)) (pw_or1 (pt_cmpR op_eq (pv 3) pe_int (nomark _)))))
      (pss_cons (ps_asg (pg_call G_law_take hg (hr.mono (by decide)) (by rfl) m.g_law_take m.F_law_take.kp m.b_law_take .nil (fun _ => passG) (pa_cons (pv 0) (pa_cons (pe_callB cr_len (by rfl) m.n_len (by decide +kernel) (pa_cons (pv 2) pa_nil)) pa_nil))) (pg_name (i := 4) sc_law_list.nd rfl (.inl rfl)))
      (pss_one (ps_asg (pg_call G_law_take hg (hr.mono (by decide)) (by rfl) m.g_law_take m.F_law_take.kp m.b_law_take .nil (fun _ => passG) (pa_cons (pv 0) (pa_cons (pe_op op_add (pe_op op_fdiv (pe_op op_mul (pv 1) (pe_op op_add (pv 1) pe_int)) pe_int) pe_int) pa_nil))) (pg_sub (pv 2) (pv 4) set_list))))
      pss_nil)
      (pss_cons (ps_if (pt_cmpR op_eq (pv 3) pe_int (nomark _))
      (pss_one (ps_asg (pg_call G_law_some hg (hr.mono (by decide)) (by rfl) m.g_law_some m.F_law_some.kp m.b_law_some .nil (fun _ => passG) (pa_cons (pv 0) (pa_cons (pe_listRg rfl (by rfl) m.n_list (prg_1 (by rfl) m.n_range (pe_op op_add (pe_op op_fdiv (pe_op op_mul (pv 1) (pe_op op_add (pv 1) pe_int)) pe_int) pe_int))) (pa_cons (pv 1) pa_nil)))) (pg_name (i := 2) sc_law_list.nd rfl (.inl rfl))))
      pss_nil)
      (pss_cons (ps_if (pt_cmpR op_eq (pv 3) pe_int (nomark _))
      (pss_one (ps_asg (pe_ix ix_list (pe_lst (pa_cons (pe_op op_add pe_int (pg_call G_law_take hg (hr.mono (by decide)) (by rfl) m.g_law_take m.F_law_take.kp m.b_law_take .nil (fun _ => passG) (pa_cons (pv 0) (pa_cons pe_int pa_nil)))) (pa_cons (pe_op op_pow pe_int pe_int) (pa_cons (pe_op op_pow pe_int pe_int) pa_nil)))) (pg_call G_law_take hg (hr.mono (by decide)) (by rfl) m.g_law_take m.F_law_take.kp m.b_law_take .nil (fun _ => passG) (pa_cons (pv 0) (pa_cons pe_int pa_nil))) (fun _ _ => rfl)) (pg_sub (pv 2) (pg_call G_law_take hg (hr.mono (by decide)) (by rfl) m.g_law_take m.F_law_take.kp m.b_law_take .nil (fun _ => passG) (pa_cons (pv 0) (pa_cons (pe_callB cr_len (by rfl) m.n_len (by decide +kernel) (pa_cons (pv 2) pa_nil)) pa_nil))) set_list)))
      pss_nil)
      (pss_one (ps_ret (pe_callB (cr_sortedSet rfl) (by rfl) m.n_sorted (by decide +kernel) (pa_cons (pe_callTy (cr_setL rfl) (by rfl) m.n_set (by decide +kernel) (pa_cons (pv 2) pa_nil)) pa_nil)))))))), ?_⟩
    have htri : (n : Int) * ((n : Int) + 1) / 2 = (tri n : Int) := by unfold tri; push_cast; rfl
    have htri8 : tri n ≤ 36 := tri_mono h8
    have htri1 : n ≤ tri n := by
      obtain ⟨m', rfl⟩ : ∃ m', n = m' + 1 := ⟨n - 1, by omega⟩
      rw [tri_succ]; omega
    have p140 : 10 ^ 39 < 2 ^ 140 := by decide +kernel
    have p36 : (2 : Nat) ^ 10 ≤ 2 ^ 140 := by decide +kernel
    walk_at "v2"
    refine ⟨B, u, c, n, l, rfl, U, h1, h8, by omega, fun H1 fo ms U hp => ?_⟩
    have hml : ms.length = n := hp.len
    have hmb : ∀ x ∈ ms, x < 2 ^ 140 := fun x hx => by have := hp.lt x hx; omega
    refine take_go U (by omega) (by omega) (by omega) fun H2 way U a1 b1 => ?_
    have hw : way = 0 ∨ way = 1 ∨ way = 2 ∨ way = 3 ∨ way = 4 ∨ way = 5 := by omega
    rcases hw with rfl | rfl | rfl | rfl | rfl | rfl
    · walk_at "vc"
      rw [if_neg (by decide), if_neg (by decide), if_neg (by decide), if_neg (by decide)]
      obtain ⟨xs, hxs⟩ : ∃ xs, xs = ms := ⟨_, rfl⟩
      rw [← hxs] at U
      have hx1 : 1 ≤ xs.length := by rw [hxs]; omega
      have hx2 : xs.length ≤ n := by rw [hxs]; omega
      have hx3 : ∀ x ∈ xs, x < 2 ^ 140 := by rw [hxs]; exact hmb
      obtain ⟨x0, y0, z0, L, hr⟩ := U
      refine SetLK.of L (ns := xs.map fun (p : Nat) => (p : Int)) (by rw [← nv_ints]; exact L.lstAt (by walk_at "mem")) (by rw [List.length_map]; omega) fun p1 cn H8 hcn L => ?_
      rw [List.length_map] at hcn
      refine SrtSK.of L (by omega) fun ns p2 H9 hpw hmem L => ?_
      obtain ⟨zs, ez, z1, z2, z3⟩ := srt_nats hpw hmem
      rw [ez] at L
      have z4 : 1 ≤ zs.length := by
        obtain ⟨x, hx⟩ := List.exists_mem_of_length_pos (l := xs) (by omega)
        exact List.length_pos_of_mem ((z2 x).mpr hx)
      refine q H9 p2 zs ?_ ⟨z1, z4, by omega⟩ (by omega) fun x hx => hx3 x ((z2 x).mp hx)
      exact Urn.up ⟨x0, y0, z0, L.sel (.cons (.tl .hd) (.cons .hd (by first | exact .skip .all | exact .skip (.skip .all) | exact .skip (.skip (.skip .all))))), hr⟩ (by omega)
    · walk_at "vc"
      try rw [if_pos rfl]
      refine LenK.ofL (U.led.lstAt (xs := nv ms) (by walk_at "mem")) ?_
      rw [nv_len]
      refine take_go U (by omega) (by omega) (by omega) fun H3 r3 U a3 b3 => ?_
      obtain ⟨j, rfl⟩ : ∃ j : Nat, r3 = (j : Int) := ⟨r3.toNat, by omega⟩
      refine ⟨by walk_at "sd", by rw [htri] at *; walk_at "sd", ?_⟩
      rw [htri]
      refine take_go U (by omega) (by omega) (by omega) fun H4 r4 U a4 b4 => ?_
      obtain ⟨y, rfl⟩ : ∃ j : Nat, r4 = (j : Int) := ⟨r4.toNat, by omega⟩
      walk_at "vc"
      refine U.setK (xs := nv ms) (by walk_at "mem") (j := j) (ixN_nat (by rw [nv_len]; omega)) (by walk_at "put") fun H5 U => ?_
      rw [nv_set] at U
      rw [if_neg (by decide), if_neg (by decide)]
      obtain ⟨xs, hxs⟩ : ∃ xs, xs = ms.set j y := ⟨_, rfl⟩
      rw [← hxs] at U
      have hx1 : 1 ≤ xs.length := by rw [hxs, List.length_set]; omega
      have hx2 : xs.length ≤ n := by rw [hxs, List.length_set]; omega
      have hx3 : ∀ x ∈ xs, x < 2 ^ 140 := by
        rw [hxs]
        intro x hx
        rcases List.mem_or_eq_of_mem_set hx with z | z
        · exact hmb x z
        · rw [z]; omega
      obtain ⟨x0, y0, z0, L, hr⟩ := U
      refine SetLK.of L (ns := xs.map fun (p : Nat) => (p : Int)) (by rw [← nv_ints]; exact L.lstAt (by walk_at "mem")) (by rw [List.length_map]; omega) fun p1 cn H8 hcn L => ?_
      rw [List.length_map] at hcn
      refine SrtSK.of L (by omega) fun ns p2 H9 hpw hmem L => ?_
      obtain ⟨zs, ez, z1, z2, z3⟩ := srt_nats hpw hmem
      rw [ez] at L
      have z4 : 1 ≤ zs.length := by
        obtain ⟨x, hx⟩ := List.exists_mem_of_length_pos (l := xs) (by omega)
        exact List.length_pos_of_mem ((z2 x).mpr hx)
      refine q H9 p2 zs ?_ ⟨z1, z4, by omega⟩ (by omega) fun x hx => hx3 x ((z2 x).mp hx)
      exact Urn.up ⟨x0, y0, z0, L.sel (.cons (.tl .hd) (.cons .hd (by first | exact .skip .all | exact .skip (.skip .all) | exact .skip (.skip (.skip .all))))), hr⟩ (by omega)
    · walk_at "vc"
      rw [if_neg (by decide)]
      try rw [if_pos rfl]
      refine LenK.ofL (U.led.lstAt (xs := nv ms) (by walk_at "mem")) ?_
      rw [nv_len]
      refine take_go U (by omega) (by omega) (by omega) fun H3 r3 U a3 b3 => ?_
      obtain ⟨j, rfl⟩ : ∃ j : Nat, r3 = (j : Int) := ⟨r3.toNat, by omega⟩
      refine ⟨by walk_at "sd", by rw [htri] at *; walk_at "sd", ?_⟩
      rw [htri]
      refine take_go U (by omega) (by omega) (by omega) fun H4 r4 U a4 b4 => ?_
      obtain ⟨y, rfl⟩ : ∃ j : Nat, r4 = (j : Int) := ⟨r4.toNat, by omega⟩
      walk_at "vc"
      refine U.setK (xs := nv ms) (by walk_at "mem") (j := j) (ixN_nat (by rw [nv_len]; omega)) (by walk_at "put") fun H5 U => ?_
      rw [nv_set] at U
      rw [if_neg (by decide), if_neg (by decide)]
      obtain ⟨xs, hxs⟩ : ∃ xs, xs = ms.set j y := ⟨_, rfl⟩
      rw [← hxs] at U
      have hx1 : 1 ≤ xs.length := by rw [hxs, List.length_set]; omega
      have hx2 : xs.length ≤ n := by rw [hxs, List.length_set]; omega
      have hx3 : ∀ x ∈ xs, x < 2 ^ 140 := by
        rw [hxs]
        intro x hx
        rcases List.mem_or_eq_of_mem_set hx with z | z
        · exact hmb x z
        · rw [z]; omega
      obtain ⟨x0, y0, z0, L, hr⟩ := U
      refine SetLK.of L (ns := xs.map fun (p : Nat) => (p : Int)) (by rw [← nv_ints]; exact L.lstAt (by walk_at "mem")) (by rw [List.length_map]; omega) fun p1 cn H8 hcn L => ?_
      rw [List.length_map] at hcn
      refine SrtSK.of L (by omega) fun ns p2 H9 hpw hmem L => ?_
      obtain ⟨zs, ez, z1, z2, z3⟩ := srt_nats hpw hmem
      rw [ez] at L
      have z4 : 1 ≤ zs.length := by
        obtain ⟨x, hx⟩ := List.exists_mem_of_length_pos (l := xs) (by omega)
        exact List.length_pos_of_mem ((z2 x).mpr hx)
      refine q H9 p2 zs ?_ ⟨z1, z4, by omega⟩ (by omega) fun x hx => hx3 x ((z2 x).mp hx)
      exact Urn.up ⟨x0, y0, z0, L.sel (.cons (.tl .hd) (.cons .hd (by first | exact .skip .all | exact .skip (.skip .all) | exact .skip (.skip (.skip .all))))), hr⟩ (by omega)
    · walk_at "vc"
      rw [if_neg (by decide), if_neg (by decide)]
      try rw [if_pos rfl]
      refine ⟨by walk_at "sd", by rw [htri] at *; walk_at "sd", ?_⟩
      rw [htri]
      refine ⟨RgOk.of_le (by omega) (by omega) (by omega) (by omega), ?_⟩
      refine U.new fun rg H3 U => ?_
      rw [show (tri n : Int) + 1 = ((tri n + 1 : Nat) : Int) by omega, rgV_nv] at U
      refine ⟨B, u, rg, _, n, List.range (tri n + 1), _, rfl, U, .head _, List.nodup_range, by rw [List.length_range]; omega, by rw [List.length_range]; omega, by omega, fun H4 fo xs U hl1 hl2 hl3 => ?_⟩
      walk_at "vc"
      rw [if_neg (by decide)]
      have hx1 : 1 ≤ xs.length := by omega
      have hx2 : xs.length ≤ n := by omega
      have hx3 : ∀ x ∈ xs, x < 2 ^ 140 := fun x hx => by have := List.mem_range.mp (hl3 x hx); omega
      obtain ⟨x0, y0, z0, L, hr⟩ := U
      refine SetLK.of L (ns := xs.map fun (p : Nat) => (p : Int)) (by rw [← nv_ints]; exact L.lstAt (by walk_at "mem")) (by rw [List.length_map]; omega) fun p1 cn H8 hcn L => ?_
      rw [List.length_map] at hcn
      refine SrtSK.of L (by omega) fun ns p2 H9 hpw hmem L => ?_
      obtain ⟨zs, ez, z1, z2, z3⟩ := srt_nats hpw hmem
      rw [ez] at L
      have z4 : 1 ≤ zs.length := by
        obtain ⟨x, hx⟩ := List.exists_mem_of_length_pos (l := xs) (by omega)
        exact List.length_pos_of_mem ((z2 x).mpr hx)
      refine q H9 p2 zs ?_ ⟨z1, z4, by omega⟩ (by omega) fun x hx => hx3 x ((z2 x).mp hx)
      exact Urn.up ⟨x0, y0, z0, L.sel (.cons (.tl .hd) (.cons .hd (by first | exact .skip .all | exact .skip (.skip .all) | exact .skip (.skip (.skip .all))))), hr⟩ (by omega)
    · walk_at "vc"
      rw [if_neg (by decide), if_neg (by decide), if_neg (by decide)]
      try rw [if_pos rfl]
      refine take_go U (by omega) (by omega) (by omega) fun H3 r3 U a3 b3 => ?_
      walk_at "vc"
      refine U.new fun dl H4 U => ?_
      refine take_go U (by omega) (by omega) (by omega) fun H5 r4 U a4 b4 => ?_
      obtain ⟨v2, hv2, e2⟩ := pickV (l := [.int (40 + r3), .int 1000000000000000000000000000000, .int 1000000000000000000000000000000000000000]) a4 (by simpa using b4)
      obtain ⟨y, rfl, hy⟩ : ∃ s : Nat, v2 = .int (s : Int) ∧ s < 2 ^ 140 := by
        simp only [List.mem_cons, List.not_mem_nil, or_false] at hv2
        rcases hv2 with z | z | z
        · exact ⟨(40 + r3).toNat, by rw [z, Int.toNat_of_nonneg (by omega)], by omega⟩
        · exact ⟨1000000000000000000000000000000, z, by decide⟩
        · exact ⟨1000000000000000000000000000000000000000, z, by decide⟩
      walk_at "vc"
      refine IxLK.of (U.led.lstAt (.head _)) e2 ?_
      walk_at "vc"
      refine LenK.ofL (U.led.lstAt (xs := nv ms) (by walk_at "mem")) ?_
      rw [nv_len]
      refine take_go U (by omega) (by omega) (by omega) fun H6 r5 U a5 b5 => ?_
      obtain ⟨j, rfl⟩ : ∃ j : Nat, r5 = (j : Int) := ⟨r5.toNat, by omega⟩
      walk_at "vc"
      refine U.setK (xs := nv ms) (by walk_at "mem") (j := j) (ixN_nat (by rw [nv_len]; omega)) (by walk_at "put") fun H7 U => ?_
      rw [nv_set] at U
      have U := U.sel (.cons (.tl .hd) (.skip .all))
      obtain ⟨xs, hxs⟩ : ∃ xs, xs = ms.set j y := ⟨_, rfl⟩
      rw [← hxs] at U
      have hx1 : 1 ≤ xs.length := by rw [hxs, List.length_set]; omega
      have hx2 : xs.length ≤ n := by rw [hxs, List.length_set]; omega
      have hx3 : ∀ x ∈ xs, x < 2 ^ 140 := by
        rw [hxs]
        intro x hx
        rcases List.mem_or_eq_of_mem_set hx with z | z
        · exact hmb x z
        · rw [z]; exact hy
      obtain ⟨x0, y0, z0, L, hr⟩ := U
      refine SetLK.of L (ns := xs.map fun (p : Nat) => (p : Int)) (by rw [← nv_ints]; exact L.lstAt (by walk_at "mem")) (by rw [List.length_map]; omega) fun p1 cn H8 hcn L => ?_
      rw [List.length_map] at hcn
      refine SrtSK.of L (by omega) fun ns p2 H9 hpw hmem L => ?_
      obtain ⟨zs, ez, z1, z2, z3⟩ := srt_nats hpw hmem
      rw [ez] at L
      have z4 : 1 ≤ zs.length := by
        obtain ⟨x, hx⟩ := List.exists_mem_of_length_pos (l := xs) (by omega)
        exact List.length_pos_of_mem ((z2 x).mpr hx)
      refine q H9 p2 zs ?_ ⟨z1, z4, by omega⟩ (by omega) fun x hx => hx3 x ((z2 x).mp hx)
      exact Urn.up ⟨x0, y0, z0, L.sel (.cons (.tl .hd) (.cons .hd (by first | exact .skip .all | exact .skip (.skip .all) | exact .skip (.skip (.skip .all))))), hr⟩ (by omega)
    · walk_at "vc"
      rw [if_neg (by decide), if_neg (by decide), if_neg (by decide), if_neg (by decide)]
      obtain ⟨xs, hxs⟩ : ∃ xs, xs = ms := ⟨_, rfl⟩
      rw [← hxs] at U
      have hx1 : 1 ≤ xs.length := by rw [hxs]; omega
      have hx2 : xs.length ≤ n := by rw [hxs]; omega
      have hx3 : ∀ x ∈ xs, x < 2 ^ 140 := by rw [hxs]; exact hmb
      obtain ⟨x0, y0, z0, L, hr⟩ := U
      refine SetLK.of L (ns := xs.map fun (p : Nat) => (p : Int)) (by rw [← nv_ints]; exact L.lstAt (by walk_at "mem")) (by rw [List.length_map]; omega) fun p1 cn H8 hcn L => ?_
      rw [List.length_map] at hcn
      refine SrtSK.of L (by omega) fun ns p2 H9 hpw hmem L => ?_
      obtain ⟨zs, ez, z1, z2, z3⟩ := srt_nats hpw hmem
      rw [ez] at L
      have z4 : 1 ≤ zs.length := by
        obtain ⟨x, hx⟩ := List.exists_mem_of_length_pos (l := xs) (by omega)
        exact List.length_pos_of_mem ((z2 x).mpr hx)
      refine q H9 p2 zs ?_ ⟨z1, z4, by omega⟩ (by omega) fun x hx => hx3 x ((z2 x).mp hx)
      exact Urn.up ⟨x0, y0, z0, L.sel (.cons (.tl .hd) (.cons .hd (by first | exact .skip .all | exact .skip (.skip .all) | exact .skip (.skip (.skip .all))))), hr⟩ (by omega)
/-! cut law_sends -/
def PrsAt2 (B : Hp) (as : List Addr) (l : List (Nat × Nat)) : Prop := PrsAt B as l
def sp_law_sends (K : PySem.W.Frag) : Sp := fun vs H Q _ => ∃ (e : Nat) (b : Bool), vs = [.int e, .bl b] ∧ e ≤ 100 ∧ ∀ p H' B' as, Same H B' → PrsAt B' as (ways e b) → Led B' H' [(p, .lst (as.map V.ref))] → Q (.ref p) H'
theorem ok_law_sends (m : Mo P K mg d) (sm : SM bs) : Fg P w K mg bs CX0 1 d.a_law_sends d.fd_law_sends ["entered", "is_listed"] (sp_law_sends K) := by
  refine ok (n := 0) m.F_law_sends sc_law_sends (fun vs H Q E h => ?_) (fun cdv A fr s H vs Q E hg hr h => ?_)
  · obtain ⟨e, b, rfl, he, q⟩ := h
    rfl
  · obtain ⟨e, b, rfl, he, q⟩ := h
    refine ⟨_, (pss_cons (ps_if (pt_val (pv 1))
      (pss_one (ps_ret (pe_lc (own := [("right", 2)]) (by rfl) sc_law_sends.nd (pi_range1 (by rfl) m.n_range (pa_cons (pv 0) pa_nil)) (blkOk_by (own := [("right", 2)]) (N := ["entered", "is_listed", "right"]) (sc := defScope s_law_sends) (by decide +kernel)) (fun _ _ _ _ _ => by exact (pg_name (i := 2) sc_law_sends.nd rfl (.inl rfl))) (fun _ _ _ _ _ => by exact pts_nil) (fun _ _ _ _ _ => by exact (pe_tup (pa_cons (pv 2) (pa_cons (pe_op op_sub (pe_op op_sub (pv 0) pe_int) (pv 2)) pa_nil)))))))
      pss_nil)
      (pss_one (ps_ret (pe_op op_cat (pe_lc (own := [("right", 2)]) (by rfl) sc_law_sends.nd (pi_range2 (by rfl) m.n_range (pa_cons pe_int (pa_cons (pv 0) pa_nil))) (blkOk_by (own := [("right", 2)]) (N := ["entered", "is_listed", "right"]) (sc := defScope s_law_sends) (by decide +kernel)) (fun _ _ _ _ _ => by exact (pg_name (i := 2) sc_law_sends.nd rfl (.inl rfl))) (fun _ _ _ _ _ => by exact pts_nil) (fun _ _ _ _ _ => by exact (pe_tup (pa_cons (pv 2) (pa_cons (pe_op op_sub (pv 0) (pv 2)) pa_nil))))) (pe_op op_rep (pe_lst (pa_cons (pe_tup (pa_cons pe_int (pa_cons pe_int pa_nil))) pa_nil)) (pe_callTy cr_intB (by rfl) m.n_int (by decide +kernel) (pa_cons (pe_cmpR op_eq (pv 0) pe_int (nomark _)) pa_nil))))))), ?_⟩
    unfold ways at q
    walk_at "vc"
    cases b with
    | true =>
      rw [if_pos rfl] at q ⊢
      refine ⟨by omega, by omega, ?_⟩
      refine comp_range (fun j z acc H' => ∃ B2 as, Same H B2 ∧ acc = as.map V.ref ∧ PrsAt B2 as ((List.range j).map fun r => (r, e - 1 - r)) ∧ Led B2 H' [(z, .lst acc)]) (fun z hz => ⟨H, [], Same.refl _, rfl, .nil, (Led.nil H).new hz⟩) ?_ ?_
      · rintro z acc H6 ⟨B2, as, s2, rfl, hr, L⟩
        rw [Int.toNat_natCast] at hr
        exact q z H6 B2 as s2 hr L
      · rintro j z acc H6 N hj ⟨B2, as, s2, rfl, hr, L⟩ hN
        rw [Int.toNat_natCast] at hj
        unfold TurnK
        walk_at "vc"
        refine NewK.of L fun t H7 L => ?_
        obtain ⟨B3, s3, h3, L⟩ := L.sink
        have hl : as.length = j := by rw [Paired.length hr, List.length_map, List.length_range]
        refine AppK.of L (by walk_at "mem") (Nat.lt_of_lt_of_le (m := 200) (by rw [List.length_map]; omega) (by decide)) (by walk_at "put") fun H8 L => hN _ _ ⟨B3, as ++ [t], s2.trans s3, by rw [List.map_append]; rfl, ?_, L⟩
        rw [List.range_succ, List.map_append]
        refine Paired.snoc (PrsAt.mono s3 hr) ?_
        unfold PrAt
        rw [h3]
        dsimp only
        rw [show ((e - 1 - j : Nat) : Int) = (e : Int) - 1 - (j : Int) by omega]
    | false =>
      rw [if_neg Bool.false_ne_true] at q ⊢
      refine ⟨by decide, by decide, by omega, by omega, ?_⟩
      refine comp_range (fun j z acc H' => ∃ B2 as, Same H B2 ∧ acc = as.map V.ref ∧ PrsAt B2 as ((List.range j).map fun r => (r + 1, e - (r + 1))) ∧ Led B2 H' [(z, .lst acc)]) (fun z hz => ⟨H, [], Same.refl _, rfl, .nil, (Led.nil H).new hz⟩) ?_ ?_
      · rintro z acc H6 ⟨B2, as, s2, rfl, hr, L⟩
        rw [show ((e : Int) - 1).toNat = e - 1 by omega] at hr
        refine NewK.of L fun t H7 L => ?_
        obtain ⟨B3, s3, h3, L⟩ := L.sink
        refine NewK.of L fun t1 H8 L => ?_
        have hl : as.length = e - 1 := by rw [Paired.length hr, List.length_map, List.length_range]
        by_cases c : e = 0
        · subst c
          rw [if_pos rfl] at q
          rw [if_pos (by omega)]
          cases as with
          | cons _ _ => cases hl
          | nil =>
          refine RptK.of (n := 1) L (by walk_at "mem") (by decide) fun t2 H9 L => ?_
          refine x_cat.mpr (CatK.of (xs := []) (ys := [V.ref t]) L (by walk_at "mem") (by walk_at "mem") (show 1 ≤ sizeLine by decide) fun p H10 L => ?_)
          exact q p H10 B3 [t] (s2.trans s3) (.cons h3 .nil) (L.sel (.cons .hd .nil))
        · rw [if_neg c] at q
          rw [if_neg (by omega)]
          refine RptK.of (n := 0) L (by walk_at "mem") (by decide) fun t2 H9 L => ?_
          refine x_cat.mpr (CatK.of (xs := as.map V.ref) L (by walk_at "mem") (by walk_at "mem") (Nat.le_trans (m := 200) (by rw [List.length_map, List.length_replicate]; omega) (by decide)) fun p H10 L => ?_)
          rw [List.replicate_zero, List.append_nil] at L
          exact q p H10 B3 as (s2.trans s3) (PrsAt.mono s3 hr) (L.sel (.cons .hd .nil))
      · rintro j z acc H6 N hj ⟨B2, as, s2, rfl, hr, L⟩ hN
        rw [show ((e : Int) - 1).toNat = e - 1 by omega] at hj
        unfold TurnK
        walk_at "vc"
        refine NewK.of L fun t H7 L => ?_
        obtain ⟨B3, s3, h3, L⟩ := L.sink
        have hl : as.length = j := by rw [Paired.length hr, List.length_map, List.length_range]
        refine AppK.of L (by walk_at "mem") (Nat.lt_of_lt_of_le (m := 200) (by rw [List.length_map]; omega) (by decide)) (by walk_at "put") fun H8 L => hN _ _ ⟨B3, as ++ [t], s2.trans s3, by rw [List.map_append]; rfl, ?_, L⟩
        rw [List.range_succ, List.map_append]
        refine Paired.snoc (PrsAt.mono s3 hr) ?_
        unfold PrAt
        rw [h3]
        dsimp only
        rw [show ((e - (j + 1) : Nat) : Int) = (e : Int) - (1 + (j : Int)) by omega, show ((j + 1 : Nat) : Int) = 1 + (j : Int) by omega]
/-! cut law_next -/
theorem rowsGo_snoc {wf : Nat → Bool → List (Nat × Nat)} {e : Nat} {l : Bool} : ∀ {row : List Nat} {ls : List Bool} {acc : List (List Nat)}, row.length = ls.length → rowsGo wf (row ++ [e]) (ls ++ [l]) acc = (rowsGo wf row ls acc).flatMap fun a => (wf e l).map fun rd => ext a rd.1 rd.2
  | [], [], _, _ => rfl
  | x :: row, y :: ls, acc, h => by
    show rowsGo wf (row ++ [e]) (ls ++ [l]) _ = _
    rw [rowsGo_snoc (by simpa using h)]
    rfl
theorem flat_take_len {α β : Type} {F : α → List β} {N : Nat} (h : ∀ a, (F a).length ≤ N) : ∀ l : List α, (l.flatMap F).length ≤ l.length * N
  | [] => Nat.zero_le _
  | a :: r => by
    have := flat_take_len h r
    have := h a
    rw [List.flatMap_cons, List.length_append, List.length_cons, Nat.succ_mul]
    omega
theorem ref_at {as : List Addr} {i : Nat} {x : V} (h : (as.map V.ref)[i]? = some x) : ∃ c, as[i]? = some c ∧ x = .ref c := by
  rw [List.getElem?_map] at h
  cases z : as[i]? with
  | none => rw [z] at h; cases h
  | some c => rw [z] at h; cases h; exact ⟨c, rfl, rfl⟩
theorem lsAt_at {nm : Nat → Bool} {t i : Nat} (h : i ≤ t) : (lsAt nm t)[i]? = some (nm (tri t + i)) := by
  unfold lsAt
  rw [List.getElem?_map, List.getElem?_range (by omega)]
  rfl
def sp_law_next (K : PySem.W.Frag) : Sp := fun vs H Q _ => ∃ (a b : Addr) (row names : List Nat) (t : Nat), vs = [.ref a, .ref b, .int t] ∧ H a = some (.tup (nv row)) ∧ SqL K H b (nv names) ∧ row.length = t + 1 ∧ t ≤ 9 ∧ row.sum ≤ 8 ∧
  ∀ p as B' H', Same H B' → RowsAt B' as (rowsFrom ways row (lsAt (nmOf names) t)) → Led B' H' [(p, .lst (as.map V.ref))] → Q (.ref p) H'
theorem ok_law_next (m : Mo P K mg d) (sm : SM bs) (G_law_sends : Fg P w K mg bs CX0 1 d.a_law_sends d.fd_law_sends ["entered", "is_listed"] (sp_law_sends K)) : Fg P w K mg bs CX0 2 d.a_law_next d.fd_law_next ["state", "names", "diagonal"] (sp_law_next K) := by
  refine ok (n := 1) m.F_law_next sc_law_next (fun vs H Q E h => ?_) (fun cdv A fr s H vs Q E hg hr h => ?_)
  · obtain ⟨a, b, row, names, t, rfl, ha, hb, hrl, ht, hs8, q⟩ := h
    rfl
  · obtain ⟨a, b, row, names, t, rfl, ha, hb, hrl, ht, hs8, q⟩ := h
    refine ⟨_, (pss_cons (ps_par (i := 3) (j := 4) (by rfl) sc_law_next.nd rfl rfl (by decide) rfl rfl (pa_cons (pe_op op_fdiv (pe_op op_mul (pv 2) (pe_op op_add (pv 2) pe_int)) pe_int) (pa_cons (pe_lst (pa_cons (pe_tup (pa_cons pe_int pa_nil)) pa_nil)) pa_nil)) (by rfl))
      (pss_cons (ps_for PassesOwn.never rfl (pi_enumT (by rfl) m.n_enumerate (pa_cons (pv 0) pa_nil)) (show PG _ _ (gTup K 2 _) from pg_tup (by rfl) (pgs_cons (pg_name (i := 5) sc_law_next.nd rfl (.inl rfl)) (pgs_cons (pg_name (i := 6) sc_law_next.nd rfl (.inl rfl)) pgs_nil)))
      (pss_cons (ps_asg (pe_lst pa_nil) (pg_name (i := 7) sc_law_next.nd rfl (.inl rfl)))
      (pss_cons (ps_for PassesOwn.never rfl (pi_list (pv 4)) (pg_name (i := 8) sc_law_next.nd rfl (.inl rfl))
      (pss_one (ps_for PassesOwn.never rfl (pi_list (pg_call G_law_sends hg (hr.mono (by decide)) (by rfl) m.g_law_sends m.F_law_sends.kp m.b_law_sends .nil (fun _ => passG) (pa_cons (pv 6) (pa_cons (pe_cmpR op_in_seq (pe_op op_add (pv 3) (pv 5)) (pv 1) rfl) pa_nil)))) (show PG _ _ (gTup K 2 _) from pg_tup (by rfl) (pgs_cons (pg_name (i := 9) sc_law_next.nd rfl (.inl rfl)) (pgs_cons (pg_name (i := 10) sc_law_next.nd rfl (.inl rfl)) pgs_nil)))
      (pss_one (ps_expr (pe_bm PySem.F.plainAttrs_list PySem.F.slot_list_append PySem.F.type_list_append mt_append (pv 7) (pa_cons (pe_op op_catA (pe_slice sl_tupA (pv 8) po_none (po_some (pe_un un_neg pe_int))) (pe_tup (pa_cons (pe_op op_add (pe_ix ix_tup (pv 8) (pe_un un_neg pe_int) (fun _ _ => rfl)) (pv 10)) (pa_cons (pv 9) pa_nil)))) pa_nil)))))))
      (pss_one (ps_asg (pv 7) (pg_name (i := 4) sc_law_next.nd rfl (.inl rfl)))))))
      (pss_one (ps_ret (pv 4))))), ?_⟩
    have htri : (t : Int) * ((t : Int) + 1) / 2 = (tri t : Int) := by unfold tri; push_cast; rfl
    walk_at "v2"
    refine ⟨by walk_at "sd", by walk_at "sd", ?_⟩
    rw [htri]
    refine NewK.of (Led.nil H) fun t0 H1 L => ?_
    obtain ⟨B1, s1, ht0, L⟩ := L.sink
    refine NewK.of L fun pf H2 L => ?_
    walk_at "v2"
    refine ⟨⟨_, .inl (.inl ((s1.trans L.sm) _ _ ha))⟩, ?_⟩
    have hll : (lsAt (nmOf names) t).length = t + 1 := lsAt_len _ _
    refine loop_enumT (xs := nv row) (fun i σ H' => ∃ pf y5 y6 y7 y8 y9 y10 B2 as, σ = [some (.ref a), some (.ref b), some (.int (t : Int)), some (.int (tri t : Int)), some (.ref pf), y5, y6, y7, y8, y9, y10] ∧ Same H B2 ∧ RowsAt B2 as (rowsFrom ways (row.take i) ((lsAt (nmOf names) t).take i)) ∧ Led B2 H' [(pf, .lst (as.map V.ref))]) ⟨pf, _, _, _, _, _, _, B1, [t0], rfl, s1, .cons ht0 .nil, L⟩ (fun i σ' H' h => ?_) (fun i x σ' H' N hx h hN => ?_) (fun σ' H' h => ?_)
    · obtain ⟨pf, y5, y6, y7, y8, y9, y10, B2, as, rfl, s2, hrs, L⟩ := h
      exact .inl (.inl ((s2.trans L.sm) _ _ ha))
    · obtain ⟨pf, y5, y6, y7, y8, y9, y10, B2, as, rfl, s2, hrs, L⟩ := h
      obtain ⟨e, he, rfl⟩ := nv_at hx
      have hi : i < row.length := (List.getElem?_eq_some_iff.mp he).1
      have hle := lsAt_at (nm := nmOf names) (show i ≤ t by omega)
      have htl : (row.take i).length = ((lsAt (nmOf names) t).take i).length := by rw [List.length_take, List.length_take, hll, hrl]
      have hstep : rowsFrom ways (row.take (i + 1)) ((lsAt (nmOf names) t).take (i + 1)) = (rowsFrom ways (row.take i) ((lsAt (nmOf names) t).take i)).flatMap fun a => (ways e (nmOf names (tri t + i))).map fun rd => ext a rd.1 rd.2 := by
        unfold rowsFrom
        rw [take_snoc he, take_snoc hle, rowsGo_snoc htl]
      have he8 : e ≤ 8 := by
        have := sum_take row (i + 1)
        rw [take_snoc he, List.sum_append] at this
        simp at this
        omega
      have hkeys : ∀ x ∈ rowsFrom ways (row.take i) ((lsAt (nmOf names) t).take i), x.length = i + 1 := fun x hx => by
        obtain ⟨c, hc, rfl⟩ := (rows_mem htl).mp hx
        rw [mg_len, hc.len.1, List.length_take]
        omega
      have hfl : (rowsFrom ways (row.take i) ((lsAt (nmOf names) t).take i)).length ≤ 256 := by
        have h1 := rowsGo_len ways_ok (row.take i) ((lsAt (nmOf names) t).take i) [[0]]
        have h2 := sum_take row i
        have h3 : 2 ^ (row.take i).sum ≤ 2 ^ 8 := Nat.pow_le_pow_right (by decide) (by omega)
        have h4 : ([[0]] : List (List Nat)).length = 1 := rfl
        rw [h4, Nat.one_mul] at h1
        exact Nat.le_trans h1 h3
      have hwl : (ways e (nmOf names (tri t + i))).length ≤ 256 := Nat.le_trans (ways_len _ _) (Nat.le_trans (Nat.pow_le_pow_right (by decide) he8) (by decide))
      rw [hstep] at hN
      generalize rowsFrom ways (row.take i) ((lsAt (nmOf names) t).take i) = F at *
      generalize hlv : nmOf names (tri t + i) = lv at *
      refine NewK.of L fun t1 H1 L => ?_
      walk_at "v1"
      refine UnpK.of (L.tupAt (by walk_at "mem")) rfl ?_
      walk_at "v1"
      have L : Led B2 H1 [(pf, .lst (as.map V.ref))] := L.sel (by walk_at "sel")
      walk_at "v2"
      refine NewK.of L fun pl H2 L => ?_
      walk_at "v2"
      refine ⟨⟨_, L.lstAt (by walk_at "mem")⟩, ?_⟩
      refine loop_list (xs := as.map V.ref) (fun j σ' H' => ∃ y8 y9 y10 B3 as2, σ' = [some (.ref a), some (.ref b), some (.int (t : Int)), some (.int (tri t : Int)), some (.ref pf), some (.int (i : Int)), some (.int (e : Int)), some (.ref pl), y8, y9, y10] ∧ Same B2 B3 ∧ RowsAt B3 as2 ((F.take j).flatMap fun a => (ways e lv).map fun rd => ext a rd.1 rd.2) ∧ Led B3 H' [(pl, .lst (as2.map V.ref)), (pf, .lst (as.map V.ref))]) ⟨_, _, _, B2, [], rfl, Same.refl _, .nil, L⟩ (fun j σ' H' _ h => ?_) (fun j x σ' H' N2 hx h hN2 => ?_) (fun σ' H' h => ?_)
      · obtain ⟨y8, y9, y10, B3, as2, rfl, s3, hr3, L⟩ := h
        exact L.lstAt (by walk_at "mem")
      · obtain ⟨y8, y9, y10, B3, as2, rfl, s3, hr3, L⟩ := h
        obtain ⟨c, hc, rfl⟩ := ref_at hx
        obtain ⟨rw0, hrw, hcr⟩ := paired_get hrs hc
        have hcr : B2 c = some (.tup (nv rw0)) := hcr
        have hl0 := hkeys rw0 (List.mem_of_getElem? hrw)
        have hjl : j < F.length := (List.getElem?_eq_some_iff.mp hrw).1
        rw [take_snoc hrw, List.flatMap_append] at hN2
        have hfl2 : ((F.take j).flatMap fun a => (ways e lv).map fun rd => ext a rd.1 rd.2).length ≤ 65536 := by
          have := flat_take_len (F := fun a => (ways e lv).map fun rd => ext a rd.1 rd.2) (N := 256) (fun a => by rw [List.length_map]; exact hwl) (F.take j)
          rw [List.length_take] at this
          have h2 : min j F.length * 256 ≤ 256 * 256 := Nat.mul_le_mul_right _ (by omega)
          omega
        generalize (F.take j).flatMap (fun a => (ways e lv).map fun rd => ext a rd.1 rd.2) = G at *
        walk_at "v1"
        refine ⟨nv names, .inl (((s2.trans s3).trans L.sm).seq hb), rfl, flat_nv names, ?_⟩
        rw [if_neg Bool.false_ne_true, show (tri t : Int) + (i : Int) = ((tri t + i : Nat) : Int) by omega, inV_nv, show decide (tri t + i ∈ names) = lv from hlv]
        refine ⟨e, lv, rfl, by omega, fun pw H5 B5 ps s5 hps L5 => ?_⟩
        walk_at "v1"
        obtain ⟨B6, s6, L, k6⟩ := L.over s5 L5
        have hps : PrsAt B6 ps (ways e lv) := Paired.mapP hps fun c x z => k6 _ _ z (by intro e he; simp only [List.mem_cons, List.not_mem_nil, or_false] at he; rcases he with rfl | rfl <;> (intro z; cases z))
        have L : Led B6 H5 [(pw, .lst (ps.map V.ref)), (pl, .lst (as2.map V.ref)), (pf, .lst (as.map V.ref))] := L
        refine ⟨⟨_, L.lstAt (by walk_at "mem")⟩, ?_⟩
        refine loop_list (xs := ps.map V.ref) (fun m σ' H' => ∃ y9 y10 B7 as3, σ' = [some (.ref a), some (.ref b), some (.int (t : Int)), some (.int (tri t : Int)), some (.ref pf), some (.int (i : Int)), some (.int (e : Int)), some (.ref pl), some (.ref c), y9, y10] ∧ Same B6 B7 ∧ RowsAt B7 as3 (G ++ ((ways e lv).take m).map fun rd => ext rw0 rd.1 rd.2) ∧ Led B7 H' [(pw, .lst (ps.map V.ref)), (pl, .lst (as3.map V.ref)), (pf, .lst (as.map V.ref))]) ⟨_, _, B6, as2, rfl, Same.refl _, by rw [List.take_zero, List.map_nil, List.append_nil]; exact hr3.mono s6, L⟩ (fun m σ' H' _ h => ?_) (fun m x σ' H' N3 hx h hN3 => ?_) (fun σ' H' h => ?_)
        · obtain ⟨y9, y10, B7, as3, rfl, s7, hr7, L⟩ := h
          exact L.lstAt (by walk_at "mem")
        · obtain ⟨y9, y10, B7, as3, rfl, s7, hr7, L⟩ := h
          obtain ⟨c2, hc2, rfl⟩ := ref_at hx
          obtain ⟨⟨r0, d0⟩, hrd, hcp⟩ := paired_get hps hc2
          have hcp : B6 c2 = some (.tup [.int r0, .int d0]) := hcp
          rw [take_snoc hrd, List.map_append, ← List.append_assoc] at hN3
          have hml : m < (ways e lv).length := (List.getElem?_eq_some_iff.mp hrd).1
          have ha3 : as3.length ≤ 66000 := by rw [Paired.length hr7, List.length_append, List.length_map, List.length_take]; omega
          walk_at "v1"
          refine UnpK.of (.inl (.inl ((s7.trans L.sm) _ _ hcp))) rfl ?_
          walk_at "v1"
          refine ⟨tyL (L.lstAt (xs := as3.map V.ref) (by walk_at "mem")), ?_⟩
          have hc7 : B7 c = some (.tup (nv rw0)) := (s3.trans (s6.trans s7)) _ _ hcr
          refine SlTK.of L hc7 fun sl B8 H8 s8 hsl L => ?_
          rw [nv_split (by omega), cut_last] at hsl
          refine IxTK.of (.inl (.inl ((s8.trans L.sm) _ _ hc7))) (i := -1) (v := .int (rw0.getLastD 0 : Nat)) (by rw [nv_split (a := rw0) (by omega)]; exact atI_last _ _) ?_
          walk_at "v1"
          refine NewK.of L fun t2 H9 L => ?_
          obtain ⟨B9, s9, h9, L⟩ := L.sink
          refine CatTK.of L (s9 _ _ hsl) h9 (Nat.le_trans (m := 200) (by rw [nv_len, List.length_dropLast]; simp; omega) (by decide)) fun r B10 H10 s10 h10 L => ?_
          refine AppK.of L (xs := as3.map V.ref) (by walk_at "mem") (Nat.lt_of_le_of_lt (m := 70000) (by rw [List.length_map]; omega) (by decide)) (by walk_at "put") fun H11 L => ?_
          rw [show as3.map V.ref ++ [V.ref r] = (as3 ++ [r]).map V.ref by rw [List.map_append]; rfl] at L
          refine hN3 _ _ ⟨_, _, B10, as3 ++ [r], rfl, s7.trans (s8.trans (s9.trans s10)), ?_, L⟩
          refine Paired.snoc (RowsAt.mono (s8.trans (s9.trans s10)) hr7) ?_
          rw [h10]
          show _ = some (HO.tup (nv (ext rw0 r0 d0)))
          unfold ext
          rw [show rw0.dropLast ++ [rw0.getLastD 0 + d0, r0] = (rw0.dropLast ++ [rw0.getLastD 0 + d0]) ++ [r0] by simp, nv_app, nv_app, List.append_assoc]
          rfl
        · obtain ⟨y9, y10, B7, as3, rfl, s7, hr7, L⟩ := h
          rw [List.length_map, Paired.length hps, List.take_length] at hr7
          refine hN2 _ _ ⟨_, _, _, B7, as3, rfl, s3.trans (s6.trans s7), ?_, L.sel (.skip .all)⟩
          rw [List.flatMap_cons, List.flatMap_nil, List.append_nil]
          exact hr7
      · obtain ⟨y8, y9, y10, B3, as2, rfl, s3, hr3, L⟩ := h
        rw [List.length_map, Paired.length hrs, List.take_length] at hr3
        walk_at "v1"
        exact hN _ _ ⟨pl, _, _, _, _, _, _, B3, as2, rfl, s2.trans s3, hr3, L.sel (.cons .hd .nil)⟩
    · obtain ⟨pf, y5, y6, y7, y8, y9, y10, B2, as, rfl, s2, hrs, L⟩ := h
      rw [nv_len, List.take_length, hrl, List.take_of_length_le (Nat.le_of_eq hll)] at hrs
      walk_at "vc"
      exact q pf as B2 H' s2 hrs L
/-! cut law_stuck -/
def keyAdd (keys : List (List Nat)) (x : List Nat) : List (List Nat) := if x ∈ keys then keys else keys ++ [x]
def KeysAt (kvs : List (List Key × V)) (keys : List (List Nat)) : Prop := kvs.map Prod.fst = keys.map rk
theorem KeysAt.any {kvs : List (List Key × V)} {keys : List (List Nat)} {x : List Nat} (h : KeysAt kvs keys) : (kvs.any fun kv => decide (kv.1 = rk x)) = decide (x ∈ keys) := by
  rw [Bool.eq_iff_iff, decide_eq_true_iff, List.any_eq_true]
  constructor
  · rintro ⟨kv, hk, e⟩
    have : kv.1 ∈ keys.map rk := by rw [← h]; exact List.mem_map.mpr ⟨kv, hk, rfl⟩
    obtain ⟨y, hy, e2⟩ := List.mem_map.mp this
    have e : kv.1 = rk x := by simpa using e
    rw [e] at e2
    rw [← rk_inj e2]; exact hy
  · intro hx
    have : rk x ∈ kvs.map Prod.fst := by rw [h]; exact List.mem_map.mpr ⟨x, hx, rfl⟩
    obtain ⟨kv, hk, e⟩ := List.mem_map.mp this
    exact ⟨kv, hk, by simpa using e⟩
theorem KeysAt.put {kvs : List (List Key × V)} {keys : List (List Nat)} {x : List Nat} {v : V} (h : KeysAt kvs keys) : KeysAt (putK kvs (rk x) v) (keyAdd keys x) := by
  unfold KeysAt putK keyAdd
  rw [h.any]
  by_cases c : x ∈ keys
  · rw [if_pos (decide_eq_true c), if_pos c, ← (show kvs.map Prod.fst = keys.map rk from h), List.map_map]
    refine List.map_congr_left fun y _ => ?_
    show (if y.1 = rk x then (y.1, v) else y).1 = y.1
    split <;> rfl
  · rw [if_neg (by rw [decide_eq_false c]; exact Bool.false_ne_true), if_neg c, List.map_append, List.map_append, (show kvs.map Prod.fst = keys.map rk from h)]
    rfl
theorem keyAdd_mem {keys : List (List Nat)} {x y : List Nat} : y ∈ keyAdd keys x ↔ y ∈ keys ∨ y = x := by
  unfold keyAdd
  split
  · rename_i h
    exact ⟨Or.inl, fun z => z.elim id fun e => by rw [e]; exact h⟩
  · rw [List.mem_append, List.mem_singleton]
theorem keyAdd_nd {keys : List (List Nat)} {x : List Nat} (h : keys.Nodup) : (keyAdd keys x).Nodup := by
  unfold keyAdd
  split
  · exact h
  · rename_i c
    rw [List.nodup_append]
    refine ⟨h, List.nodup_cons.mpr ⟨List.not_mem_nil, List.nodup_nil⟩, fun a ha b hb e => ?_⟩
    rw [List.mem_singleton.mp hb] at e
    rw [e] at ha
    exact c ha
theorem keys_rows2 {B : Hp} : ∀ {kvs : List (List Key × V)} {bs : List Addr} {keys : List (List Nat)}, IsKeys B kvs bs → KeysAt kvs keys → RowsAt B bs keys
  | _, _, [], .nil, _ => .nil
  | _, _, _ :: _, .nil, h => by cases h
  | _, _, [], .cons _ _, h => by cases h
  | (_, _) :: _, _, x :: r, .cons h rr, e => by
    have e : _ :: _ = rk x :: r.map rk := e
    injection e with e1 e2
    refine .cons ?_ (keys_rows2 rr e2)
    dsimp only at e1
    rw [e1, rk_kV] at h
    exact h
structure KeyOk (k : Nat) (keys : List (List Nat)) : Prop where
  nd : keys.Nodup
  bx : ∀ x ∈ keys, x.length = k ∧ x.sum ≤ 8
theorem KeyOk.add {k : Nat} {keys : List (List Nat)} {x : List Nat} (h : KeyOk k keys) (hx : x.length = k ∧ x.sum ≤ 8) : KeyOk k (keyAdd keys x) := ⟨keyAdd_nd h.nd, fun y hy => by
  rcases keyAdd_mem.mp hy with z | z
  · exact h.bx y z
  · rw [z]; exact hx⟩
def StuI (a : Addr) (H : Hp) (ms : List Nat) (mm : Nat) (σ : L2.St) (H' : Hp) : Prop := ∃ t rows as st y3 y4 y5 B2, σ = [some (.ref a), some (.ref st), some (.int (t : Nat)), y3, y4, y5] ∧ Same H B2 ∧ RowsAt B2 as rows ∧ Led B2 H' [(st, .lst (as.map V.ref))] ∧ rows ≠ [] ∧
  (∀ x, x ∈ rows ↔ RowAt ways (nmOf ms) ms.length t x) ∧ t ≤ ms.length ∧ mm = ms.length - t
def sp_law_stuck (K : PySem.W.Frag) : Sp := fun vs H Q _ => ∃ (a : Addr) (ms : List Nat), vs = [.ref a] ∧ SqL K H a (nv ms) ∧ NL ms ∧ ∀ H' s, Same H H' → IsStuck (nmOf ms) ms.length s → Q (oV s) H'
theorem ok_law_stuck (m : Mo P K mg d) (sm : SM bs) (G_law_next : Fg P w K mg bs CX0 2 d.a_law_next d.fd_law_next ["state", "names", "diagonal"] (sp_law_next K)) : Fg P w K mg bs CX0 3 d.a_law_stuck d.fd_law_stuck ["names"] (sp_law_stuck K) := by
  refine ok (n := 2) m.F_law_stuck sc_law_stuck (fun vs H Q E h => ?_) (fun cdv A fr s H vs Q E hg hr h => ?_)
  · obtain ⟨a, ms, rfl, hS, hN, q⟩ := h
    rfl
  · obtain ⟨a, ms, rfl, hS, hN, q⟩ := h
    refine ⟨_, (pss_cons (ps_par (i := 1) (j := 2) (by rfl) sc_law_stuck.nd rfl rfl (by decide) rfl rfl (pa_cons (pe_lst (pa_cons (pe_tup (pa_cons (pe_callB cr_len (by rfl) m.n_len (by decide +kernel) (pa_cons (pv 0) pa_nil)) pa_nil)) pa_nil)) (pa_cons pe_int pa_nil)) (by rfl))
      (pss_cons (ps_while PassesOwn.never (pt_cmpR op_gt (pe_callB (cr_sumN rfl) (by rfl) m.n_sum (by decide +kernel) (pa_cons (pe_ix ix_list (pv 1) pe_int (fun _ _ => rfl)) pa_nil)) pe_int (nomark _))
      (pss_cons (ps_asg pe_dnewT (pg_name (i := 3) sc_law_stuck.nd rfl (.inl rfl)))
      (pss_cons (ps_for PassesOwn.never rfl (pi_list (pv 1)) (pg_name (i := 4) sc_law_stuck.nd rfl (.inl rfl))
      (pss_one (ps_for PassesOwn.never rfl (pi_list (pg_call G_law_next hg (hr.mono (by decide)) (by rfl) m.g_law_next m.F_law_next.kp m.b_law_next .nil (fun _ => passG) (pa_cons (pv 4) (pa_cons (pv 0) (pa_cons (pv 2) pa_nil))))) (pg_name (i := 5) sc_law_stuck.nd rfl (.inl rfl))
      (pss_one (ps_dput (Nat.lt_of_le_of_lt (Nat.add_le_add_left (by decide) _) hr.units) (pv 3) (pv 5) pe_bl rfl)))))
      (pss_cons (ps_if (pt_cmpR (op_eqE hr.units) (pv 3) pe_dnewK (nomark _))
      (pss_one (ps_ret (pv 2)))
      pss_nil)
      (pss_one (ps_par (i := 1) (j := 2) (by rfl) sc_law_stuck.nd rfl rfl (by decide) rfl rfl (pa_cons (pe_callTy (cr_lstD rfl) (by rfl) m.n_list (by decide +kernel) (pa_cons (pv 3) pa_nil)) (pa_cons (pe_op op_add (pv 2) pe_int) pa_nil)) (by rfl)))))))
      (pss_one (ps_ret pe_non)))), ?_⟩
    have h8 := hN.2.2
    walk_at "v2"
    refine LenK.ofL hS ?_
    rw [nv_len]
    refine NewK.of (Led.nil H) fun t0 H1 L => ?_
    obtain ⟨B1, s1, ht0, L⟩ := L.sink
    refine NewK.of L fun st H2 L => ?_
    walk_at "v2"
    refine ⟨StuI a H ms, ⟨ms.length, 0, [[ms.length]], [t0], st, _, _, _, B1, rfl, s1, .cons ht0 .nil, L, (by intro z; cases z), fun x => List.mem_singleton, Nat.zero_le _, rfl⟩, ?_⟩
    rintro mm σ H3 ⟨t, rows, as, st, y3, y4, y5, B2, rfl, s2, hrs, L, hne, hmem, htn, rfl⟩
    obtain ⟨r0, rr, rfl⟩ : ∃ r0 rr, rows = r0 :: rr := by
      cases rows with
      | nil => exact absurd rfl hne
      | cons x r => exact ⟨x, r, rfl⟩
    obtain ⟨a0, ar, rfl⟩ : ∃ a0 ar, as = a0 :: ar := by
      cases as with
      | nil => cases hrs
      | cons x r => exact ⟨x, r, rfl⟩
    have ha0 : B2 a0 = some (.tup (nv r0)) := (paired_get hrs (i := 0) rfl).elim fun _ ⟨e, h⟩ => by cases e; exact h
    have hr0 := (hmem r0).mp List.mem_cons_self
    obtain ⟨⟨hl0, hf0⟩, _⟩ := RowAt.ok ways_ok hr0
    walk_at "v1"
    refine IxLK.of (L.lstAt (xs := (a0 :: ar).map V.ref) (by walk_at "mem")) (i := 0) (v := .ref a0) (atI_nat' (i := 0) rfl) ?_
    walk_at "v1"
    refine ⟨r0.map (fun (p : Nat) => (p : Int)), by rw [← nv_ints]; exact .inl (.inl (L.sm _ _ ha0)), ?_⟩
    rw [sum_cast]
    walk_at "v1"
    by_cases h0 : 0 < r0.sum
    · have htn2 : t < ms.length := by
        rcases Nat.lt_or_ge t ms.length with z | z
        · exact z
        · have := zero_row hf0 z; omega
      rw [if_pos (by omega)]
      refine ⟨fun σ' H' => ∃ m', m' < ms.length - t ∧ StuI a H ms m' σ' H', fun _ _ z => z, ?_⟩
      walk_at "v2"
      refine NewK.of L fun dd H4 L => ?_
      walk_at "v2"
      generalize hrows : r0 :: rr = rows at *
      generalize has : a0 :: ar = as at *
      have hrow : ∀ r ∈ rows, r.length = t + 1 ∧ r.sum ≤ 8 := fun r hr => by
        obtain ⟨⟨l1, _⟩, s1⟩ := RowAt.ok ways_ok ((hmem r).mp hr)
        exact ⟨l1, by omega⟩
      have hlx : (lsAt (nmOf ms) t).length = t + 1 := lsAt_len _ _
      have hkey : ∀ r ∈ rows, ∀ x ∈ rowsFrom ways r (lsAt (nmOf ms) t), x.length = t + 2 ∧ x.sum ≤ 8 := fun r hr x hx => by
        obtain ⟨l1, s1⟩ := hrow r hr
        obtain ⟨c, hc, rfl⟩ := (rows_mem (by omega)).mp hx
        rw [mg_len, mg_sum]
        have := hc.len.1
        have := Fits.sum ways_ok hc
        omega
      refine ⟨⟨_, L.lstAt (xs := as.map V.ref) (by walk_at "mem")⟩, ?_⟩
      refine loop_list (xs := as.map V.ref) (fun i σ' H' => ∃ y4 y5 B3 kvs keys, σ' = [some (.ref a), some (.ref st), some (.int (t : Nat)), some (.ref dd), y4, y5] ∧ Same B2 B3 ∧ KeysAt kvs keys ∧ KeyOk (t + 2) keys ∧ (∀ x, x ∈ keys ↔ ∃ r ∈ rows.take i, x ∈ rowsFrom ways r (lsAt (nmOf ms) t)) ∧ Led B3 H' [(dd, .dT kvs), (st, .lst (as.map V.ref))]) ⟨_, _, B2, [], [], rfl, Same.refl _, rfl, ⟨List.nodup_nil, fun x hx => absurd hx List.not_mem_nil⟩, fun x => ⟨fun h => absurd h List.not_mem_nil, fun ⟨r, h, _⟩ => absurd h List.not_mem_nil⟩, L⟩ (fun i σ' H' _ h => ?_) (fun i x σ' H' N hx h hN => ?_) (fun σ' H' h => ?_)
      · obtain ⟨y4, y5, B3, kvs, keys, rfl, s3, hk, hko, hkm, L⟩ := h
        exact L.lstAt (by walk_at "mem")
      · obtain ⟨y4, y5, B3, kvs, keys, rfl, s3, hk, hko, hkm, L⟩ := h
        obtain ⟨c, hc, rfl⟩ := ref_at hx
        obtain ⟨row, hrw, hcr⟩ := paired_get hrs hc
        have hcr : B2 c = some (.tup (nv row)) := hcr
        have hrm := List.mem_of_getElem? hrw
        obtain ⟨l1, l2⟩ := hrow row hrm
        walk_at "v1"
        refine ⟨c, a, row, ms, t, rfl, (s3.trans L.sm) _ _ hcr, (s2.trans (s3.trans L.sm)).seq hS, l1, by omega, l2, fun pw as5 B5 H5 s5 hps L5 => ?_⟩
        walk_at "v1"
        obtain ⟨B6, s6, L, k6⟩ := L.over s5 L5
        have hps := hps.via (tks_of k6 (by intro e he ys; simp only [List.mem_cons, List.not_mem_nil, or_false] at he; rcases he with rfl | rfl <;> (intro z; cases z)))
        have L : Led B6 H5 [(pw, .lst (as5.map V.ref)), (dd, .dT kvs), (st, .lst (as.map V.ref))] := L
        have hkey := hkey row hrm
        rw [take_snoc hrw] at hN
        have hN : ∀ σ' H', (∃ y4 y5 B3 kvs keys, σ' = [some (.ref a), some (.ref st), some (.int (t : Nat)), some (.ref dd), y4, y5] ∧ Same B2 B3 ∧ KeysAt kvs keys ∧ KeyOk (t + 2) keys ∧ (∀ x, x ∈ keys ↔ (∃ r ∈ rows.take i, x ∈ rowsFrom ways r (lsAt (nmOf ms) t)) ∨ x ∈ rowsFrom ways row (lsAt (nmOf ms) t)) ∧ Led B3 H' [(dd, .dT kvs), (st, .lst (as.map V.ref))]) → N σ' H' := by
          rintro σ' H' ⟨z4, z5, B9, kv9, k9, e9, s9, a9, b9, c9, d9⟩
          refine hN σ' H' ⟨z4, z5, B9, kv9, k9, e9, s9, a9, b9, fun x => ?_, d9⟩
          rw [c9]
          constructor
          · rintro (⟨r, hr, hx⟩ | hx)
            · exact ⟨r, List.mem_append_left _ hr, hx⟩
            · exact ⟨row, List.mem_append_right _ (List.mem_singleton.mpr rfl), hx⟩
          · rintro ⟨r, hr, hx⟩
            rcases List.mem_append.mp hr with z | z
            · exact .inl ⟨r, z, hx⟩
            · rw [List.mem_singleton.mp z] at hx; exact .inr hx
        generalize rowsFrom ways row (lsAt (nmOf ms) t) = R at *
        refine ⟨⟨_, L.lstAt (by walk_at "mem")⟩, ?_⟩
        refine loop_list (xs := as5.map V.ref) (fun j σ' H' => ∃ y5 B7 kvs keys, σ' = [some (.ref a), some (.ref st), some (.int (t : Nat)), some (.ref dd), some (.ref c), y5] ∧ Same B6 B7 ∧ KeysAt kvs keys ∧ KeyOk (t + 2) keys ∧ (∀ x, x ∈ keys ↔ (∃ r ∈ rows.take i, x ∈ rowsFrom ways r (lsAt (nmOf ms) t)) ∨ x ∈ R.take j) ∧ Led B7 H' [(pw, .lst (as5.map V.ref)), (dd, .dT kvs), (st, .lst (as.map V.ref))]) ⟨_, B6, kvs, keys, rfl, Same.refl _, hk, hko, fun x => by rw [hkm, List.take_zero]; exact ⟨.inl, fun z => z.elim id fun w => absurd w List.not_mem_nil⟩, L⟩ (fun j σ' H' _ h => ?_) (fun j x σ' H' N2 hx h hN2 => ?_) (fun σ' H' h => ?_)
        · obtain ⟨y5, B7, kvs, keys, rfl, s7, hk, hko, hkm, L⟩ := h
          exact L.lstAt (by walk_at "mem")
        · obtain ⟨y5, B7, kvs, keys, rfl, s7, hk, hko, hkm, L⟩ := h
          obtain ⟨c2, hc2, rfl⟩ := ref_at hx
          obtain ⟨x, hxr, hcx⟩ := paired_get hps hc2
          have hcx : B6 c2 = some (.tup (nv x)) := hcx
          have hxk := hkey x (List.mem_of_getElem? hxr)
          have hfew : kvs.length < sizeLine := by
            have e1 : kvs.length = keys.length := by have := congrArg List.length hk; rwa [List.length_map, List.length_map] at this
            rw [e1]
            exact size_few (rows_few (k := t + 2) (by omega) hko.nd hko.bx)
          walk_at "v1"
          refine DPutK.t L (k := rk x) (by walk_at "mem") (by rw [rk_kV]; exact (s7.trans L.sm) _ _ hcx) hfew (by walk_at "put") fun HB L => ?_
          refine hN2 _ _ ⟨_, B7, _, keyAdd keys x, rfl, s7, hk.put, hko.add hxk, fun y => ?_, L⟩
          rw [keyAdd_mem, hkm, take_snoc hxr, List.mem_append, List.mem_singleton, or_assoc]
        · obtain ⟨y5, B7, kvs, keys, rfl, s7, hk, hko, hkm, L⟩ := h
          rw [List.length_map, Paired.length hps, List.take_length] at hkm
          exact hN _ _ ⟨_, _, B7, kvs, keys, rfl, s3.trans (s6.trans s7), hk, hko, hkm, L.sel (.skip .all)⟩
      · obtain ⟨y4, y5, B3, kvs, keys, rfl, s3, hk, hko, hkm, L⟩ := h
        rw [List.length_map, Paired.length hrs, List.take_length] at hkm
        have hkm : ∀ x, x ∈ keys ↔ RowAt ways (nmOf ms) ms.length (t + 1) x := fun x => by
          rw [hkm]
          exact ⟨fun ⟨r, hr, hx⟩ => ⟨r, (hmem r).mp hr, hx⟩, fun ⟨r, hr, hx⟩ => ⟨r, (hmem r).mpr hr, hx⟩⟩
        walk_at "v1"
        walk_at "v2"
        refine NewK.of L fun e0 H5 L => ?_
        refine EqEK.k (L.at (by walk_at "mem")) (L.at (by walk_at "mem")) ?_
        have L : Led B3 H5 [(dd, .dT kvs), (st, .lst (as.map V.ref))] := L.sel (.skip .all)
        cases hkv : kvs with
        | nil =>
          have hk0 : keys = [] := by
            rw [hkv] at hk
            cases keys with
            | nil => rfl
            | cons _ _ => cases hk
          rw [if_pos (by rfl)]
          walk_at "v1"
          refine q _ (some t) (s2.trans (s3.trans L.sm)) (stuck_some (RowAt.prev hr0) hr0 h0 ?_)
          rintro ⟨x, hx⟩
          have := (hkm x).mpr hx
          rw [hk0] at this
          cases this
        | cons kv0 kvr =>
          rw [← hkv]
          have hk0 : keys ≠ [] := by
            intro z
            rw [hkv, z] at hk
            cases hk
          rw [if_neg (by rw [hkv]; intro z; cases z)]
          walk_at "v1"
          refine LstDK.of L (L.at (by walk_at "mem")) (by intro e he ys; simp only [List.mem_cons, List.not_mem_nil, or_false] at he; rcases he with rfl | rfl <;> (intro z; cases z)) fun st2 bs B5 H8 s5 hbs L => ?_
          walk_at "v1"
          exact ⟨ms.length - (t + 1), by omega, t + 1, keys, bs, st2, _, _, _, B5, rfl, s2.trans (s3.trans s5), keys_rows2 hbs hk, L.sel (.cons .hd .nil), hk0, hkm, by omega, rfl⟩
    · rw [if_neg (by omega)]
      walk_at "v1"
      exact q _ none (s2.trans L.sm) (stuck_none (hN.1.imp fun z => Nat.ne_of_lt z) (RowAt.prev hr0) hr0 (by omega))
/-! cut law_told -/
def sp_law_told (K : PySem.W.Frag) (d : Ad) : Sp := fun vs H Q _ => ∃ (a : Addr) (ms : List Nat), vs = [.ref a] ∧ SqL K H a (nv ms) ∧ NL ms ∧
  (stkOf ms = none → ∀ p ts B' H', Same H B' → RtsAt B' ts (rtFor ms) → Led B' H' [(p, .lst (ts.map V.ref))] → Q (.ref p) H') ∧
  (∀ (t : Nat) H', stkOf ms = some t → Same H H' → Q (.int (t : Nat)) H')
theorem ok_law_told (m : Mo P K mg d) (sm : SM bs) (G_routing_for : FnOk P w K mg bs (L2.CX P w) 7 d.a_routing_for d.fd_routing_for ["names"] (sp_routing_for K d)) : Fg P w K mg bs CX0 8 d.a_law_told d.fd_law_told ["names"] (sp_law_told K d) := by
  refine ok (n := 7) m.F_law_told sc_law_told (fun vs H Q E h => ?_) (fun cdv A fr s H vs Q E hg hr h => ?_)
  · obtain ⟨a, ms, rfl, hS, hN, q, q2⟩ := h
    rfl
  · obtain ⟨a, ms, rfl, hS, hN, q, q2⟩ := h
    refine ⟨_, (pss_one (ps_try_as (i := 1) rfl rfl sc_law_told.nd rfl rfl ⟨rfl, by decide, .inl m.g_Impossible⟩ takes0 (fun W pn xe tk po => (pss_one (ps_ret (pg_call (Fg.of G_routing_for) hg (hr.mono (by decide)) (by rfl) m.g_routing_for m.F_routing_for.kp m.b_routing_for .nil (fun σ => passAt tk σ) (pa_cons (pv 0) pa_nil)))))
      (fun a oe cls d pn hz hf => (pss_one (ps_ret (pe_xf m.O_Impossible.X m.O_Impossible.no hz hf (pv 1))))))), ?_⟩
    walk_at "v1"
    refine ⟨a, ms, rfl, hS, hN, fun e p ts B' H' s' hts L => ?_, fun t dx H' e s' hx => ?_⟩
    · walk_at "v1"
      exact q e p ts B' H' s' hts L
    refine wAs.of (exm_up m.s_Impossible m.D_Impossible m.t_Impossible m.e_Impossible_Impossible) fun a' ha' => ?_
    walk_at "v1"
    exact XfK.of hx (q2 t H' e s')
/-! cut law_is_routing -/
theorem dpN {K : PySem.W.Frag} {H : Hp} : ∀ l : List Nat, DpAll K H (nv l) (l.map fun (p : Nat) => PyData.int (p : Int))
  | [] => .nil
  | p :: r => .cons (.int _) (dpN r)
theorem neN {K : PySem.W.Frag} {H : Hp} {a b : Addr} {l : List Nat} {Q : VK} (h : SqL K H a (nv l)) (h2 : SqL K H b (nv l)) (q : Q (.bl false) H) : rNeD K (.ref a) (.ref b) H Q := by
  have g : Eqd 2 (.list (l.map fun (p : Nat) => PyData.int (p : Int))) := Eqd.lst fun x hx => by obtain ⟨p, _, rfl⟩ := List.mem_map.mp hx; exact Eqd.int _
  refine NeD.of (.lst h (dpN l)) (.lst h2 (dpN l)) (g.sh (by decide)) (g.sh (by decide)) ?_
  rw [SeqAt.eqv_refl _ g.c]
  exact q
def sp_law_is_routing (K : PySem.W.Frag) : Sp := fun vs H Q _ => ∃ (a b : Addr) (ms : List Nat) (ts : List Addr) (rows : List Rt), vs = [.ref a, .ref b] ∧ SqL K H a (nv ms) ∧ NL ms ∧ H b = some (.lst (ts.map V.ref)) ∧ RtsAt H ts rows ∧ Acc (nmOf ms) (fun y => if y = 0 then ms.length else 0) (-1) rows ∧ (∀ x ∈ rows, x.1 ≤ 50 ∧ x.2.2.1 ≤ 50) ∧ rows.length ≤ 100 ∧
  ∀ H', Same H H' → Q (.bl true) H'
theorem ok_law_is_routing (m : Mo P K mg d) (sm : SM bs) : Fg P w K mg bs CX0 1 d.a_law_is_routing d.fd_law_is_routing ["names", "value"] (sp_law_is_routing K) := by
  refine ok (n := 0) m.F_law_is_routing sc_law_is_routing (fun vs H Q E h => ?_) (fun cdv A fr s H vs Q E hg hr h => ?_)
  · obtain ⟨a, b, ms, ts, rows, rfl, hS, hN, hb, hts, hacc, hbd, hrl, q⟩ := h
    rfl
  · obtain ⟨a, b, ms, ts, rows, rfl, hS, hN, hb, hts, hacc, hbd, hrl, q⟩ := h
    refine ⟨_, (pss_cons (ps_if (pt_not (pt_val (pe_callB cr_is (by rfl) m.n_isinstance (by decide +kernel) (pa_cons (pv 1) (pa_cons (pe_bltn (v := .ty "list") (by rfl) m.n_list (by decide +kernel) rfl) pa_nil)))))
      (pss_one (ps_ret pe_bl))
      pss_nil)
      (pss_cons (ps_par (i := 2) (j := 3) (by rfl) sc_law_is_routing.nd rfl rfl (by decide) rfl rfl (pa_cons (pe_disp (pps_cons pe_int (pe_callB cr_len (by rfl) m.n_len (by decide +kernel) (pa_cons (pv 0) pa_nil)) pps_nil) (by rfl) (by rfl) (fun z => by cases z) (by decide)) (pa_cons (pe_un un_neg pe_int) pa_nil)) (by rfl))
      (pss_cons (ps_for PassesOwn.never rfl (pi_list (pv 1)) (pg_name (i := 4) sc_law_is_routing.nd rfl (.inl rfl))
      (pss_cons (ps_if (PW.pt (pw_or (pt_not (pt_val (pe_callB cr_is (by rfl) m.n_isinstance (by decide +kernel) (pa_cons (pv 4) (pa_cons (pe_bltn (v := .ty "tuple") (by rfl) m.n_tuple (by decide +kernel) rfl) pa_nil))))) (pw_or1 (pt_cmpR op_ne (pe_callB cr_len (by rfl) m.n_len (by decide +kernel) (pa_cons (pv 4) pa_nil)) pe_int (nomark _)))))
      (pss_one (ps_ret pe_bl))
      pss_nil)
      (pss_cons (ps_if (pt_cmpR (op_neD hr.units) (pe_lc (own := [("number", 11)]) (by rfl) sc_law_is_routing.nd (pi_tup (pv 4)) (blkOk_by (own := [("number", 11)]) (N := ["names", "value", "coming", "seen", "row", "name", "entered", "right", "down", "diagonal", "later", "number"]) (sc := defScope s_law_is_routing) (by decide +kernel)) (fun _ _ _ _ _ => by exact (pg_name (i := 11) sc_law_is_routing.nd rfl (.inl rfl))) (fun _ _ _ _ _ => by exact (pts_one (PW.pt (pw_or (pt_not (pt_val (pe_callB (show CallR _ _ (rIs K) from cr_is) (by rfl) m.n_isinstance (by decide +kernel) (pa_cons (pv 11) (pa_cons (pe_bltn (v := .ty "int") (by rfl) m.n_int (by decide +kernel) rfl) pa_nil))))) (pw_or (pt_val (pe_callB (show CallR _ _ (rIs K) from cr_is) (by rfl) m.n_isinstance (by decide +kernel) (pa_cons (pv 11) (pa_cons (pe_bltn (v := .ty "bool") (by rfl) m.n_bool (by decide +kernel) rfl) pa_nil)))) (pw_or1 (pt_cmpR op_lt (pv 11) pe_int (nomark _)))))))) (fun _ _ _ _ _ => by exact pe_int)) (pe_lst pa_nil) (nomark _))
      (pss_one (ps_ret pe_bl))
      pss_nil)
      (pss_cons (ps_asg (pv 4) (show PG _ _ (gTup K 4 _) from pg_tup (by rfl) (pgs_cons (pg_name (i := 5) sc_law_is_routing.nd rfl (.inl rfl)) (pgs_cons (pg_name (i := 6) sc_law_is_routing.nd rfl (.inl rfl)) (pgs_cons (pg_name (i := 7) sc_law_is_routing.nd rfl (.inl rfl)) (pgs_cons (pg_name (i := 8) sc_law_is_routing.nd rfl (.inl rfl)) pgs_nil))))))
      (pss_cons (ps_if (PW.pt (pw_or (pt_cmpR op_le (pv 5) (pv 3) (nomark _)) (pw_or (pt_cmpR op_ne (pe_dget2 (Nat.lt_of_le_of_lt (Nat.add_le_add_left (by decide) _) hr.units) (pv 2) (pv 5) pe_int ⟨by rfl, by rfl, by rfl, by rfl⟩) (pv 6) (nomark _)) (pw_or1 (pt_cmpR op_eq (pv 6) pe_int (nomark _))))))
      (pss_one (ps_ret pe_bl))
      pss_nil)
      (pss_cons (ps_if (PW.pt (pw_or (pt_cmpR op_ne (pe_op op_sub (pe_op op_sub (pv 6) (pv 7)) (pv 8)) (pe_callTy cr_intB (by rfl) m.n_int (by decide +kernel) (pa_cons (pe_cmpR op_in_seq (pv 5) (pv 0) rfl) pa_nil)) (nomark _)) (pw_or1 (PW.pt (pw_and (pt_cmpR op_notIn_seq (pv 5) (pv 0) rfl) (pw_and1 (pt_cmpR op_eq (pe_callB (cr_min2 rfl) (by rfl) m.n_min (by decide +kernel) (pa_cons (pv 7) (pa_cons (pv 8) pa_nil))) pe_int (nomark _))))))))
      (pss_one (ps_ret pe_bl))
      pss_nil)
      (pss_cons (ps_par (i := 3) (j := 9) (by rfl) sc_law_is_routing.nd rfl rfl (by decide) rfl rfl (pa_cons (pv 5) (pa_cons pe_int pa_nil)) (by rfl))
      (pss_cons (ps_while PassesOwn.never (pt_cmpR op_le (pe_op op_fdiv (pe_op op_mul (pe_op op_add (pv 9) pe_int) (pe_op op_add (pv 9) pe_int)) pe_int) (pv 5) (nomark _))
      (pss_one (ps_asg (pe_op op_add (pv 9) pe_int) (pg_name (i := 9) sc_law_is_routing.nd rfl (.inl rfl)))))
      (pss_cons (ps_expr (pe_dpop1 (pv 2) (pv 5) ⟨by rfl, by rfl, by rfl, by rfl⟩))
      (pss_one (ps_for PassesOwn.never rfl (pi_list (pe_lst (pa_cons (pe_tup (pa_cons (pe_op op_add (pe_op op_add (pv 5) (pv 9)) pe_int) (pa_cons (pv 8) pa_nil))) (pa_cons (pe_tup (pa_cons (pe_op op_add (pe_op op_add (pv 5) (pv 9)) pe_int) (pa_cons (pv 7) pa_nil))) pa_nil)))) (show PG _ _ (gTup K 2 _) from pg_tup (by rfl) (pgs_cons (pg_name (i := 10) sc_law_is_routing.nd rfl (.inl rfl)) (pgs_cons (pg_name (i := 11) sc_law_is_routing.nd rfl (.inl rfl)) pgs_nil)))
      (pss_one (ps_if (pt_cmpR op_gt (pv 11) pe_int (nomark _))
      (pss_one (ps_dput (Nat.lt_of_le_of_lt (Nat.add_le_add_left (by decide) _) hr.units) (pv 2) (pv 10) (pe_op op_add (pe_dget2 (Nat.lt_of_le_of_lt (Nat.add_le_add_left (by decide) _) hr.units) (pv 2) (pv 10) pe_int ⟨by rfl, by rfl, by rfl, by rfl⟩) (pv 11)) rfl))
      pss_nil)))))))))))))
      (pss_one (ps_ret (pe_cmpR (op_eqE hr.units) (pv 2) pe_dnewK (nomark _))))))), ?_⟩
    walk_at "v2"
    refine IsK.lst (b := true) hb (by decide +kernel) ?_
    rw [show (!true) = false from rfl, if_neg Bool.false_ne_true]
    walk_at "v2"
    refine NewK.of (Led.nil H) fun pc H2 L => ?_
    refine LenK.ofL (L.sm.seq hS) ?_
    rw [nv_len]
    refine DoneK.of [(.inl 0, .int (ms.length : Int))] L (.head _) rfl (by show 1 ≤ 15; decide) .hd fun H3 L => ?_
    have hc0 : comK (fun y => if y = 0 then ms.length else 0) [(.inl 0, .int (ms.length : Int))] := by
      refine ⟨fun y => ?_, fun kv hkv => ⟨0, by rw [List.mem_singleton.mp hkv]; rfl⟩⟩
      have hn := hN.2.1
      by_cases e : y = 0
      · have e1 : (fun y => if y = 0 then ms.length else 0) y = ms.length := if_pos e
        rw [e1, if_neg (by omega)]
        unfold L2.valV
        rw [List.find?_cons, decide_eq_true (show (Sum.inl 0 : Key) = .inl (y : Int) by rw [e]; rfl)]
        rfl
      · have e1 : (fun y => if y = 0 then ms.length else 0) y = 0 := if_neg e
        have e2 : ¬ (Sum.inl 0 : Key) = .inl (y : Int) := fun z => e (keyN_inj z).symm
        rw [e1, if_pos rfl]
        unfold L2.valV
        rw [List.find?_cons, decide_eq_false e2]
        rfl
    have L : Led H H3 [(pc, .dK [(.inl 0, .int (ms.length : Int))])] := L
    walk_at "v1"
    walk_at "v2"
    refine ⟨⟨_, .inl (.inl (L.sm _ _ hb))⟩, ?_⟩
    refine loop_list (xs := ts.map V.ref) (fun k σ H' => ∃ last y4 y5 y6 y7 y8 y9 y10 y11 c kvs B', σ = [some (.ref a), some (.ref b), some (.ref pc), some (.int last), y4, y5, y6, y7, y8, y9, y10, y11] ∧ Same H B' ∧ comK c kvs ∧ kvs.length ≤ 1 + 2 * k ∧ Acc (nmOf ms) c last (rows.drop k) ∧ Led B' H' [(pc, .dK kvs)]) ⟨-1, _, _, _, _, _, _, _, _, _, _, H, rfl, Same.refl _, hc0, Nat.le_refl _, hacc, L⟩ (fun k σ H' hk h => ?_) (fun k x σ H' N hx h hN2 => ?_) (fun σ H' h => ?_)
    · obtain ⟨_, _, _, _, _, _, _, _, _, _, _, B', _, s', _, _, _, L⟩ := h
      exact .inl (.inl ((s'.trans L.sm) _ _ hb))
    · obtain ⟨last, y4, y5, y6, y7, y8, y9, y10, y11, c, kvs, B', rfl, s', hc, hkl, hacc, L⟩ := h
      rw [List.getElem?_map] at hx
      obtain ⟨t, ht, rfl⟩ : ∃ t, ts[k]? = some t ∧ x = .ref t := by
        cases z : ts[k]? with
        | none => rw [z] at hx; cases hx
        | some t => rw [z] at hx; cases hx; exact ⟨t, rfl, rfl⟩
      obtain ⟨y, hy, hyt⟩ := paired_get hts ht
      have hkr : k < rows.length := (List.getElem?_eq_some_iff.mp hy).1
      rw [List.drop_eq_getElem_cons hkr, show rows[k] = y from (List.getElem?_eq_some_iff.mp hy).2] at hacc
      obtain ⟨hla, hi, hce, h0, hw, hacc⟩ := hacc
      obtain ⟨hb50, he50⟩ := hbd y (List.mem_of_getElem? hy)
      have hyB : B' t = some (.tup ((rtI y).map V.int)) := s' _ _ hyt
      walk_at "v1"
      walk_at "v2"
      refine IsK.tup (b := true) (L.sm _ _ hyB) (by decide +kernel) ?_
      rw [show (!true) = false from rfl, if_neg Bool.false_ne_true]
      refine LenK.ofT (.inl (.inl (L.sm _ _ hyB))) ?_
      rw [show ((((rtI y).map V.int).length : Nat) : Int) = 4 from rfl, decide_eq_true rfl, show (!true) = false from rfl, if_neg Bool.false_ne_true]
      walk_at "v2"
      refine ⟨⟨_, .inl (.inl (L.sm _ _ hyB))⟩, ?_⟩
      refine comp_tup (xs := (rtI y).map V.int) (fun j z acc H' => acc = [] ∧ Led B' H' [(z, .lst []), (pc, .dK kvs)]) (fun z hz => ⟨rfl, L.new hz⟩) (fun j z acc H' h => .inl (.inl (h.2.sm _ _ hyB))) ?_ ?_
      rotate_left
      · rintro j z acc H2 v N hx ⟨rfl, L⟩ hN
        have hnn : ∀ i ∈ rtI y, 0 ≤ i := fun i hi => by
          unfold rtI at hi
          simp only [List.mem_cons, List.not_mem_nil, or_false] at hi
          rcases hi with z | z | z | z <;> (rw [z]; omega)
        rw [List.getElem?_map] at hx
        obtain ⟨i, hi, rfl⟩ : ∃ i : Int, (rtI y)[j]? = some i ∧ v = .int i := by
          cases z : (rtI y)[j]? with
          | none => rw [z] at hx; cases hx
          | some i => rw [z] at hx; cases hx; exact ⟨i, rfl, rfl⟩
        have := hnn i (List.mem_of_getElem? hi)
        unfold TurnK
        walk_at "vc"
        rw [if_neg (by omega)]
        exact hN _ _ ⟨rfl, L⟩
      rintro z0 acc H5 ⟨rfl, L⟩
      refine NewK.of L fun e0 H6 L => ?_
      refine neN (l := []) (L.lstAt (by walk_at "mem")) (L.lstAt (.head _)) ?_
      refine ⟨false, rfl, ?_⟩
      rw [if_neg Bool.false_ne_true]
      have L : Led B' H6 [(pc, .dK kvs)] := L.sel (.skip (.skip .all))
      walk_at "v2"
      refine UnpK.of (xs := (rtI y).map V.int) (.inl (.inl (L.sm _ _ hyB))) rfl ?_
      unfold rtI
      walk_at "v1"
      walk_at "v2"
      rw [if_neg (by omega)]
      refine ⟨.inl ⟨kvs, .inl (L.at (.head _))⟩, _, DGet.k (k := .inl (rtN y : Int)) (L.at (.head _)), ?_⟩
      have ho : (L2.valV kvs (.inl (rtN y : Int))).getD (V.int 0) = V.int (y.2.2.1 : Nat) := by
        rw [hc.1, hce, if_neg (by omega)]
        rfl
      rw [ho]
      refine ⟨rfl, ?_⟩
      rw [decide_eq_true rfl, show (!true) = false from rfl, if_neg Bool.false_ne_true, if_neg (by omega)]
      walk_at "v2"
      have hw0 := ways_mem.mp hw
      have sS : SqL K H6 a (nv ms) := (s'.trans L.sm).seq hS
      refine ⟨nv ms, .inl sS, rfl, flat_nv ms, ?_⟩
      rw [if_neg Bool.false_ne_true, inV_nv]
      obtain ⟨il, hil⟩ : ∃ il, il = decide (rtN y ∈ ms) := ⟨_, rfl⟩
      have hil2 : nmOf ms (rtN y) = il := hil.symm
      rw [hil2] at hw0
      rw [← hil]
      have c1 : ((y.2.2.1 : Nat) : Int) - (y.2.2.2.1 : Nat) - (y.2.2.2.2 : Nat) = if il = true then 1 else 0 := by
        rcases hw0 with ⟨z, h⟩ | ⟨z, h, _⟩
        · rw [z, if_pos rfl]; omega
        · rw [z, if_neg Bool.false_ne_true]; omega
      rw [decide_eq_true c1, show (!true) = false from rfl, if_neg Bool.false_ne_true]
      refine ⟨nv ms, .inl sS, rfl, flat_nv ms, ?_⟩
      rw [if_pos rfl, inV_nv, ← hil]
      refine (fun (step : (?P : Prop)) => ?_) ?_
      rotate_left
      · rcases hw0 with ⟨z, h⟩ | ⟨z, h, h3⟩
        · rw [z, show (!true) = false from rfl, if_neg Bool.false_ne_true]
          exact step
        · rw [z, show (!false) = true from rfl, if_pos rfl, if_neg (by omega)]
          exact step
      walk_at "v2"
      rw [s_seq]
      refine ⟨fun mm σ H' => ∃ dg : Nat, mm = y.1 - dg ∧ dg ≤ y.1 ∧ H' = H6 ∧ σ = [some (.ref a), some (.ref b), some (.ref pc), some (.int (rtN y : Nat)), some (.ref t), some (.int (rtN y : Nat)), some (.int (y.2.2.1 : Nat)), some (.int (y.2.2.2.1 : Nat)), some (.int (y.2.2.2.2 : Nat)), some (.int (dg : Nat)), y10, y11], ⟨_, 0, rfl, Nat.zero_le _, rfl, rfl⟩, ?_⟩
      rintro mm σ H' ⟨dg, rfl, hdg, rfl, rfl⟩
      have hdg50 : dg ≤ 50 := by omega
      walk_at "v1"
      refine ⟨by walk_at "sd", by walk_at "sd", ?_⟩
      have hti : ((dg : Int) + 1) * ((dg : Int) + 2) / 2 = ((tri (dg + 1) : Nat) : Int) := by
        rw [← tri_int (dg + 1)]
        rfl
      have hts1 := tri_succ dg
      have hts2 := tri_succ y.1
      have hrn : rtN y = tri y.1 + y.2.1 := rfl
      rw [hti]
      by_cases e : tri (dg + 1) ≤ rtN y
      · rw [if_pos (by omega)]
        have hlt : dg < y.1 := by
          apply Classical.byContradiction
          intro z
          rw [show dg = y.1 by omega] at e
          omega
        exact ⟨_, fun _ _ z => z, y.1 - (dg + 1), by omega, dg + 1, rfl, hlt, rfl, rfl⟩
      rw [if_neg (by omega)]
      have hdy : dg = y.1 := by
        apply Classical.byContradiction
        intro z
        have := tri_mono (show dg + 1 ≤ y.1 by omega)
        omega
      subst hdy
      walk_at "v2"
      refine ⟨.inl ⟨kvs, .inl (L.at (.head _))⟩, kvs, .inl (rtN y : Int), V.int (y.2.2.1 : Nat), L.at (.head _), rfl, by rw [hc.1, hce, if_neg (by omega)], ?_⟩
      have L := L.put (o' := .dK (dropK kvs (.inl (rtN y : Int)))) .hd
      have hcd := hc.drop (rtN y)
      have hdl : (dropK kvs (.inl (rtN y : Int))).length ≤ kvs.length := List.length_filter_le _ _
      have q1 : ((rtN y : Nat) : Int) + (y.1 : Nat) + 1 = ((tri (y.1 + 1) + y.2.1 : Nat) : Int) := by omega
      have q2 : ((rtN y : Nat) : Int) + (y.1 : Nat) + 2 = ((tri (y.1 + 1) + y.2.1 + 1 : Nat) : Int) := by omega
      rw [q1, q2]
      obtain ⟨cj, hcj⟩ : ∃ cj : Nat → Nat → Nat, cj = fun j => match j with
        | 0 => fun z => if z = rtN y then 0 else c z
        | 1 => fun z => (if z = rtN y then 0 else c z) + (if z = tri (y.1 + 1) + y.2.1 then y.2.2.2.2 else 0)
        | _ => stepC c y := ⟨_, rfl⟩
      have hcs0 : (fun z => cj 0 z + if z = tri (y.1 + 1) + y.2.1 then y.2.2.2.2 else 0) = cj 1 := by rw [hcj]; rfl
      have hcs1 : (fun z => cj 1 z + if z = tri (y.1 + 1) + y.2.1 + 1 then y.2.2.2.1 else 0) = cj 2 := by rw [hcj]; rfl
      have hcd : comK (cj 0) (dropK kvs (.inl (rtN y : Int))) := by rw [hcj]; exact hcd
      refine NewK.of L fun t1 H7 L => ?_
      refine NewK.of L fun t2 H8 L => ?_
      refine NewK.of L fun pl H9 L => ?_
      refine ⟨⟨_, L.lstAt (.head _)⟩, ?_⟩
      refine loop_list (xs := [V.ref t1, V.ref t2]) (fun j σ H' => ∃ z10 z11 kv2, σ = [some (.ref a), some (.ref b), some (.ref pc), some (.int (rtN y : Nat)), some (.ref t), some (.int (rtN y : Nat)), some (.int (y.2.2.1 : Nat)), some (.int (y.2.2.2.1 : Nat)), some (.int (y.2.2.2.2 : Nat)), some (.int (y.1 : Nat)), z10, z11] ∧ comK (cj j) kv2 ∧ kv2.length ≤ kvs.length + j ∧ Led B' H' [(pl, .lst [V.ref t1, V.ref t2]), (t2, .tup [.int ((tri (y.1 + 1) + y.2.1 + 1 : Nat) : Int), .int (y.2.2.2.1 : Nat)]), (t1, .tup [.int ((tri (y.1 + 1) + y.2.1 : Nat) : Int), .int (y.2.2.2.2 : Nat)]), (pc, .dK kv2)]) ⟨_, _, _, rfl, hcd, by omega, L⟩ (fun j σ H' _ h => ?_) (fun j x σ H' N3 hx h hN3 => ?_) (fun σ H' h => ?_)
      · obtain ⟨_, _, _, _, _, _, L⟩ := h
        exact L.lstAt (.head _)
      · obtain ⟨z10, z11, kv2, rfl, hc2, hl2, L⟩ := h
        have hj : j = 0 ∧ x = .ref t1 ∨ j = 1 ∧ x = .ref t2 := by
          match j, hx with
          | 0, hx => cases hx; exact .inl ⟨rfl, rfl⟩
          | 1, hx => cases hx; exact .inr ⟨rfl, rfl⟩
          | (n + 2), hx => cases hx
        rcases hj with ⟨rfl, rfl⟩ | ⟨rfl, rfl⟩
        · walk_at "v1"
          refine UnpK.of (L.tupAt (a := t1) (by walk_at "mem")) rfl ?_
          walk_at "v1"
          by_cases hk0 : 0 < y.2.2.2.2
          · rw [if_pos (by omega)]
            refine ⟨.inl ⟨kv2, .inl (L.at (by walk_at "mem"))⟩, _, DGet.k (k := .inl ((tri (y.1 + 1) + y.2.1 : Nat) : Int)) (L.at (by walk_at "mem")), ?_⟩
            have ho : (L2.valV kv2 (.inl ((tri (y.1 + 1) + y.2.1 : Nat) : Int))).getD (V.int 0) = V.int ((cj 0) (tri (y.1 + 1) + y.2.1) : Nat) := by
              rw [hc2.1 (tri (y.1 + 1) + y.2.1)]
              by_cases z : (cj 0) (tri (y.1 + 1) + y.2.1) = 0
              · rw [if_pos z, z]; rfl
              · rw [if_neg z]; rfl
            rw [ho]
            walk_at "v1"
            refine DPutK.k (k := .inl ((tri (y.1 + 1) + y.2.1 : Nat) : Int)) L (by walk_at "mem") (Nat.lt_of_lt_of_le (m := 1000) (by omega) (by decide)) (by walk_at "put") fun H11 L => ?_
            have hp := hc2.put (x := tri (y.1 + 1) + y.2.1) hk0
            rw [hcs0] at hp
            exact hN3 _ _ ⟨_, _, _, rfl, hp, Nat.le_trans (length_putK _ _ _) (by omega), L⟩
          · rw [if_neg (by omega)]
            have hz : (fun z => cj 0 z + if z = tri (y.1 + 1) + y.2.1 then y.2.2.2.2 else 0) = cj 0 := by
              funext z
              rw [show y.2.2.2.2 = 0 by omega, ite_self]
              rfl
            rw [hcs0] at hz
            rw [← hz] at hc2
            exact hN3 _ _ ⟨_, _, _, rfl, hc2, by omega, L⟩
        · walk_at "v1"
          refine UnpK.of (L.tupAt (a := t2) (by walk_at "mem")) rfl ?_
          walk_at "v1"
          by_cases hk0 : 0 < y.2.2.2.1
          · rw [if_pos (by omega)]
            refine ⟨.inl ⟨kv2, .inl (L.at (by walk_at "mem"))⟩, _, DGet.k (k := .inl ((tri (y.1 + 1) + y.2.1 + 1 : Nat) : Int)) (L.at (by walk_at "mem")), ?_⟩
            have ho : (L2.valV kv2 (.inl ((tri (y.1 + 1) + y.2.1 + 1 : Nat) : Int))).getD (V.int 0) = V.int ((cj 1) (tri (y.1 + 1) + y.2.1 + 1) : Nat) := by
              rw [hc2.1 (tri (y.1 + 1) + y.2.1 + 1)]
              by_cases z : (cj 1) (tri (y.1 + 1) + y.2.1 + 1) = 0
              · rw [if_pos z, z]; rfl
              · rw [if_neg z]; rfl
            rw [ho]
            walk_at "v1"
            refine DPutK.k (k := .inl ((tri (y.1 + 1) + y.2.1 + 1 : Nat) : Int)) L (by walk_at "mem") (Nat.lt_of_lt_of_le (m := 1000) (by omega) (by decide)) (by walk_at "put") fun H11 L => ?_
            have hp := hc2.put (x := tri (y.1 + 1) + y.2.1 + 1) hk0
            rw [hcs1] at hp
            exact hN3 _ _ ⟨_, _, _, rfl, hp, Nat.le_trans (length_putK _ _ _) (by omega), L⟩
          · rw [if_neg (by omega)]
            have hz : (fun z => cj 1 z + if z = tri (y.1 + 1) + y.2.1 + 1 then y.2.2.2.1 else 0) = cj 1 := by
              funext z
              rw [show y.2.2.2.1 = 0 by omega, ite_self]
              rfl
            rw [hcs1] at hz
            rw [← hz] at hc2
            exact hN3 _ _ ⟨_, _, _, rfl, hc2, by omega, L⟩
      · obtain ⟨z10, z11, kv2, rfl, hc2, hl2, L⟩ := h
        have hc2 : comK (cj 2) kv2 := hc2
        have hl2 : kv2.length ≤ kvs.length + 2 := hl2
        rw [show cj 2 = stepC c y by rw [hcj]; rfl] at hc2
        exact hN2 _ _ ⟨_, _, _, _, _, _, _, _, _, _, kv2, B', rfl, s', hc2, by omega, hacc, L.sel (.skip (.skip (.skip .all)))⟩
    · obtain ⟨last, y4, y5, y6, y7, y8, y9, y10, y11, c, kvs, B', rfl, s', hc, hkl, hacc, L⟩ := h
      have hrt : rows.length = ts.length := (Paired.length hts).symm
      rw [List.length_map, ← hrt, List.drop_length] at hacc
      have hz := hc.zero hacc
      subst hz
      walk_at "v1"
      refine NewK.of L fun p0 H9 L => ?_
      exact ⟨0, .inr ⟨[], .inl (L.at (by walk_at "mem")), rfl⟩, .inr ⟨[], .inl (L.at (.head _)), rfl⟩, q H9 (s'.trans L.sm)⟩
/-! cut law -/
theorem rtFor_facts {ms : List Nat} (hN : NL ms) (hst : stkOf ms = none) : Acc (nmOf ms) (fun y => if y = 0 then ms.length else 0) (-1) (rtFor ms) ∧ (rtFor ms).length ≤ 36 ∧ ∀ x ∈ rtFor ms, x.1 ≤ 8 ∧ x.2.1 ≤ x.1 ∧ x.2.2.1 ≤ 8 ∧ x.2.2.2.1 ≤ 8 ∧ x.2.2.2.2 ≤ 8 ∧ rtN x ≤ 44 := by
  have F := flow_bk (nm := nmOf ms) hN.2.1 hst
  refine ⟨flow_acc F hN.2.1, Nat.le_trans (rt_len _) (tri_mono hN.2.2), fun x hx => ?_⟩
  obtain ⟨t, i, h1, h2, h3, rfl⟩ := rt_mem hx
  have hb := F.bd t i (by omega) h2
  have hw := F.way t i h1 h2
  have h8 := hN.2.2
  have hrd : rB (stagesOf ways (nmOf ms) ms.length) ms.length t i ≤ eB (stagesOf ways (nmOf ms) ms.length) ms.length t i ∧ dB (stagesOf ways (nmOf ms) ms.length) ms.length t i ≤ eB (stagesOf ways (nmOf ms) ms.length) ms.length t i := by
    rcases ways_mem.mp hw with ⟨_, z⟩ | ⟨_, z, _⟩ <;> omega
  have h5 : tri t ≤ tri 8 := tri_mono (by omega)
  have h6 : tri 8 = 36 := rfl
  refine ⟨by dsimp only; omega, h2, by dsimp only; omega, by dsimp only; omega, by dsimp only; omega, ?_⟩
  unfold rtN
  dsimp only
  omega
def rtD (l : List Rt) : PyData := .list (l.map fun x => PyData.tuple ((rtI x).map PyData.int))
theorem rts_dq {K : PySem.W.Frag} {B H : Hp} (s : Same B H) : ∀ {ts : List Addr} {l : List Rt}, RtsAt B ts l → DqAll K H (ts.map V.ref) (l.map fun x => PyData.tuple ((rtI x).map PyData.int))
  | [], [], _ => .nil
  | a :: as, x :: l, .cons h r => .cons (.tup (.inl (.inl (s _ _ h))) (.cons (.int _) (.cons (.int _) (.cons (.int _) (.cons (.int _) .nil))))) (rts_dq s (ts := as) (l := l) r)
theorem rts_dp {K : PySem.W.Frag} {B H : Hp} (s : Same B H) : ∀ {ts : List Addr} {l : List Rt}, RtsAt B ts l → DpAll K H (ts.map V.ref) (l.map fun x => PyData.tuple ((rtI x).map PyData.int))
  | [], [], _ => .nil
  | a :: as, x :: l, .cons h r => .cons (.tup (.inl (.inl (s _ _ h))) (.cons (.int _) (.cons (.int _) (.cons (.int _) (.cons (.int _) .nil))))) (rts_dp s (ts := as) (l := l) r)
theorem rep_rts {K : PySem.W.Frag} {B H : Hp} {p : Addr} {ts : List Addr} {l : List Rt} {G : Str → Prop} (s : Same B H) (h : SqL K H p (ts.map V.ref)) (hts : RtsAt B ts l) (hl : l.length ≤ 36) (hb : ∀ x ∈ l, ∀ i ∈ rtI x, i.natAbs < 2 ^ 40) (q : G (rtD l).shown) : RepQ K (.ref p) H G := by
  refine ⟨rtD l, .lst h (rts_dq s hts), ?_, q⟩
  refine (Shq.lst (n := 300) (k := 3) fun d hd => ?_).up (by rw [List.length_map]; omega) (by decide)
  obtain ⟨x, hx, rfl⟩ := List.mem_map.mp hd
  refine (Shq.tup (n := 60) (k := 2) fun d hd => ?_).up (by rw [List.length_map]; show 4 * (60 + 2) + 2 ≤ 300; decide) (by decide)
  obtain ⟨i, hi, rfl⟩ := List.mem_map.mp hd
  exact (Shw.int (k := 40) (by decide) (by decide) (hb x hx i hi)).q.up (by decide) (by decide)
theorem rt_small {ms : List Nat} (hN : NL ms) (hst : stkOf ms = none) : ∀ x ∈ rtFor ms, ∀ i ∈ rtI x, i.natAbs < 2 ^ 40 := fun x hx i hi => by
  obtain ⟨h1, h2, h3, h4, h5, h6⟩ := (rtFor_facts hN hst).2.2 x hx
  unfold rtI at hi
  simp only [List.mem_cons, List.not_mem_nil, or_false] at hi
  rcases hi with z | z | z | z <;> (rw [z]; omega)
theorem RepK.toQ {K : PySem.W.Frag} {x : V} {H : Hp} {G : Str → Prop} (h : RepK K x H G) : RepQ K x H G := by
  obtain ⟨d, h1, h2, h3⟩ := h
  exact ⟨d, Dq.of h1, h2.q, h3⟩
theorem rep_t {K : PySem.W.Frag} {H : Hp} {t : Nat} {G : Str → Prop} (h : t < 9) (q : G (PyData.int (t : Nat)).shown) : RepQ K (.int (t : Nat)) H G := RepK.toQ (RepK.int 60 (by omega) q)
def sp_law (K : PySem.W.Frag) : Sp := fun vs H Q _ => ∃ (a : Addr) (ns : List Int), vs = [.ref a] ∧ SqL K H a (ns.map V.int) ∧ ns.length ≤ 63 ∧ ∀ H', Q (.bl true) H'
theorem ok_law (m : Mo P K mg d) (sm : SM bs) (G_routing_for : FnOk P w K mg bs (L2.CX P w) 7 d.a_routing_for d.fd_routing_for ["names"] (sp_routing_for K d)) (G_is_routing : FnOk P w K mg bs CX0 6 d.a_is_routing d.fd_is_routing ["names", "value"] (sp_is_routing K d)) (G_law_pot : Fg P w K mg bs CX0 1 d.a_law_pot d.fd_law_pot ["script", "k"] (sp_law_pot K)) (G_law_take : Fg P w K mg bs CX0 1 d.a_law_take d.fd_law_take ["pot", "many"] (sp_law_take K)) (G_law_list : Fg P w K mg bs CX0 3 d.a_law_list d.fd_law_list ["pot", "count"] (sp_law_list K)) (G_law_stuck : Fg P w K mg bs CX0 3 d.a_law_stuck d.fd_law_stuck ["names"] (sp_law_stuck K)) (G_law_told : Fg P w K mg bs CX0 8 d.a_law_told d.fd_law_told ["names"] (sp_law_told K d)) (G_law_is_routing : Fg P w K mg bs CX0 1 d.a_law_is_routing d.fd_law_is_routing ["names", "value"] (sp_law_is_routing K)) : Fg P w K mg bs CX0 9 d.a_law d.fd_law ["script"] (sp_law K) := by
  refine ok (n := 8) m.F_law sc_law (fun vs H Q E h => ?_) (fun cdv A fr s H vs Q E hg hr h => ?_)
  · obtain ⟨a, ns, rfl, hS, hl, fin⟩ := h
    rfl
  · obtain ⟨a, ns, rfl, hS, hl, fin⟩ := h
    refine ⟨_, (pss_cons (ps_for PassesOwn.never rfl (pi_range1 (by rfl) m.n_range (pa_cons (pe_callB (cr_max2 rfl) (by rfl) m.n_max (by decide +kernel) (pa_cons pe_int (pa_cons (pe_callB (cr_min2 rfl) (by rfl) m.n_min (by decide +kernel) (pa_cons pe_int (pa_cons (pe_callB cr_len (by rfl) m.n_len (by decide +kernel) (pa_cons (pv 0) pa_nil)) pa_nil))) pa_nil))) pa_nil)) (pg_name (i := 1) sc_law.nd rfl (.inl rfl))
      (pss_cons (ps_asg (pg_call G_law_pot hg (hr.mono (by decide)) (by rfl) m.g_law_pot m.F_law_pot.kp m.b_law_pot .nil (fun _ => passG) (pa_cons (pv 0) (pa_cons (pv 1) pa_nil))) (pg_name (i := 2) sc_law.nd rfl (.inl rfl)))
      (pss_one (ps_for PassesOwn.never rfl (pi_range1 (by rfl) m.n_range (pa_cons pe_int pa_nil)) (pg_name (i := 3) sc_law.nd rfl (.inl rfl))
      (pss_cons (ps_asg (pg_call G_law_list hg (hr.mono (by decide)) (by rfl) m.g_law_list m.F_law_list.kp m.b_law_list .nil (fun _ => passG) (pa_cons (pv 2) (pa_cons (pe_op op_add pe_int (pg_call G_law_take hg (hr.mono (by decide)) (by rfl) m.g_law_take m.F_law_take.kp m.b_law_take .nil (fun _ => passG) (pa_cons (pv 2) (pa_cons (pe_ix ix_list (pe_lst (pa_cons pe_int (pa_cons pe_int (pa_cons pe_int pa_nil)))) (pg_call G_law_take hg (hr.mono (by decide)) (by rfl) m.g_law_take m.F_law_take.kp m.b_law_take .nil (fun _ => passG) (pa_cons (pv 2) (pa_cons pe_int pa_nil))) (fun _ _ => rfl)) pa_nil)))) pa_nil))) (pg_name (i := 4) sc_law.nd rfl (.inl rfl)))
      (pss_cons (ps_par3 (i := 6) (j := 7) (l := 8) (by rfl) sc_law.nd rfl rfl rfl (by decide) (by decide) (by decide) rfl rfl rfl (pa_cons (pe_callB (call_reprQ hg hr sm) (by rfl) m.n_repr (by decide +kernel) (pa_cons (pv 4) pa_nil)) (pa_cons (pg_call G_law_stuck hg (hr.mono (by decide)) (by rfl) m.g_law_stuck m.F_law_stuck.kp m.b_law_stuck .nil (fun _ => passG) (pa_cons (pv 4) pa_nil)) (pa_cons (pg_call G_law_told hg (hr.mono (by decide)) (by rfl) m.g_law_told m.F_law_told.kp m.b_law_told .nil (fun _ => passG) (pa_cons (pv 4) pa_nil)) pa_nil))) (by rfl))
      (pss_cons (ps_asg (pe_callB (call_reprQ hg hr sm) (by rfl) m.n_repr (by decide +kernel) (pa_cons (pv 8) pa_nil)) (pg_name (i := 5) sc_law.nd rfl (.inl rfl)))
      (pss_cons (ps_if (pt_cmpR op_notN (pv 7) pe_non (nomark _))
      (pss_one (ps_if (pt_cmpR op_ne (pv 5) (pe_callB (call_reprQ hg hr sm) (by rfl) m.n_repr (by decide +kernel) (pa_cons (pv 7) pa_nil)) (nomark _))
      (pss_one (ps_ret pe_bl))
      pss_nil))
      (pss_one (ps_if (PW.pt (pw_or (pt_not (pt_val (pg_call G_law_is_routing hg (hr.mono (by decide)) (by rfl) m.g_law_is_routing m.F_law_is_routing.kp m.b_law_is_routing .nil (fun _ => passG) (pa_cons (pv 4) (pa_cons (pv 8) pa_nil))))) (pw_or1 (pt_cmpR op_notBl (pe_call G_is_routing (hr.mono (by decide)) (by rfl) m.g_is_routing m.F_is_routing.kp m.b_is_routing .nil pass0 (pa_cons (pv 4) (pa_cons (pv 8) pa_nil))) pe_bl (nomark _)))))
      (pss_one (ps_ret pe_bl))
      (pss_one (ps_expr (pe_bm PySem.F.plainAttrs_list PySem.F.slot_list_append PySem.F.type_list_append mt_append (pv 8) (pa_cons pe_str pa_nil)))))))
      (pss_one (ps_if (PW.pt (pw_or (pt_cmpR op_ne (pe_callB (call_reprQ hg hr sm) (by rfl) m.n_repr (by decide +kernel) (pa_cons (pg_call G_law_told hg (hr.mono (by decide)) (by rfl) m.g_law_told m.F_law_told.kp m.b_law_told .nil (fun _ => passG) (pa_cons (pv 4) pa_nil)) pa_nil)) (pv 5) (nomark _)) (pw_or1 (pt_cmpR op_ne (pe_callB (call_reprQ hg hr sm) (by rfl) m.n_repr (by decide +kernel) (pa_cons (pv 4) pa_nil)) (pv 6) (nomark _)))))
      (pss_one (ps_ret pe_bl))
      pss_nil))))))))))
      (pss_one (ps_ret (pe_cmpR (op_eqL hr.units) (pe_call G_routing_for (hr.mono (by decide)) (by rfl) m.g_routing_for m.F_routing_for.kp m.b_routing_for .nil passL (pa_cons (pe_lst (pa_cons pe_int (pa_cons pe_int pa_nil))) pa_nil)) (pe_lst (pa_cons (pe_tup (pa_cons pe_int (pa_cons pe_int (pa_cons pe_int (pa_cons pe_int pa_nil))))) (pa_cons (pe_tup (pa_cons pe_int (pa_cons pe_int (pa_cons pe_int (pa_cons pe_int pa_nil))))) (pa_cons (pe_tup (pa_cons pe_int (pa_cons pe_int (pa_cons pe_int (pa_cons pe_int pa_nil))))) pa_nil)))) (nomark _))))), ?_⟩
    walk_at "v2"
    refine LenK.ofL hS ?_
    walk_at "v1"
    refine ⟨by omega, by omega, ?_⟩
    refine loop_range (fun i σ H4 => ∃ y1 y2 y3 y4 y5 y6 y7 y8, σ = [some (.ref a), y1, y2, y3, y4, y5, y6, y7, y8] ∧ Same H H4) ⟨_, _, _, _, _, _, _, _, rfl, Same.refl H⟩ (fun i σ H4 N hi h hN => ?_) (fun σ H4 h => ?_)
    rotate_left
    · obtain ⟨y1, y2, y3, y4, y5, y6, y7, y8, rfl, sH4⟩ := h
      walk_at "v1"
      have g3 : stkOf [1, 2] = none := by decide +kernel
      have n3 : NL [1, 2] := ⟨by decide, by decide, by decide⟩
      refine NewK.of (Led.nil H4) fun p0 H5 L => ?_
      refine ⟨p0, [1, 2], rfl, L.lstAt (.head _), n3, fun _ p ts B' H6 s' hts L' => ?_, fun t dx H' e => by rw [g3] at e; cases e⟩
      have gr : rtFor [1, 2] = [(0, 0, 2, 1, 1), (1, 0, 1, 0, 0), (1, 1, 1, 0, 0)] := by decide +kernel
      refine NewK.of L' fun q1 H7 L => ?_
      refine NewK.of L fun q2 H8 L => ?_
      refine NewK.of L fun q3 H9 L => ?_
      refine NewK.of L fun q4 H10 L => ?_
      have g : Eqd 3 (rtD (rtFor [1, 2])) := Eqd.lst fun x hx => by
        obtain ⟨y, _, rfl⟩ := List.mem_map.mp hx
        exact Eqd.tup fun z hz => by
          obtain ⟨i, _, rfl⟩ := List.mem_map.mp hz
          exact Eqd.int _
      refine .inl (EqD.of (d := rtD (rtFor [1, 2])) (e := rtD (rtFor [1, 2])) (.lst (L.lstAt (by walk_at "mem")) (rts_dp L.sm hts)) ?_ (g.sh (by decide)) (g.sh (by decide)) (by rw [SeqAt.eqv_refl _ g.c]; exact fin _))
      rw [gr]
      exact .lst (L.lstAt (.head _)) (.cons (.tup (L.tupAt (by walk_at "mem")) (.cons (.int _) (.cons (.int _) (.cons (.int _) (.cons (.int _) .nil))))) (.cons (.tup (L.tupAt (by walk_at "mem")) (.cons (.int _) (.cons (.int _) (.cons (.int _) (.cons (.int _) .nil))))) (.cons (.tup (L.tupAt (by walk_at "mem")) (.cons (.int _) (.cons (.int _) (.cons (.int _) (.cons (.int _) .nil))))) .nil)))
    obtain ⟨y1, y2, y3, y4, y5, y6, y7, y8, rfl, sH4⟩ := h
    walk_at "v1"
    walk_at "v2"
    refine ⟨a, ns, (i : Int), rfl, sH4.seq hS, by omega, by omega, fun u H5 U => ?_⟩
    walk_at "v1"
    refine ⟨by decide, by decide, ?_⟩
    refine loop_range (fun j σ H' => ∃ y3 y4 y5 y6 y7 y8 B', σ = [some (.ref a), some (.int (i : Nat)), some (.ref u), y3, y4, y5, y6, y7, y8] ∧ Same H4 B' ∧ Urn B' H' u [] (200 * j)) ⟨_, _, _, _, _, _, H4, rfl, Same.refl _, U⟩ (fun j σ H6 N2 hj h hN2 => ?_) (fun σ H6 h => ?_)
    rotate_left
    · obtain ⟨y3, y4, y5, y6, y7, y8, B', rfl, s', U⟩ := h
      exact hN _ _ ⟨_, _, _, _, _, _, _, _, rfl, sH4.trans (s'.trans U.led.sm)⟩
    obtain ⟨y3, y4, y5, y6, y7, y8, B', rfl, s', U⟩ := h
    have hj12 : j < 12 := by omega
    walk_at "v1"
    walk_at "v2"
    refine U.new fun dl H7 U => ?_
    refine take_go U (by omega) (by omega) (by omega) fun H8 r1 U a1 b1 => ?_
    obtain ⟨v1, hv1, e1⟩ := pickV (l := [.int 4, .int 6, .int 8]) a1 (by simpa using b1)
    obtain ⟨mm, rfl, hm4, hm8⟩ : ∃ s : Int, v1 = .int s ∧ 4 ≤ s ∧ s ≤ 8 := by
      simp only [List.mem_cons, List.not_mem_nil, or_false] at hv1
      rcases hv1 with z | z | z
      · exact ⟨_, z, by decide, by decide⟩
      · exact ⟨_, z, by decide, by decide⟩
      · exact ⟨_, z, by decide, by decide⟩
    walk_at "v1"
    refine IxLK.of (U.led.lstAt (by walk_at "mem")) e1 ?_
    have U := U.sel (.skip .all)
    refine take_go U (by omega) (by omega) (by omega) fun H9 r2 U a2 b2 => ?_
    obtain ⟨n, hn⟩ : ∃ n : Nat, 1 + r2 = (n : Int) := ⟨(1 + r2).toNat, by omega⟩
    walk_at "v1"
    rw [hn]
    refine ⟨B', u, _, n, [], rfl, U, by omega, by omega, by omega, fun H10 p ms U hNL hln hlb => ?_⟩
    obtain ⟨x0, y0, z0, L, hr⟩ := U
    have hr2 : 0 ≤ x0 ∧ 0 ≤ y0 ∧ y0 < 2 ^ 150 ∧ 0 ≤ z0 ∧ z0 ≤ ((200 * (j + 1) : Nat) : Int) := ⟨hr.1, hr.2.1, hr.2.2.1, hr.2.2.2.1, by have := hr.2.2.2.2; omega⟩
    have L : Led B' H10 [(u, .lst [.int x0, .int y0, .int z0]), (p, .lst (nv ms))] := L
    have h8 := hNL.2.2
    walk_at "v2"
    refine rep_nvB (L.lstAt (xs := nv ms) (by walk_at "mem")) hlb (by omega) ?_
    refine ⟨p, ms, rfl, L.lstAt (by walk_at "mem"), hNL, fun H11 s s11 hs => ?_⟩
    have L := L.same s11
    have es : s = stkOf ms := IsStuck.inj hs (stk_isStuck hNL.2.1)
    subst es
    have ht8 : ∀ t, stkOf ms = some t → t < 9 := fun t e => by
      have ht := stk_isStuck (nm := nmOf ms) (n := ms.length) hNL.2.1
      rw [show stkIn (stagesOf ways (nmOf ms) ms.length) = some t from e] at ht
      have ht : t < ms.length := ht.1
      omega
    refine ⟨p, ms, rfl, L.lstAt (by walk_at "mem"), hNL, fun hst p2 ts B2 H12 s2 hts L2' => ?_, fun t H12 hst s12 => ?_⟩
    rotate_left
    · have L := L.same s12
      have h9 := ht8 t hst
      rw [hst]
      walk_at "v2"
      refine rep_t h9 ?_
      walk_at "v2"
      rw [decide_eq_false (show ¬ oV (some t) = V.non from fun z => by cases z), if_pos (by rfl)]
      refine rep_t h9 ?_
      rw [decide_eq_true rfl, show (!true) = false from rfl, if_neg Bool.false_ne_true]
      refine ⟨p, ms, rfl, L.lstAt (by walk_at "mem"), hNL, (fun e => absurd (hst.symm.trans e) (fun z => by cases z)), (fun t2 H13 e s13 => ?_)⟩
      have et : t2 = t := by rw [hst] at e; cases e; rfl
      rw [et]
      have L := L.same s13
      refine rep_t h9 ?_
      rw [decide_eq_true rfl, show (!true) = false from rfl, if_neg Bool.false_ne_true]
      refine rep_nvB (L.lstAt (xs := nv ms) (by walk_at "mem")) hlb (by omega) ?_
      rw [decide_eq_true rfl, show (!true) = false from rfl, if_neg Bool.false_ne_true]
      exact hN2 _ _ ⟨_, _, _, _, _, _, B', rfl, s', x0, y0, z0, L.sel (.cons .hd (.skip .all)), hr2⟩
    obtain ⟨B6, s6, L, k6⟩ := L.over s2 L2'
    have hts6 : RtsAt B6 ts (rtFor ms) := Paired.mapP hts fun c x z => k6 _ _ z (by
      intro e he
      simp only [List.mem_cons, List.not_mem_nil, or_false] at he
      rcases he with z | z <;> (rw [z]; intro z2; cases z2))
    have L : Led B6 H12 [(p2, .lst (ts.map V.ref)), (u, .lst [.int x0, .int y0, .int z0]), (p, .lst (nv ms))] := L
    obtain ⟨hacc, hrl, hrb⟩ := rtFor_facts hNL hst
    have hsm := rt_small hNL hst
    have hbd : ∀ x ∈ rtFor ms, x.1 ≤ 50 ∧ x.2.2.1 ≤ 50 := fun x hx => ⟨by have := (hrb x hx).1; omega, by have := (hrb x hx).2.2.1; omega⟩
    have htl : ts.length = (rtFor ms).length := Paired.length hts6
    rw [hst]
    walk_at "v2"
    refine rep_rts L.sm (L.lstAt (by walk_at "mem")) hts6 hrl hsm ?_
    walk_at "v2"
    rw [decide_eq_true (show oV none = V.non from rfl), show (!true) = false from rfl, if_neg Bool.false_ne_true]
    refine ⟨p, p2, ms, ts, rtFor ms, rfl, L.lstAt (by walk_at "mem"), hNL, L.at (by walk_at "mem"), hts6.mono L.sm, hacc, hbd, by omega, fun H13 s13 => ⟨true, rfl, ?_⟩⟩
    rw [show (!true) = false from rfl, if_neg Bool.false_ne_true]
    have L := L.same s13
    refine ⟨p, p2, ms, ts, rtFor ms, rfl, L.lstAt (by walk_at "mem"), hNL, L.at (by walk_at "mem"), hts6.mono L.sm, hacc, hbd, by omega, fun H14 s14 => ⟨_, _, rfl, rfl, false, rfl, ?_⟩⟩
    rw [if_neg Bool.false_ne_true]
    have L := L.same s14
    walk_at "v1"
    refine ⟨tyL (L.lstAt (xs := ts.map V.ref) (by walk_at "mem")), ?_⟩
    refine AppK.of L (by walk_at "mem") (Nat.lt_of_le_of_lt (m := 100) (by rw [List.length_map]; omega) (by decide)) (by walk_at "put") fun H15 L => ?_
    refine ⟨p, ms, rfl, L.lstAt (by walk_at "mem"), hNL, (fun _ p3 ts3 B3 H16 s3 hts3 L3 => ?_), (fun t H16 e _ => absurd (hst.symm.trans e) (fun z => by cases z))⟩
    obtain ⟨B7, s7, L, k7⟩ := L.over s3 L3
    have hts7 : RtsAt B7 ts3 (rtFor ms) := Paired.mapP hts3 fun c x z => k7 _ _ z (by
      intro e he
      simp only [List.mem_cons, List.not_mem_nil, or_false] at he
      rcases he with z | z | z <;> (rw [z]; intro z2; cases z2))
    have L : Led B7 H16 [(p3, .lst (ts3.map V.ref)), (p2, .lst (ts.map V.ref ++ [V.str "more"])), (u, .lst [.int x0, .int y0, .int z0]), (p, .lst (nv ms))] := L
    refine rep_rts L.sm (L.lstAt (by walk_at "mem")) hts7 hrl hsm ?_
    rw [decide_eq_true rfl, show (!true) = false from rfl, if_neg Bool.false_ne_true]
    refine rep_nvB (L.lstAt (xs := nv ms) (by walk_at "mem")) hlb (by omega) ?_
    rw [decide_eq_true rfl, show (!true) = false from rfl, if_neg Bool.false_ne_true]
    exact hN2 _ _ ⟨_, _, _, _, _, _, B7, rfl, s'.trans (s6.trans s7), x0, y0, z0, L.sel (.skip (.skip (.cons .hd (.skip .all)))), hr2⟩
theorem law_end {K : PySem.W.Frag} {H : Hp} {a : Addr} {ns : List Int} (hl : ns.length ≤ 63) (hb : ∀ z ∈ ns, Builtin.Int.intBits z ≤ 1048576) (hS : SqL K H a (ns.map V.int)) : sp_law K [.ref a] H (fun v _ => v = .bl true) fun _ _ _ => False := ⟨a, ns, rfl, hS, hl, fun _ => rfl⟩
end
theorem all_mk {q : Program} (hq : PyProof.Rows.importsNone q = true) {l : PySem.W.OpenLaw} {w : World} {K : PySem.W.Frag} {h : Heap} {mg : Str → Option Value} {fa : Addr} (X : K.In h) (G : h.Ns mainGlobals mg) (hfa : mg "law" = some (.ref fa))
    {f0 f1 f2 f3 f4 f5 f6 f7 f8 f9 f10 f11 f12 f13 f14 f15 f16 f17 f18 f19 f20 f21 f22 f23 f24 f25 f26 f27 f28 f29 f30 f31 f32 f33 xC_Impossible : Addr} {od0 an0 od1 an1 od2 an2 od3 an3 od4 an4 od5 an5 od6 an6 od7 an7 od8 an8 od9 an9 od10 an10 od11 an11 od12 an12 od13 an13 od14 an14 od15 an15 od16 an16 od17 an17 od18 an18 od19 an19 od20 an20 od21 an21 od22 an22 od23 an23 od24 an24 od25 an25 od26 an26 od27 an27 od28 an28 od29 an29 od30 an30 od31 an31 od32 an32 od33 an33 : Option Addr} {sl0 sl1 sl2 sl3 sl4 sl5 sl6 sl7 sl8 sl9 sl10 sl11 sl12 sl13 sl14 sl15 sl16 sl17 sl18 sl19 sl20 sl21 sl22 sl23 sl24 sl25 sl26 sl27 sl28 sl29 sl30 sl31 sl32 sl33 : Array (Option Value)} {oc0 kV0 dc0 pm0 cd0 ct0 oc1 kV1 dc1 pm1 cd1 ct1 oc2 kV2 dc2 pm2 cd2 ct2 oc3 kV3 dc3 pm3 cd3 ct3 oc4 kV4 dc4 pm4 cd4 ct4 oc5 kV5 dc5 pm5 cd5 ct5 oc6 kV6 dc6 pm6 cd6 ct6 oc7 kV7 dc7 pm7 cd7 ct7 oc8 kV8 dc8 pm8 cd8 ct8 oc9 kV9 dc9 pm9 cd9 ct9 oc10 kV10 dc10 pm10 cd10 ct10 oc11 kV11 dc11 pm11 cd11 ct11 oc12 kV12 dc12 pm12 cd12 ct12 oc13 kV13 dc13 pm13 cd13 ct13 oc14 kV14 dc14 pm14 cd14 ct14 oc15 kV15 dc15 pm15 cd15 ct15 oc16 kV16 dc16 pm16 cd16 ct16 oc17 kV17 dc17 pm17 cd17 ct17 oc18 kV18 dc18 pm18 cd18 ct18 oc19 kV19 dc19 pm19 cd19 ct19 oc20 kV20 dc20 pm20 cd20 ct20 oc21 kV21 dc21 pm21 cd21 ct21 oc22 kV22 dc22 pm22 cd22 ct22 oc23 kV23 dc23 pm23 cd23 ct23 oc24 kV24 dc24 pm24 cd24 ct24 oc25 kV25 dc25 pm25 cd25 ct25 oc26 kV26 dc26 pm26 cd26 ct26 oc27 kV27 dc27 pm27 cd27 ct27 oc28 kV28 dc28 pm28 cd28 ct28 oc29 kV29 dc29 pm29 cd29 ct29 oc30 kV30 dc30 pm30 cd30 ct30 oc31 kV31 dc31 pm31 cd31 ct31 oc32 kV32 dc32 pm32 cd32 ct32 oc33 kV33 dc33 pm33 cd33 ct33 : Value} {tk0 tk1 tk2 : Tok}
    (a0 : PySem.W.nsIn K mainGlobals "is_integer" = some (some (.ref f0)))
    (l0 : K.lookup f0 = some ⟨oc0, od0, .func (PySem.W.fnOf "is_integer" "is_integer" (defArgs s_is_integer) (defBody s_is_integer) (defScope s_is_integer) .none kV0 dc0 pm0 an0 cd0 ct0), sl0⟩)
    (c0 : PySem.W.codeIn K cd0 "is_integer" = true)
    (k0 : PySem.W.keepIn K (.ref f0) = true)
    (a1 : PySem.W.nsIn K mainGlobals "is_integer_list" = some (some (.ref f1)))
    (l1 : K.lookup f1 = some ⟨oc1, od1, .func (PySem.W.fnOf "is_integer_list" "is_integer_list" (defArgs s_is_integer_list) (defBody s_is_integer_list) (defScope s_is_integer_list) .none kV1 dc1 pm1 an1 cd1 ct1), sl1⟩)
    (c1 : PySem.W.codeIn K cd1 "is_integer_list" = true)
    (k1 : PySem.W.keepIn K (.ref f1) = true)
    (a2 : PySem.W.nsIn K mainGlobals "is_name_list" = some (some (.ref f2)))
    (l2 : K.lookup f2 = some ⟨oc2, od2, .func (PySem.W.fnOf "is_name_list" "is_name_list" (defArgs s_is_name_list) (defBody s_is_name_list) (defScope s_is_name_list) .none kV2 dc2 pm2 an2 cd2 ct2), sl2⟩)
    (c2 : PySem.W.codeIn K cd2 "is_name_list" = true)
    (k2 : PySem.W.keepIn K (.ref f2) = true)
    (a3 : PySem.W.nsIn K mainGlobals "check_names" = some (some (.ref f3)))
    (l3 : K.lookup f3 = some ⟨oc3, od3, .func (PySem.W.fnOf "check_names" "check_names" (defArgs s_check_names) (defBody s_check_names) (defScope s_check_names) .none kV3 dc3 pm3 an3 cd3 ct3), sl3⟩)
    (c3 : PySem.W.codeIn K cd3 "check_names" = true)
    (k3 : PySem.W.keepIn K (.ref f3) = true)
    (a4 : PySem.W.nsIn K mainGlobals "ways_on" = some (some (.ref f4)))
    (l4 : K.lookup f4 = some ⟨oc4, od4, .func (PySem.W.fnOf "ways_on" "ways_on" (defArgs s_ways_on) (defBody s_ways_on) (defScope s_ways_on) .none kV4 dc4 pm4 an4 cd4 ct4), sl4⟩)
    (c4 : PySem.W.codeIn K cd4 "ways_on" = true)
    (k4 : PySem.W.keepIn K (.ref f4) = true)
    (a5 : PySem.W.nsIn K mainGlobals "row_with_cell" = some (some (.ref f5)))
    (l5 : K.lookup f5 = some ⟨oc5, od5, .func (PySem.W.fnOf "row_with_cell" "row_with_cell" (defArgs s_row_with_cell) (defBody s_row_with_cell) (defScope s_row_with_cell) .none kV5 dc5 pm5 an5 cd5 ct5), sl5⟩)
    (c5 : PySem.W.codeIn K cd5 "row_with_cell" = true)
    (k5 : PySem.W.keepIn K (.ref f5) = true)
    (a6 : PySem.W.nsIn K mainGlobals "_ways_from" = some (some (.ref f6)))
    (l6 : K.lookup f6 = some ⟨oc6, od6, .func (PySem.W.fnOf "_ways_from" "_ways_from" (defArgs s_ways_from) (defBody s_ways_from) (defScope s_ways_from) .none kV6 dc6 pm6 an6 cd6 ct6), sl6⟩)
    (c6 : PySem.W.codeIn K cd6 "_ways_from" = true)
    (k6 : PySem.W.keepIn K (.ref f6) = true)
    (a7 : PySem.W.nsIn K mainGlobals "_stage_after" = some (some (.ref f7)))
    (l7 : K.lookup f7 = some ⟨oc7, od7, .func (PySem.W.fnOf "_stage_after" "_stage_after" (defArgs s_stage_after) (defBody s_stage_after) (defScope s_stage_after) .none kV7 dc7 pm7 an7 cd7 ct7), sl7⟩)
    (c7 : PySem.W.codeIn K cd7 "_stage_after" = true)
    (k7 : PySem.W.keepIn K (.ref f7) = true)
    (a8 : PySem.W.nsIn K mainGlobals "is_integer_within" = some (some (.ref f8)))
    (l8 : K.lookup f8 = some ⟨oc8, od8, .func (PySem.W.fnOf "is_integer_within" "is_integer_within" (defArgs s_is_integer_within) (defBody s_is_integer_within) (defScope s_is_integer_within) .none kV8 dc8 pm8 an8 cd8 ct8), sl8⟩)
    (c8 : PySem.W.codeIn K cd8 "is_integer_within" = true)
    (k8 : PySem.W.keepIn K (.ref f8) = true)
    (a9 : PySem.W.nsIn K mainGlobals "_check_coordinate" = some (some (.ref f9)))
    (l9 : K.lookup f9 = some ⟨oc9, od9, .func (PySem.W.fnOf "_check_coordinate" "_check_coordinate" (defArgs s_check_coordinate) (defBody s_check_coordinate) (defScope s_check_coordinate) .none kV9 dc9 pm9 an9 cd9 ct9), sl9⟩)
    (c9 : PySem.W.codeIn K cd9 "_check_coordinate" = true)
    (k9 : PySem.W.keepIn K (.ref f9) = true)
    (a10 : PySem.W.nsIn K mainGlobals "_cells_before" = some (some (.ref f10)))
    (l10 : K.lookup f10 = some ⟨oc10, od10, .func (PySem.W.fnOf "_cells_before" "_cells_before" (defArgs s_cells_before) (defBody s_cells_before) (defScope s_cells_before) .none kV10 dc10 pm10 an10 cd10 ct10), sl10⟩)
    (c10 : PySem.W.codeIn K cd10 "_cells_before" = true)
    (k10 : PySem.W.keepIn K (.ref f10) = true)
    (a11 : PySem.W.nsIn K mainGlobals "name_of" = some (some (.ref f11)))
    (l11 : K.lookup f11 = some ⟨oc11, od11, .func (PySem.W.fnOf "name_of" "name_of" (defArgs s_name_of) (defBody s_name_of) (defScope s_name_of) .none kV11 dc11 pm11 an11 cd11 ct11), sl11⟩)
    (c11 : PySem.W.codeIn K cd11 "name_of" = true)
    (k11 : PySem.W.keepIn K (.ref f11) = true)
    (a12 : PySem.W.nsIn K mainGlobals "stages_of" = some (some (.ref f12)))
    (l12 : K.lookup f12 = some ⟨oc12, od12, .func (PySem.W.fnOf "stages_of" "stages_of" (defArgs s_stages_of) (defBody s_stages_of) (defScope s_stages_of) .none kV12 dc12 pm12 an12 cd12 ct12), sl12⟩)
    (c12 : PySem.W.codeIn K cd12 "stages_of" = true)
    (k12 : PySem.W.keepIn K (.ref f12) = true)
    (a13 : PySem.W.nsIn K mainGlobals "_stages_of" = some (some (.ref f13)))
    (l13 : K.lookup f13 = some ⟨oc13, od13, .func (PySem.W.fnOf "_stages_of" "_stages_of" (defArgs s_stages_of_p) (defBody s_stages_of_p) (defScope s_stages_of_p) .none kV13 dc13 pm13 an13 cd13 ct13), sl13⟩)
    (c13 : PySem.W.codeIn K cd13 "_stages_of" = true)
    (k13 : PySem.W.keepIn K (.ref f13) = true)
    (a14 : PySem.W.nsIn K mainGlobals "_stuck_in" = some (some (.ref f14)))
    (l14 : K.lookup f14 = some ⟨oc14, od14, .func (PySem.W.fnOf "_stuck_in" "_stuck_in" (defArgs s_stuck_in) (defBody s_stuck_in) (defScope s_stuck_in) .none kV14 dc14 pm14 an14 cd14 ct14), sl14⟩)
    (c14 : PySem.W.codeIn K cd14 "_stuck_in" = true)
    (k14 : PySem.W.keepIn K (.ref f14) = true)
    (a15 : PySem.W.nsIn K mainGlobals "_routing_in" = some (some (.ref f15)))
    (l15 : K.lookup f15 = some ⟨oc15, od15, .func (PySem.W.fnOf "_routing_in" "_routing_in" (defArgs s_routing_in) (defBody s_routing_in) (defScope s_routing_in) .none kV15 dc15 pm15 an15 cd15 ct15), sl15⟩)
    (c15 : PySem.W.codeIn K cd15 "_routing_in" = true)
    (k15 : PySem.W.keepIn K (.ref f15) = true)
    (a16 : PySem.W.nsIn K mainGlobals "routing_for" = some (some (.ref f16)))
    (l16 : K.lookup f16 = some ⟨oc16, od16, .func (PySem.W.fnOf "routing_for" "routing_for" (defArgs s_routing_for) (defBody s_routing_for) (defScope s_routing_for) .none kV16 dc16 pm16 an16 cd16 ct16), sl16⟩)
    (c16 : PySem.W.codeIn K cd16 "routing_for" = true)
    (k16 : PySem.W.keepIn K (.ref f16) = true)
    (a17 : PySem.W.nsIn K mainGlobals "_diagonal_of" = some (some (.ref f17)))
    (l17 : K.lookup f17 = some ⟨oc17, od17, .func (PySem.W.fnOf "_diagonal_of" "_diagonal_of" (defArgs s_diagonal_of) (defBody s_diagonal_of) (defScope s_diagonal_of) .none kV17 dc17 pm17 an17 cd17 ct17), sl17⟩)
    (c17 : PySem.W.codeIn K cd17 "_diagonal_of" = true)
    (k17 : PySem.W.keepIn K (.ref f17) = true)
    (a18 : PySem.W.nsIn K mainGlobals "cell_of" = some (some (.ref f18)))
    (l18 : K.lookup f18 = some ⟨oc18, od18, .func (PySem.W.fnOf "cell_of" "cell_of" (defArgs s_cell_of) (defBody s_cell_of) (defScope s_cell_of) .none kV18 dc18 pm18 an18 cd18 ct18), sl18⟩)
    (c18 : PySem.W.codeIn K cd18 "cell_of" = true)
    (k18 : PySem.W.keepIn K (.ref f18) = true)
    (a19 : PySem.W.nsIn K mainGlobals "_send" = some (some (.ref f19)))
    (l19 : K.lookup f19 = some ⟨oc19, od19, .func (PySem.W.fnOf "_send" "_send" (defArgs s_send) (defBody s_send) (defScope s_send) .none kV19 dc19 pm19 an19 cd19 ct19), sl19⟩)
    (c19 : PySem.W.codeIn K cd19 "_send" = true)
    (k19 : PySem.W.keepIn K (.ref f19) = true)
    (a20 : PySem.W.nsIn K mainGlobals "_send_on" = some (some (.ref f20)))
    (l20 : K.lookup f20 = some ⟨oc20, od20, .func (PySem.W.fnOf "_send_on" "_send_on" (defArgs s_send_on) (defBody s_send_on) (defScope s_send_on) .none kV20 dc20 pm20 an20 cd20 ct20), sl20⟩)
    (c20 : PySem.W.codeIn K cd20 "_send_on" = true)
    (k20 : PySem.W.keepIn K (.ref f20) = true)
    (a21 : PySem.W.nsIn K mainGlobals "_is_routing_item" = some (some (.ref f21)))
    (l21 : K.lookup f21 = some ⟨oc21, od21, .func (PySem.W.fnOf "_is_routing_item" "_is_routing_item" (defArgs s_is_routing_item) (defBody s_is_routing_item) (defScope s_is_routing_item) .none kV21 dc21 pm21 an21 cd21 ct21), sl21⟩)
    (c21 : PySem.W.codeIn K cd21 "_is_routing_item" = true)
    (k21 : PySem.W.keepIn K (.ref f21) = true)
    (a22 : PySem.W.nsIn K mainGlobals "is_routing" = some (some (.ref f22)))
    (l22 : K.lookup f22 = some ⟨oc22, od22, .func (PySem.W.fnOf "is_routing" "is_routing" (defArgs s_is_routing) (defBody s_is_routing) (defScope s_is_routing) .none kV22 dc22 pm22 an22 cd22 ct22), sl22⟩)
    (c22 : PySem.W.codeIn K cd22 "is_routing" = true)
    (k22 : PySem.W.keepIn K (.ref f22) = true)
    (a23 : PySem.W.nsIn K mainGlobals "_law_pot" = some (some (.ref f23)))
    (l23 : K.lookup f23 = some ⟨oc23, od23, .func (PySem.W.fnOf "_law_pot" "_law_pot" (defArgs s_law_pot) (defBody s_law_pot) (defScope s_law_pot) .none kV23 dc23 pm23 an23 cd23 ct23), sl23⟩)
    (c23 : PySem.W.codeIn K cd23 "_law_pot" = true)
    (k23 : PySem.W.keepIn K (.ref f23) = true)
    (a24 : PySem.W.nsIn K mainGlobals "_law_take" = some (some (.ref f24)))
    (l24 : K.lookup f24 = some ⟨oc24, od24, .func (PySem.W.fnOf "_law_take" "_law_take" (defArgs s_law_take) (defBody s_law_take) (defScope s_law_take) .none kV24 dc24 pm24 an24 cd24 ct24), sl24⟩)
    (c24 : PySem.W.codeIn K cd24 "_law_take" = true)
    (k24 : PySem.W.keepIn K (.ref f24) = true)
    (a25 : PySem.W.nsIn K mainGlobals "_law_drawn" = some (some (.ref f25)))
    (l25 : K.lookup f25 = some ⟨oc25, od25, .func (PySem.W.fnOf "_law_drawn" "_law_drawn" (defArgs s_law_drawn) (defBody s_law_drawn) (defScope s_law_drawn) .none kV25 dc25 pm25 an25 cd25 ct25), sl25⟩)
    (c25 : PySem.W.codeIn K cd25 "_law_drawn" = true)
    (k25 : PySem.W.keepIn K (.ref f25) = true)
    (a26 : PySem.W.nsIn K mainGlobals "_law_some" = some (some (.ref f26)))
    (l26 : K.lookup f26 = some ⟨oc26, od26, .func (PySem.W.fnOf "_law_some" "_law_some" (defArgs s_law_some) (defBody s_law_some) (defScope s_law_some) .none kV26 dc26 pm26 an26 cd26 ct26), sl26⟩)
    (c26 : PySem.W.codeIn K cd26 "_law_some" = true)
    (k26 : PySem.W.keepIn K (.ref f26) = true)
    (a27 : PySem.W.nsIn K mainGlobals "_law_list" = some (some (.ref f27)))
    (l27 : K.lookup f27 = some ⟨oc27, od27, .func (PySem.W.fnOf "_law_list" "_law_list" (defArgs s_law_list) (defBody s_law_list) (defScope s_law_list) .none kV27 dc27 pm27 an27 cd27 ct27), sl27⟩)
    (c27 : PySem.W.codeIn K cd27 "_law_list" = true)
    (k27 : PySem.W.keepIn K (.ref f27) = true)
    (a28 : PySem.W.nsIn K mainGlobals "_law_sends" = some (some (.ref f28)))
    (l28 : K.lookup f28 = some ⟨oc28, od28, .func (PySem.W.fnOf "_law_sends" "_law_sends" (defArgs s_law_sends) (defBody s_law_sends) (defScope s_law_sends) .none kV28 dc28 pm28 an28 cd28 ct28), sl28⟩)
    (c28 : PySem.W.codeIn K cd28 "_law_sends" = true)
    (k28 : PySem.W.keepIn K (.ref f28) = true)
    (a29 : PySem.W.nsIn K mainGlobals "_law_next" = some (some (.ref f29)))
    (l29 : K.lookup f29 = some ⟨oc29, od29, .func (PySem.W.fnOf "_law_next" "_law_next" (defArgs s_law_next) (defBody s_law_next) (defScope s_law_next) .none kV29 dc29 pm29 an29 cd29 ct29), sl29⟩)
    (c29 : PySem.W.codeIn K cd29 "_law_next" = true)
    (k29 : PySem.W.keepIn K (.ref f29) = true)
    (a30 : PySem.W.nsIn K mainGlobals "_law_stuck" = some (some (.ref f30)))
    (l30 : K.lookup f30 = some ⟨oc30, od30, .func (PySem.W.fnOf "_law_stuck" "_law_stuck" (defArgs s_law_stuck) (defBody s_law_stuck) (defScope s_law_stuck) .none kV30 dc30 pm30 an30 cd30 ct30), sl30⟩)
    (c30 : PySem.W.codeIn K cd30 "_law_stuck" = true)
    (k30 : PySem.W.keepIn K (.ref f30) = true)
    (a31 : PySem.W.nsIn K mainGlobals "_law_told" = some (some (.ref f31)))
    (l31 : K.lookup f31 = some ⟨oc31, od31, .func (PySem.W.fnOf "_law_told" "_law_told" (defArgs s_law_told) (defBody s_law_told) (defScope s_law_told) .none kV31 dc31 pm31 an31 cd31 ct31), sl31⟩)
    (c31 : PySem.W.codeIn K cd31 "_law_told" = true)
    (k31 : PySem.W.keepIn K (.ref f31) = true)
    (a32 : PySem.W.nsIn K mainGlobals "_law_is_routing" = some (some (.ref f32)))
    (l32 : K.lookup f32 = some ⟨oc32, od32, .func (PySem.W.fnOf "_law_is_routing" "_law_is_routing" (defArgs s_law_is_routing) (defBody s_law_is_routing) (defScope s_law_is_routing) .none kV32 dc32 pm32 an32 cd32 ct32), sl32⟩)
    (c32 : PySem.W.codeIn K cd32 "_law_is_routing" = true)
    (k32 : PySem.W.keepIn K (.ref f32) = true)
    (a33 : PySem.W.nsIn K mainGlobals "law" = some (some (.ref f33)))
    (l33 : K.lookup f33 = some ⟨oc33, od33, .func (PySem.W.fnOf "law" "law" (defArgs s_law) (defBody s_law) (defScope s_law) .none kV33 dc33 pm33 an33 cd33 ct33), sl33⟩)
    (c33 : PySem.W.codeIn K cd33 "law" = true)
    (k33 : PySem.W.keepIn K (.ref f33) = true)
    (xa_Impossible : PySem.W.nsIn K mainGlobals "Impossible" = some (some (.ref xC_Impossible)))
    (xs_Impossible : PySem.W.subIn K (.ref xC_Impossible) (.type "BaseException") = some true)
    (xt_Impossible : PySem.W.typeIn K (.ref xC_Impossible) = some (.type "type"))
    (xk_Impossible : PySem.W.keepIn K (.ref xC_Impossible) = true)
    (xd_Impossible : PySem.W.hasDictIn K xC_Impossible = true)
    (xe_Impossible_Impossible : PySem.W.subIn K (.ref xC_Impossible) (.ref xC_Impossible) = some true)
    {xF_Impossible xK_Impossible xA_Impossible : Addr} {xod_Impossible xdd_Impossible xcdd_Impossible xcld_Impossible xan_Impossible : Option Addr} {xcd_Impossible : ClassData} {xsl_Impossible xosl_Impossible xccs_Impossible xcsl_Impossible : Array (Option Value)} {xoc_Impossible xdoc_Impossible xpm_Impossible xct_Impossible xccl_Impossible xcl_Impossible : Value} {xvs_Impossible : Array Value} {xfile_Impossible : Str} {xtf_Impossible : Tok}
    (oC_Impossible : K.lookup xC_Impossible = some ⟨.type "type", xdd_Impossible, .cls xcd_Impossible, xsl_Impossible⟩)
    (oB_Impossible : Vg.oexB xC_Impossible xcd_Impossible xsl_Impossible = true)
    (oS_Impossible : PySem.W.findIn K (.ref xC_Impossible) "__setattr__" = some (some (.builtin "object.__setattr__")))
    (oi_Impossible : PySem.W.findIn K (.ref xC_Impossible) "__init__" = some (some (.ref xF_Impossible)))
    (ot_Impossible : PySem.W.typeIn K (.ref xF_Impossible) = some (.type "function"))
    (oL_Impossible : K.lookup xF_Impossible = some ⟨xoc_Impossible, xod_Impossible, .func (PySem.W.fnX "__init__" "Impossible.__init__" (defArgs s_x_Impossible) (defBody s_x_Impossible) (defScope s_x_Impossible) [("__class__", xK_Impossible)] .none .none xdoc_Impossible xpm_Impossible xan_Impossible (.ref xA_Impossible) xct_Impossible), xosl_Impossible⟩)
    (oD_Impossible : PySem.W.codeIn K (.ref xA_Impossible) "Impossible.__init__" = true)
    (oR_Impossible : K.lookup xA_Impossible = some ⟨xccl_Impossible, xcdd_Impossible, .fields xvs_Impossible, xccs_Impossible⟩)
    (oV_Impossible : xvs_Impossible[2]? = some (.str xfile_Impossible xtf_Impossible))
    (oW_Impossible : ((l.prog.main.file : Str) == xfile_Impossible) = true)
    (oK_Impossible : K.lookup xK_Impossible = some ⟨xcl_Impossible, xcld_Impossible, .cell (some (.ref xC_Impossible)), xcsl_Impossible⟩)
    (oT_Impossible : (l.prog.main.scope.names.lookup ("super" : Str)).isSome = false)
    (oM_Impossible : PySem.W.nsIn K mainGlobals "super" = some none)
    (oX_Impossible : PySem.W.nsIn K cStatics "thirdparty.any" = some none)
    (oI_Impossible : PySem.W.ks_superIn K xC_Impossible xC_Impossible "__init__" = some (some (.builtin "ValueError.__init__")))
    (oU_Impossible : PySem.W.mroIn K xC_Impossible (.ref xC_Impossible) = some true)
    (oE_Impossible : PySem.W.subIn K (.ref xC_Impossible) (.type "ValueError") = some true)
    (oN_Impossible : PySem.W.findIn K (.ref xC_Impossible) "diagonal" = some none)
    (oG_Impossible : PySem.W.findIn K (.ref xC_Impossible) "__getattribute__" = some (some (.builtin "BaseException.__getattribute__")))
    (oH_Impossible : PySem.W.findIn K (.ref xC_Impossible) "__getattr__" = some none)
    (z_bool : PySem.W.nsIn K mainGlobals "bool" = some none)
    (z_enumerate : PySem.W.nsIn K mainGlobals "enumerate" = some none)
    (z_int : PySem.W.nsIn K mainGlobals "int" = some none)
    (z_isinstance : PySem.W.nsIn K mainGlobals "isinstance" = some none)
    (z_len : PySem.W.nsIn K mainGlobals "len" = some none)
    (z_list : PySem.W.nsIn K mainGlobals "list" = some none)
    (z_max : PySem.W.nsIn K mainGlobals "max" = some none)
    (z_min : PySem.W.nsIn K mainGlobals "min" = some none)
    (z_range : PySem.W.nsIn K mainGlobals "range" = some none)
    (z_repr : PySem.W.nsIn K mainGlobals "repr" = some none)
    (z_reversed : PySem.W.nsIn K mainGlobals "reversed" = some none)
    (z_set : PySem.W.nsIn K mainGlobals "set" = some none)
    (z_sorted : PySem.W.nsIn K mainGlobals "sorted" = some none)
    (z_sum : PySem.W.nsIn K mainGlobals "sum" = some none)
    (z_tuple : PySem.W.nsIn K mainGlobals "tuple" = some none)
    (z_zip : PySem.W.nsIn K mainGlobals "zip" = some none)
    (im_isqrt : PySem.W.nsIn K mainGlobals "isqrt" = some (some (.builtin "math.isqrt")))
    (q0 : PySem.W.nsIn K mainGlobals "GREATEST_COORDINATE" = some (some (.int (1000000000000000) tk0)))
    (q1 : PySem.W.nsIn K mainGlobals "GREATEST_NAME" = some (some (.int (1000000000000000000000000000000) tk1)))
    (q2 : PySem.W.nsIn K mainGlobals "MOST_NAMES" = some (some (.int (8) tk2))) :
    ∃ fd : FuncData, (∀ (s : Shared) (v : Value), BindsTo s fd ⟨[v], []⟩ [("script", v)]) ∧ ∀ bs : Heap, K.In bs → bs.Ns mainGlobals mg → (PyProof.Rows.importsNone q = true → ∃ mm, bs.Ns sysModules mm) → Fg l.prog w K mg bs CX0 9 fa fd ["script"] (sp_law K) := by
  have e := hfa.symm.trans (PySem.W.mg_of X G a33)
  cases e
  have F0 := fun_mk (st := s_is_integer) l0 c0 k0
  have b0 := F0.binds (ps := ["value"]) fun _ _ _ _ _ _ us hl => match us, hl with | [_], _ => rfl
  have F1 := fun_mk (st := s_is_integer_list) l1 c1 k1
  have b1 := F1.binds (ps := ["value"]) fun _ _ _ _ _ _ us hl => match us, hl with | [_], _ => rfl
  have F2 := fun_mk (st := s_is_name_list) l2 c2 k2
  have b2 := F2.binds (ps := ["value"]) fun _ _ _ _ _ _ us hl => match us, hl with | [_], _ => rfl
  have F3 := fun_mk (st := s_check_names) l3 c3 k3
  have b3 := F3.binds (ps := ["names"]) fun _ _ _ _ _ _ us hl => match us, hl with | [_], _ => rfl
  have F4 := fun_mk (st := s_ways_on) l4 c4 k4
  have b4 := F4.binds (ps := ["entered", "listed"]) fun _ _ _ _ _ _ us hl => match us, hl with | [_, _], _ => rfl
  have F5 := fun_mk (st := s_row_with_cell) l5 c5 k5
  have b5 := F5.binds (ps := ["later", "right", "down"]) fun _ _ _ _ _ _ us hl => match us, hl with | [_, _, _], _ => rfl
  have F6 := fun_mk (st := s_ways_from) l6 c6 k6
  have b6 := F6.binds (ps := ["row", "listed", "ways"]) fun _ _ _ _ _ _ us hl => match us, hl with | [_, _, _], _ => rfl
  have F7 := fun_mk (st := s_stage_after) l7 c7 k7
  have b7 := F7.binds (ps := ["rows", "listed", "ways"]) fun _ _ _ _ _ _ us hl => match us, hl with | [_, _, _], _ => rfl
  have F8 := fun_mk (st := s_is_integer_within) l8 c8 k8
  have b8 := F8.binds (ps := ["value", "least", "greatest"]) fun _ _ _ _ _ _ us hl => match us, hl with | [_, _, _], _ => rfl
  have F9 := fun_mk (st := s_check_coordinate) l9 c9 k9
  have b9 := F9.binds (ps := ["value"]) fun _ _ _ _ _ _ us hl => match us, hl with | [_], _ => rfl
  have F10 := fun_mk (st := s_cells_before) l10 c10 k10
  have b10 := F10.binds (ps := ["diagonal"]) fun _ _ _ _ _ _ us hl => match us, hl with | [_], _ => rfl
  have F11 := fun_mk (st := s_name_of) l11 c11 k11
  have b11 := F11.binds (ps := ["right", "down"]) fun _ _ _ _ _ _ us hl => match us, hl with | [_, _], _ => rfl
  have F12 := fun_mk (st := s_stages_of) l12 c12 k12
  have b12 := F12.binds (ps := ["count", "names", "ways"]) fun _ _ _ _ _ _ us hl => match us, hl with | [_, _, _], _ => rfl
  have F13 := fun_mk (st := s_stages_of_p) l13 c13 k13
  have b13 := F13.binds (ps := ["names"]) fun _ _ _ _ _ _ us hl => match us, hl with | [_], _ => rfl
  have F14 := fun_mk (st := s_stuck_in) l14 c14 k14
  have b14 := F14.binds (ps := ["stages"]) fun _ _ _ _ _ _ us hl => match us, hl with | [_], _ => rfl
  have F15 := fun_mk (st := s_routing_in) l15 c15 k15
  have b15 := F15.binds (ps := ["stages"]) fun _ _ _ _ _ _ us hl => match us, hl with | [_], _ => rfl
  have F16 := fun_mk (st := s_routing_for) l16 c16 k16
  have b16 := F16.binds (ps := ["names"]) fun _ _ _ _ _ _ us hl => match us, hl with | [_], _ => rfl
  have F17 := fun_mk (st := s_diagonal_of) l17 c17 k17
  have b17 := F17.binds (ps := ["name"]) fun _ _ _ _ _ _ us hl => match us, hl with | [_], _ => rfl
  have F18 := fun_mk (st := s_cell_of) l18 c18 k18
  have b18 := F18.binds (ps := ["name"]) fun _ _ _ _ _ _ us hl => match us, hl with | [_], _ => rfl
  have F19 := fun_mk (st := s_send) l19 c19 k19
  have b19 := F19.binds (ps := ["coming", "name", "many"]) fun _ _ _ _ _ _ us hl => match us, hl with | [_, _, _], _ => rfl
  have F20 := fun_mk (st := s_send_on) l20 c20 k20
  have b20 := F20.binds (ps := ["coming", "name", "right", "down"]) fun _ _ _ _ _ _ us hl => match us, hl with | [_, _, _, _], _ => rfl
  have F21 := fun_mk (st := s_is_routing_item) l21 c21 k21
  have b21 := F21.binds (ps := ["value"]) fun _ _ _ _ _ _ us hl => match us, hl with | [_], _ => rfl
  have F22 := fun_mk (st := s_is_routing) l22 c22 k22
  have b22 := F22.binds (ps := ["names", "value"]) fun _ _ _ _ _ _ us hl => match us, hl with | [_, _], _ => rfl
  have F23 := fun_mk (st := s_law_pot) l23 c23 k23
  have b23 := F23.binds (ps := ["script", "k"]) fun _ _ _ _ _ _ us hl => match us, hl with | [_, _], _ => rfl
  have F24 := fun_mk (st := s_law_take) l24 c24 k24
  have b24 := F24.binds (ps := ["pot", "many"]) fun _ _ _ _ _ _ us hl => match us, hl with | [_, _], _ => rfl
  have F25 := fun_mk (st := s_law_drawn) l25 c25 k25
  have b25 := F25.binds (ps := ["pot", "count"]) fun _ _ _ _ _ _ us hl => match us, hl with | [_, _], _ => rfl
  have F26 := fun_mk (st := s_law_some) l26 c26 k26
  have b26 := F26.binds (ps := ["pot", "things", "many"]) fun _ _ _ _ _ _ us hl => match us, hl with | [_, _, _], _ => rfl
  have F27 := fun_mk (st := s_law_list) l27 c27 k27
  have b27 := F27.binds (ps := ["pot", "count"]) fun _ _ _ _ _ _ us hl => match us, hl with | [_, _], _ => rfl
  have F28 := fun_mk (st := s_law_sends) l28 c28 k28
  have b28 := F28.binds (ps := ["entered", "is_listed"]) fun _ _ _ _ _ _ us hl => match us, hl with | [_, _], _ => rfl
  have F29 := fun_mk (st := s_law_next) l29 c29 k29
  have b29 := F29.binds (ps := ["state", "names", "diagonal"]) fun _ _ _ _ _ _ us hl => match us, hl with | [_, _, _], _ => rfl
  have F30 := fun_mk (st := s_law_stuck) l30 c30 k30
  have b30 := F30.binds (ps := ["names"]) fun _ _ _ _ _ _ us hl => match us, hl with | [_], _ => rfl
  have F31 := fun_mk (st := s_law_told) l31 c31 k31
  have b31 := F31.binds (ps := ["names"]) fun _ _ _ _ _ _ us hl => match us, hl with | [_], _ => rfl
  have F32 := fun_mk (st := s_law_is_routing) l32 c32 k32
  have b32 := F32.binds (ps := ["names", "value"]) fun _ _ _ _ _ _ us hl => match us, hl with | [_, _], _ => rfl
  have F33 := fun_mk (st := s_law) l33 c33 k33
  have b33 := F33.binds (ps := ["script"]) fun _ _ _ _ _ _ us hl => match us, hl with | [_], _ => rfl
  have m : Mo l.prog K mg ⟨f0, (PySem.W.fnOf "is_integer" "is_integer" (defArgs s_is_integer) (defBody s_is_integer) (defScope s_is_integer) .none kV0 dc0 pm0 an0 cd0 ct0), f1, (PySem.W.fnOf "is_integer_list" "is_integer_list" (defArgs s_is_integer_list) (defBody s_is_integer_list) (defScope s_is_integer_list) .none kV1 dc1 pm1 an1 cd1 ct1), f2, (PySem.W.fnOf "is_name_list" "is_name_list" (defArgs s_is_name_list) (defBody s_is_name_list) (defScope s_is_name_list) .none kV2 dc2 pm2 an2 cd2 ct2), f3, (PySem.W.fnOf "check_names" "check_names" (defArgs s_check_names) (defBody s_check_names) (defScope s_check_names) .none kV3 dc3 pm3 an3 cd3 ct3), f4, (PySem.W.fnOf "ways_on" "ways_on" (defArgs s_ways_on) (defBody s_ways_on) (defScope s_ways_on) .none kV4 dc4 pm4 an4 cd4 ct4), f5, (PySem.W.fnOf "row_with_cell" "row_with_cell" (defArgs s_row_with_cell) (defBody s_row_with_cell) (defScope s_row_with_cell) .none kV5 dc5 pm5 an5 cd5 ct5), f6, (PySem.W.fnOf "_ways_from" "_ways_from" (defArgs s_ways_from) (defBody s_ways_from) (defScope s_ways_from) .none kV6 dc6 pm6 an6 cd6 ct6), f7, (PySem.W.fnOf "_stage_after" "_stage_after" (defArgs s_stage_after) (defBody s_stage_after) (defScope s_stage_after) .none kV7 dc7 pm7 an7 cd7 ct7), f8, (PySem.W.fnOf "is_integer_within" "is_integer_within" (defArgs s_is_integer_within) (defBody s_is_integer_within) (defScope s_is_integer_within) .none kV8 dc8 pm8 an8 cd8 ct8), f9, (PySem.W.fnOf "_check_coordinate" "_check_coordinate" (defArgs s_check_coordinate) (defBody s_check_coordinate) (defScope s_check_coordinate) .none kV9 dc9 pm9 an9 cd9 ct9), f10, (PySem.W.fnOf "_cells_before" "_cells_before" (defArgs s_cells_before) (defBody s_cells_before) (defScope s_cells_before) .none kV10 dc10 pm10 an10 cd10 ct10), f11, (PySem.W.fnOf "name_of" "name_of" (defArgs s_name_of) (defBody s_name_of) (defScope s_name_of) .none kV11 dc11 pm11 an11 cd11 ct11), f12, (PySem.W.fnOf "stages_of" "stages_of" (defArgs s_stages_of) (defBody s_stages_of) (defScope s_stages_of) .none kV12 dc12 pm12 an12 cd12 ct12), f13, (PySem.W.fnOf "_stages_of" "_stages_of" (defArgs s_stages_of_p) (defBody s_stages_of_p) (defScope s_stages_of_p) .none kV13 dc13 pm13 an13 cd13 ct13), f14, (PySem.W.fnOf "_stuck_in" "_stuck_in" (defArgs s_stuck_in) (defBody s_stuck_in) (defScope s_stuck_in) .none kV14 dc14 pm14 an14 cd14 ct14), f15, (PySem.W.fnOf "_routing_in" "_routing_in" (defArgs s_routing_in) (defBody s_routing_in) (defScope s_routing_in) .none kV15 dc15 pm15 an15 cd15 ct15), f16, (PySem.W.fnOf "routing_for" "routing_for" (defArgs s_routing_for) (defBody s_routing_for) (defScope s_routing_for) .none kV16 dc16 pm16 an16 cd16 ct16), f17, (PySem.W.fnOf "_diagonal_of" "_diagonal_of" (defArgs s_diagonal_of) (defBody s_diagonal_of) (defScope s_diagonal_of) .none kV17 dc17 pm17 an17 cd17 ct17), f18, (PySem.W.fnOf "cell_of" "cell_of" (defArgs s_cell_of) (defBody s_cell_of) (defScope s_cell_of) .none kV18 dc18 pm18 an18 cd18 ct18), f19, (PySem.W.fnOf "_send" "_send" (defArgs s_send) (defBody s_send) (defScope s_send) .none kV19 dc19 pm19 an19 cd19 ct19), f20, (PySem.W.fnOf "_send_on" "_send_on" (defArgs s_send_on) (defBody s_send_on) (defScope s_send_on) .none kV20 dc20 pm20 an20 cd20 ct20), f21, (PySem.W.fnOf "_is_routing_item" "_is_routing_item" (defArgs s_is_routing_item) (defBody s_is_routing_item) (defScope s_is_routing_item) .none kV21 dc21 pm21 an21 cd21 ct21), f22, (PySem.W.fnOf "is_routing" "is_routing" (defArgs s_is_routing) (defBody s_is_routing) (defScope s_is_routing) .none kV22 dc22 pm22 an22 cd22 ct22), f23, (PySem.W.fnOf "_law_pot" "_law_pot" (defArgs s_law_pot) (defBody s_law_pot) (defScope s_law_pot) .none kV23 dc23 pm23 an23 cd23 ct23), f24, (PySem.W.fnOf "_law_take" "_law_take" (defArgs s_law_take) (defBody s_law_take) (defScope s_law_take) .none kV24 dc24 pm24 an24 cd24 ct24), f25, (PySem.W.fnOf "_law_drawn" "_law_drawn" (defArgs s_law_drawn) (defBody s_law_drawn) (defScope s_law_drawn) .none kV25 dc25 pm25 an25 cd25 ct25), f26, (PySem.W.fnOf "_law_some" "_law_some" (defArgs s_law_some) (defBody s_law_some) (defScope s_law_some) .none kV26 dc26 pm26 an26 cd26 ct26), f27, (PySem.W.fnOf "_law_list" "_law_list" (defArgs s_law_list) (defBody s_law_list) (defScope s_law_list) .none kV27 dc27 pm27 an27 cd27 ct27), f28, (PySem.W.fnOf "_law_sends" "_law_sends" (defArgs s_law_sends) (defBody s_law_sends) (defScope s_law_sends) .none kV28 dc28 pm28 an28 cd28 ct28), f29, (PySem.W.fnOf "_law_next" "_law_next" (defArgs s_law_next) (defBody s_law_next) (defScope s_law_next) .none kV29 dc29 pm29 an29 cd29 ct29), f30, (PySem.W.fnOf "_law_stuck" "_law_stuck" (defArgs s_law_stuck) (defBody s_law_stuck) (defScope s_law_stuck) .none kV30 dc30 pm30 an30 cd30 ct30), f31, (PySem.W.fnOf "_law_told" "_law_told" (defArgs s_law_told) (defBody s_law_told) (defScope s_law_told) .none kV31 dc31 pm31 an31 cd31 ct31), f32, (PySem.W.fnOf "_law_is_routing" "_law_is_routing" (defArgs s_law_is_routing) (defBody s_law_is_routing) (defScope s_law_is_routing) .none kV32 dc32 pm32 an32 cd32 ct32), fa, (PySem.W.fnOf "law" "law" (defArgs s_law) (defBody s_law) (defScope s_law) .none kV33 dc33 pm33 an33 cd33 ct33), xC_Impossible, xF_Impossible, (PySem.W.fnX "__init__" "Impossible.__init__" (defArgs s_x_Impossible) (defBody s_x_Impossible) (defScope s_x_Impossible) [("__class__", xK_Impossible)] .none .none xdoc_Impossible xpm_Impossible xan_Impossible (.ref xA_Impossible) xct_Impossible), xK_Impossible⟩ := by
    constructor
    · exact F0
    · exact b0
    · exact PySem.W.mg_of X G a0
    · exact F1
    · exact b1
    · exact PySem.W.mg_of X G a1
    · exact F2
    · exact b2
    · exact PySem.W.mg_of X G a2
    · exact F3
    · exact b3
    · exact PySem.W.mg_of X G a3
    · exact F4
    · exact b4
    · exact PySem.W.mg_of X G a4
    · exact F5
    · exact b5
    · exact PySem.W.mg_of X G a5
    · exact F6
    · exact b6
    · exact PySem.W.mg_of X G a6
    · exact F7
    · exact b7
    · exact PySem.W.mg_of X G a7
    · exact F8
    · exact b8
    · exact PySem.W.mg_of X G a8
    · exact F9
    · exact b9
    · exact PySem.W.mg_of X G a9
    · exact F10
    · exact b10
    · exact PySem.W.mg_of X G a10
    · exact F11
    · exact b11
    · exact PySem.W.mg_of X G a11
    · exact F12
    · exact b12
    · exact PySem.W.mg_of X G a12
    · exact F13
    · exact b13
    · exact PySem.W.mg_of X G a13
    · exact F14
    · exact b14
    · exact PySem.W.mg_of X G a14
    · exact F15
    · exact b15
    · exact PySem.W.mg_of X G a15
    · exact F16
    · exact b16
    · exact PySem.W.mg_of X G a16
    · exact F17
    · exact b17
    · exact PySem.W.mg_of X G a17
    · exact F18
    · exact b18
    · exact PySem.W.mg_of X G a18
    · exact F19
    · exact b19
    · exact PySem.W.mg_of X G a19
    · exact F20
    · exact b20
    · exact PySem.W.mg_of X G a20
    · exact F21
    · exact b21
    · exact PySem.W.mg_of X G a21
    · exact F22
    · exact b22
    · exact PySem.W.mg_of X G a22
    · exact F23
    · exact b23
    · exact PySem.W.mg_of X G a23
    · exact F24
    · exact b24
    · exact PySem.W.mg_of X G a24
    · exact F25
    · exact b25
    · exact PySem.W.mg_of X G a25
    · exact F26
    · exact b26
    · exact PySem.W.mg_of X G a26
    · exact F27
    · exact b27
    · exact PySem.W.mg_of X G a27
    · exact F28
    · exact b28
    · exact PySem.W.mg_of X G a28
    · exact F29
    · exact b29
    · exact PySem.W.mg_of X G a29
    · exact F30
    · exact b30
    · exact PySem.W.mg_of X G a30
    · exact F31
    · exact b31
    · exact PySem.W.mg_of X G a31
    · exact F32
    · exact b32
    · exact PySem.W.mg_of X G a32
    · exact F33
    · exact b33
    · exact PySem.W.mg_of X G a33
    · exact PySem.W.mg_of X G xa_Impossible
    · exact xs_Impossible
    · exact xt_Impossible
    · exact xk_Impossible
    · exact xd_Impossible
    · exact xe_Impossible_Impossible
    · exact PySem.W.mg_none_of X G z_bool
    · exact PySem.W.mg_none_of X G z_enumerate
    · exact PySem.W.mg_none_of X G z_int
    · exact PySem.W.mg_none_of X G z_isinstance
    · exact PySem.W.mg_none_of X G z_len
    · exact PySem.W.mg_none_of X G z_list
    · exact PySem.W.mg_none_of X G z_max
    · exact PySem.W.mg_none_of X G z_min
    · exact PySem.W.mg_none_of X G z_range
    · exact PySem.W.mg_none_of X G z_repr
    · exact PySem.W.mg_none_of X G z_reversed
    · exact PySem.W.mg_none_of X G z_set
    · exact PySem.W.mg_none_of X G z_sorted
    · exact PySem.W.mg_none_of X G z_sum
    · exact PySem.W.mg_none_of X G z_tuple
    · exact PySem.W.mg_none_of X G z_zip
    · exact PySem.W.mg_of X G im_isqrt
    · exact ⟨_, PySem.W.mg_of X G q0⟩
    · exact ⟨_, PySem.W.mg_of X G q1⟩
    · exact ⟨_, PySem.W.mg_of X G q2⟩
    · exact Vg.OwnX.of oC_Impossible oB_Impossible oS_Impossible xs_Impossible xt_Impossible xk_Impossible oL_Impossible oD_Impossible oR_Impossible oV_Impossible oW_Impossible oK_Impossible ⟨_, rfl, rfl⟩ oT_Impossible (PySem.W.mg_none_of X G oM_Impossible) oX_Impossible oI_Impossible oU_Impossible oE_Impossible rfl rfl rfl oi_Impossible ot_Impossible (.all fun us hl => match us, hl with | [_, _], _ => rfl) oN_Impossible oG_Impossible oH_Impossible xd_Impossible
  refine ⟨(PySem.W.fnOf "law" "law" (defArgs s_law) (defBody s_law) (defScope s_law) .none kV33 dc33 pm33 an33 cd33 ct33), fun s v => .of_eq rfl, fun bs _ _ smq => ?_⟩
  have G_x_Impossible := ok_x_Impossible (P := l.prog) (w := w) (bs := bs) m
  have G_is_integer := ok_is_integer (P := l.prog) (w := w) (bs := bs) m (smq hq) 
  have G_is_integer_list := ok_is_integer_list (P := l.prog) (w := w) (bs := bs) m (smq hq) G_is_integer
  have G_is_name_list := ok_is_name_list (P := l.prog) (w := w) (bs := bs) m (smq hq) G_is_integer_list
  have G_check_names := ok_check_names (P := l.prog) (w := w) (bs := bs) m (smq hq) G_is_name_list
  have G_ways_on := ok_ways_on (P := l.prog) (w := w) (bs := bs) m (smq hq) 
  have G_row_with_cell := ok_row_with_cell (P := l.prog) (w := w) (bs := bs) m (smq hq) 
  have G_ways_from := ok_ways_from (P := l.prog) (w := w) (bs := bs) m (smq hq) G_ways_on G_row_with_cell
  have G_stage_after := ok_stage_after (P := l.prog) (w := w) (bs := bs) m (smq hq) G_ways_from
  have G_is_integer_within := ok_is_integer_within (P := l.prog) (w := w) (bs := bs) m (smq hq) G_is_integer
  have G_check_coordinate := ok_check_coordinate (P := l.prog) (w := w) (bs := bs) m (smq hq) G_is_integer_within
  have G_cells_before := ok_cells_before (P := l.prog) (w := w) (bs := bs) m (smq hq) 
  have G_name_of := ok_name_of (P := l.prog) (w := w) (bs := bs) m (smq hq) G_check_coordinate G_cells_before
  have G_stages_of := ok_stages_of (P := l.prog) (w := w) (bs := bs) m (smq hq) G_stage_after G_name_of
  have G_stages_of_p := ok_stages_of_p (P := l.prog) (w := w) (bs := bs) m (smq hq) G_stages_of
  have G_stuck_in := ok_stuck_in (P := l.prog) (w := w) (bs := bs) m (smq hq) 
  have G_routing_in := ok_routing_in (P := l.prog) (w := w) (bs := bs) m (smq hq) G_name_of
  have G_routing_for := ok_routing_for (P := l.prog) (w := w) (bs := bs) m (smq hq) G_x_Impossible G_check_names G_stages_of_p G_stuck_in G_routing_in
  have G_diagonal_of := ok_diagonal_of (P := l.prog) (w := w) (bs := bs) m (smq hq) 
  have G_cell_of := ok_cell_of (P := l.prog) (w := w) (bs := bs) m (smq hq) G_is_integer_within G_cells_before G_diagonal_of
  have G_send := ok_send (P := l.prog) (w := w) (bs := bs) m (smq hq) 
  have G_send_on := ok_send_on (P := l.prog) (w := w) (bs := bs) m (smq hq) G_name_of G_cell_of G_send
  have G_is_routing_item := ok_is_routing_item (P := l.prog) (w := w) (bs := bs) m (smq hq) G_is_integer
  have G_is_routing := ok_is_routing (P := l.prog) (w := w) (bs := bs) m (smq hq) G_check_names G_ways_on G_send_on G_is_routing_item
  have G_law_pot := ok_law_pot (P := l.prog) (w := w) (bs := bs) m (smq hq) 
  have G_law_take := ok_law_take (P := l.prog) (w := w) (bs := bs) m (smq hq) 
  have G_law_drawn := ok_law_drawn (P := l.prog) (w := w) (bs := bs) m (smq hq) G_law_take
  have G_law_some := ok_law_some (P := l.prog) (w := w) (bs := bs) m (smq hq) G_law_take
  have G_law_list := ok_law_list (P := l.prog) (w := w) (bs := bs) m (smq hq) G_law_take G_law_drawn G_law_some
  have G_law_sends := ok_law_sends (P := l.prog) (w := w) (bs := bs) m (smq hq) 
  have G_law_next := ok_law_next (P := l.prog) (w := w) (bs := bs) m (smq hq) G_law_sends
  have G_law_stuck := ok_law_stuck (P := l.prog) (w := w) (bs := bs) m (smq hq) G_law_next
  have G_law_told := ok_law_told (P := l.prog) (w := w) (bs := bs) m (smq hq) G_routing_for
  have G_law_is_routing := ok_law_is_routing (P := l.prog) (w := w) (bs := bs) m (smq hq) 
  have G_law := ok_law (P := l.prog) (w := w) (bs := bs) m (smq hq) G_routing_for G_is_routing G_law_pot G_law_take G_law_list G_law_stuck G_law_told G_law_is_routing
  exact G_law
end My
open PySem PySem.W PyProof.Rows
set_option maxHeartbeats 0 in
theorem PySem.Challenge.cw_splitnames_k20_routings_returned_holds : PySem.Challenge.rw_splitnames_k20_routings_returned.Holds := by
  w_on; o_law; k_head; (case hw => w_witness2)
  k_fill
  refine Vg.walk_q (l := PySem.Challenge.rw_splitnames_k20_routings_returned) (n := 63) (k := 9) (x := "script") (C := fun _ => L2.CX0) (sp := fun w => My.sp_law _) rfl (by decide) rfl ⟨rfl, by decide, by decide⟩ (fun w h Y => PySem.W.kIn_of Y) ?F (fun _ _ a ns hl hb _ hS => My.law_end hl hb hS) (fun _ _ _ _ _ h => h)
  case F =>
    intro w mg fa h KX G hmg
    refine' My.all_mk (by decide +kernel) KX G hmg ?a0 ?l0 ?c0 ?k0 ?a1 ?l1 ?c1 ?k1 ?a2 ?l2 ?c2 ?k2 ?a3 ?l3 ?c3 ?k3 ?a4 ?l4 ?c4 ?k4 ?a5 ?l5 ?c5 ?k5 ?a6 ?l6 ?c6 ?k6 ?a7 ?l7 ?c7 ?k7 ?a8 ?l8 ?c8 ?k8 ?a9 ?l9 ?c9 ?k9 ?a10 ?l10 ?c10 ?k10 ?a11 ?l11 ?c11 ?k11 ?a12 ?l12 ?c12 ?k12 ?a13 ?l13 ?c13 ?k13 ?a14 ?l14 ?c14 ?k14 ?a15 ?l15 ?c15 ?k15 ?a16 ?l16 ?c16 ?k16 ?a17 ?l17 ?c17 ?k17 ?a18 ?l18 ?c18 ?k18 ?a19 ?l19 ?c19 ?k19 ?a20 ?l20 ?c20 ?k20 ?a21 ?l21 ?c21 ?k21 ?a22 ?l22 ?c22 ?k22 ?a23 ?l23 ?c23 ?k23 ?a24 ?l24 ?c24 ?k24 ?a25 ?l25 ?c25 ?k25 ?a26 ?l26 ?c26 ?k26 ?a27 ?l27 ?c27 ?k27 ?a28 ?l28 ?c28 ?k28 ?a29 ?l29 ?c29 ?k29 ?a30 ?l30 ?c30 ?k30 ?a31 ?l31 ?c31 ?k31 ?a32 ?l32 ?c32 ?k32 ?a33 ?l33 ?c33 ?k33 ?xa_Impossible ?xs_Impossible ?xt_Impossible ?xk_Impossible ?xd_Impossible ?xe_Impossible_Impossible ?oC_Impossible ?oB_Impossible ?oS_Impossible ?oi_Impossible ?ot_Impossible ?oL_Impossible ?oD_Impossible ?oR_Impossible ?oV_Impossible ?oW_Impossible ?oK_Impossible ?oT_Impossible ?oM_Impossible ?oX_Impossible ?oI_Impossible ?oU_Impossible ?oE_Impossible ?oN_Impossible ?oG_Impossible ?oH_Impossible ?z_bool ?z_enumerate ?z_int ?z_isinstance ?z_len ?z_list ?z_max ?z_min ?z_range ?z_repr ?z_reversed ?z_set ?z_sorted ?z_sum ?z_tuple ?z_zip ?im_isqrt ?q0 ?q1 ?q2
    (case a0 => k_is)
    (case l0 => k_is)
    (case c0 => k_is)
    (case k0 => k_is)
    (case a1 => k_is)
    (case l1 => k_is)
    (case c1 => k_is)
    (case k1 => k_is)
    (case a2 => k_is)
    (case l2 => k_is)
    (case c2 => k_is)
    (case k2 => k_is)
    (case a3 => k_is)
    (case l3 => k_is)
    (case c3 => k_is)
    (case k3 => k_is)
    (case a4 => k_is)
    (case l4 => k_is)
    (case c4 => k_is)
    (case k4 => k_is)
    (case a5 => k_is)
    (case l5 => k_is)
    (case c5 => k_is)
    (case k5 => k_is)
    (case a6 => k_is)
    (case l6 => k_is)
    (case c6 => k_is)
    (case k6 => k_is)
    (case a7 => k_is)
    (case l7 => k_is)
    (case c7 => k_is)
    (case k7 => k_is)
    (case a8 => k_is)
    (case l8 => k_is)
    (case c8 => k_is)
    (case k8 => k_is)
    (case a9 => k_is)
    (case l9 => k_is)
    (case c9 => k_is)
    (case k9 => k_is)
    (case a10 => k_is)
    (case l10 => k_is)
    (case c10 => k_is)
    (case k10 => k_is)
    (case a11 => k_is)
    (case l11 => k_is)
    (case c11 => k_is)
    (case k11 => k_is)
    (case a12 => k_is)
    (case l12 => k_is)
    (case c12 => k_is)
    (case k12 => k_is)
    (case a13 => k_is)
    (case l13 => k_is)
    (case c13 => k_is)
    (case k13 => k_is)
    (case a14 => k_is)
    (case l14 => k_is)
    (case c14 => k_is)
    (case k14 => k_is)
    (case a15 => k_is)
    (case l15 => k_is)
    (case c15 => k_is)
    (case k15 => k_is)
    (case a16 => k_is)
    (case l16 => k_is)
    (case c16 => k_is)
    (case k16 => k_is)
    (case a17 => k_is)
    (case l17 => k_is)
    (case c17 => k_is)
    (case k17 => k_is)
    (case a18 => k_is)
    (case l18 => k_is)
    (case c18 => k_is)
    (case k18 => k_is)
    (case a19 => k_is)
    (case l19 => k_is)
    (case c19 => k_is)
    (case k19 => k_is)
    (case a20 => k_is)
    (case l20 => k_is)
    (case c20 => k_is)
    (case k20 => k_is)
    (case a21 => k_is)
    (case l21 => k_is)
    (case c21 => k_is)
    (case k21 => k_is)
    (case a22 => k_is)
    (case l22 => k_is)
    (case c22 => k_is)
    (case k22 => k_is)
    (case a23 => k_is)
    (case l23 => k_is)
    (case c23 => k_is)
    (case k23 => k_is)
    (case a24 => k_is)
    (case l24 => k_is)
    (case c24 => k_is)
    (case k24 => k_is)
    (case a25 => k_is)
    (case l25 => k_is)
    (case c25 => k_is)
    (case k25 => k_is)
    (case a26 => k_is)
    (case l26 => k_is)
    (case c26 => k_is)
    (case k26 => k_is)
    (case a27 => k_is)
    (case l27 => k_is)
    (case c27 => k_is)
    (case k27 => k_is)
    (case a28 => k_is)
    (case l28 => k_is)
    (case c28 => k_is)
    (case k28 => k_is)
    (case a29 => k_is)
    (case l29 => k_is)
    (case c29 => k_is)
    (case k29 => k_is)
    (case a30 => k_is)
    (case l30 => k_is)
    (case c30 => k_is)
    (case k30 => k_is)
    (case a31 => k_is)
    (case l31 => k_is)
    (case c31 => k_is)
    (case k31 => k_is)
    (case a32 => k_is)
    (case l32 => k_is)
    (case c32 => k_is)
    (case k32 => k_is)
    (case a33 => k_is)
    (case l33 => k_is)
    (case c33 => k_is)
    (case k33 => k_is)
    (case xa_Impossible => k_is)
    (case xs_Impossible => k_is)
    (case xt_Impossible => k_is)
    (case xk_Impossible => k_is)
    (case xd_Impossible => k_is)
    (case xe_Impossible_Impossible => first | rfl | k_is)
    (case oC_Impossible => k_is)
    (case oB_Impossible => first | rfl | decide +kernel)
    (case oS_Impossible => k_is)
    (case oi_Impossible => k_is)
    (case ot_Impossible => k_is)
    (case oL_Impossible => k_is)
    (case oD_Impossible => k_is)
    (case oR_Impossible => k_is)
    (case oV_Impossible => first | rfl | decide +kernel)
    (case oW_Impossible => first | rfl | decide +kernel)
    (case oK_Impossible => k_is)
    (case oT_Impossible => first | rfl | decide +kernel)
    (case oM_Impossible => k_is)
    (case oX_Impossible => k_is)
    (case oI_Impossible => ks_is)
    (case oU_Impossible => k_is)
    (case oE_Impossible => k_is)
    (case oN_Impossible => k_is)
    (case oG_Impossible => k_is)
    (case oH_Impossible => k_is)
    (case z_bool => k_is)
    (case z_enumerate => k_is)
    (case z_int => k_is)
    (case z_isinstance => k_is)
    (case z_len => k_is)
    (case z_list => k_is)
    (case z_max => k_is)
    (case z_min => k_is)
    (case z_range => k_is)
    (case z_repr => k_is)
    (case z_reversed => k_is)
    (case z_set => k_is)
    (case z_sorted => k_is)
    (case z_sum => k_is)
    (case z_tuple => k_is)
    (case z_zip => k_is)
    (case im_isqrt => k_is)
    (case q0 => k_is)
    (case q1 => k_is)
    (case q2 => k_is)

