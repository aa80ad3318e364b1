import PyProof.Rows.All
import Wide.All
import OpenK.AllK
import Wide.FinOn
import PyProof.ReprRoads
import HandS.ForMost
import HandS.ForExc
import HandS.Wide
import HandS.EndBits
import HandS.FStrTup
import HandS.Flow
import HandS.IsInst
import HandS.SetFor
import HandS.Conv
import HandS.Style
import HandS.Sort
import HandS.Gcd
import KE.KMathG
import PyProof.StrBlock2
import HandS.Text
import HandS.StrMore
import HandS.Property
import HandS.MethStar
import HandS.ClsMeth
import HandS.WordsExc
import HandS.ExcOwn
import HandS.RaiseMore
import HandS.FStr
import HandS.TryOnly
import HandS.ExcIs
import HandS.NoneIn
import KE.DataMinMax
import Flt.Sum
import HandS.SlotsOwn
import HandS.More
import HandS.WordsDict
import HandS.Strs
import PyProof.Rows.SetFrom
import HandS.DictTup
import HandS.TupAny
import HandS.CallLocal
import HandS.Zip
import KE.GoesEnum
import KE.GoesMore
import PyProof.Rows.TupDisplay
import HandS.Replace
import HandS.ReplaceLit
import HandS.ReplaceList
import HandS.TupMul
import HandS.TupSets
import HandS.Rev
import HandS.Deep
import PyProof.EnumMake
import KE.KDictZip
import KE.KDictItemsList
import HandS.Nested
import HandS.ExcInit
import KE.KExcSuper
import HandS.ExcField
import PyProof.FactsAll.dict_2
import KE.KDictKeyed
import KE.SortData
import KE.KDictWalk
import HandS.SetKeys
import PySem.Challenge.RW_splitnames_k30_sets_counted_and_numbered
set_option Elab.async false
set_option linter.all false
set_option maxRecDepth 100000
set_option maxHeartbeats 2000000
namespace Vg
open PySem PySem.Spec PyProof.Rows L2

/-- a def's promise where no repr is under way around the call -/
structure Fg (P : Program) (w : World) (K : PySem.W.Frag) (mg : Str → Option Value) (bs : Heap) (C : CXT) (n : Nat) (f : Addr) (fd : FuncData) (ps : List Str) (sp : Sp) : Prop where
  ar : ∀ vs H Q E, sp vs H Q E → vs.length = ps.length
  go : ∀ (A : Around) (fr : List Env) (s : Shared) (H : Hp) (gs : Args) (us : List Value) (vs : List V) (Q : VK) (E : XK), A.guards = some [] → Room n A → Env0 P w K mg bs A fr s H →
    BindsTo s fd gs (ps.zip us) → Vals vs us → sp vs H Q E → codeAny (model P w) A (.call (.ref f) gs) (CR C fr P w H s Q E) s

section
variable {P : Program} {w : World} {K : PySem.W.Frag} {mg : Str → Option Value} {bs : Heap} {C : CXT} {n : Nat} {f : Addr} {fd : FuncData} {ps : List Str} {sp : Sp}
theorem Fg.up {m : Nat} (F : Fg P w K mg bs C n f fd ps sp) (h : n ≤ m) : Fg P w K mg bs C m f fd ps sp :=
  ⟨F.ar, fun A fr s H gs us vs Q E g r => F.go A fr s H gs us vs Q E g (r.mono h)⟩
theorem Fg.weaker {sq : Sp} (F : Fg P w K mg bs C n f fd ps sp) (h : ∀ vs H Q E, sq vs H Q E → sp vs H Q E) : Fg P w K mg bs C n f fd ps sq :=
  ⟨fun vs H Q E q => F.ar vs H Q E (h _ _ _ _ q), fun A fr s H gs us vs Q E g r e b v q => F.go A fr s H gs us vs Q E g r e b v (h _ _ _ _ q)⟩

/-- from a body's reading -/
theorem Fg.mk' {N : List Str} {nm qual : Str} {pr : Arguments} {body : List Stmt} {sc : Scope} {dV kV doc pm cdv ct oc : Value} {an od : Option Addr} {osl : Array (Option Value)}
    (lk : K.lookup f = some ⟨oc, od, .func (PySem.W.fnOf nm qual pr body sc dV kV doc pm an cdv ct), osl⟩) (hc : PySem.W.codeIn K cdv qual = true) (S : FnScope N ps sc)
    (ar : ∀ vs H Q E, sp vs H Q E → vs.length = ps.length)
    (hb : ∀ (A : Around) (fr : List Env) (s : Shared) (H : Hp) (vs : List V) (Q : VK) (E : XK), A.guards = some [] → Room n (A.deeper (envOfC qual sc s.heap.objs.size f cdv)) → sp vs H Q E →
      ∃ t, PSs (cxOf C P w K mg bs N qual sc f cdv A fr s H E) body t ∧ t { nx := fun _ H' => Q .non H', rt := Q } (start N vs) H) :
    Fg P w K mg bs C (n + 1) f (PySem.W.fnOf nm qual pr body sc dV kV doc pm an cdv ct) ps sp := by
  refine ⟨ar, fun A fr s H gs us vs Q E hg rm e0 bd rv q => ?_⟩
  have ln := ar _ _ _ _ q
  have kx : K.In s.heap := e0.mod.kin.keeps (fun b o z => (e0.bs b o z).1)
  have nl : s.heap.NoLimit := e0.mod.nolimit.keeps (fun b o z => (e0.bs b o z).1)
  have kd : ∀ y ∈ ps.zip us, sc.names.lookup y.1 = some .local ∨ (sc.names.lookup y.1 = some .cell ∧ ((cellsFrom (s.heap.objs.size + 1) sc.names []).lookup y.1).isSome = true) := by
    rintro ⟨y, v⟩ hy
    cases S.par y (List.of_mem_zip hy).1 with
    | inl z => exact Or.inl z
    | inr z => exact Or.inr ⟨z, PySem.W.cellsFrom_some _ _ _ (Or.inl z)⟩
  refine codeAny_call_function rm.depth (kx _ _ lk) rfl S.co S.gen rfl (PySem.W.codeRec_of kx hc) (bd _ _ _ _ ?_)
  refine wpAny_newFunctionEnv_cells S.kind kd fun en he s1 x => ?_
  subst he
  refine ⟨nl.keeps x.toInCall.keep, codeAny_func ?_⟩
  obtain ⟨t, ht, hq⟩ := hb A fr s H vs Q E hg (rm.deeper _) q
  have I : Inv (cxOf C P w K mg bs N qual sc f cdv A fr s H E) [] (start N vs) H s1 := inv_start S rm.hd e0 ln rv x
  refine wpAny_mono (ht.run [] s1 (start N vs) H _ I hq) (fun fl s' z => ?_) fun e s' z => z
  cases fl with
  | ret u =>
    obtain ⟨v, σ', H', J, r, q'⟩ := z
    exact ⟨v, H', J.os, J.bare, J.base, J.hok, r, q'⟩
  | next =>
    obtain ⟨σ', H', J, q'⟩ := z
    exact ⟨V.non, H', J.os, J.bare, J.base, J.hok, rfl, q'⟩
  | brk => exact z.elim fun _ z => z.elim fun _ z => z.2.elim
  | cont => exact z.elim fun _ z => z.elim fun _ z => z.2.elim
/-- a def of the text; the body may raise -/
theorem okX {N : List Str} {x qual : Str} {st : Stmt} (F : Fun K x qual st f fd) (S : FnScope N ps (defScope st)) (ar : ∀ vs H Q E, sp vs H Q E → vs.length = ps.length)
    (hb : ∀ (cdv : Value) (A : Around) (fr : List Env) (s : Shared) (H : Hp) (vs : List V) (Q : VK) (E : XK), A.guards = some [] → Room n (A.deeper (envOfC qual (defScope st) s.heap.objs.size f cdv)) → sp vs H Q E →
      ∃ t, PSs (cxOf C P w K mg bs N qual (defScope st) f cdv A fr s H E) (defBody st) t ∧ t { nx := fun _ H' => Q .non H', rt := Q } (start N vs) H) : Fg P w K mg bs C (n + 1) f fd ps sp := by
  obtain ⟨oc, od, kV, doc, pm, an, cdv, ct, osl, rfl, lk, hc⟩ := F.ex
  exact Fg.mk' lk hc S ar fun A fr s H vs Q E => hb cdv A fr s H vs Q E
/-- a def of the text that lets nothing out -/
theorem ok {N : List Str} {x qual : Str} {st : Stmt} (F : Fun K x qual st f fd) (S : FnScope N ps (defScope st)) (ar : ∀ vs H Q E, sp vs H Q E → vs.length = ps.length)
    (hb : ∀ (cdv : Value) (A : Around) (fr : List Env) (s : Shared) (H : Hp) (vs : List V) (Q : VK) (E : XK), A.guards = some [] → Room n (A.deeper (envOfC qual (defScope st) s.heap.objs.size f cdv)) → sp vs H Q E →
      ∃ t, PSs (cxOf CX0 P w K mg bs N qual (defScope st) f cdv A fr s H E).nox (defBody st) t ∧ t { nx := fun _ H' => Q .non H', rt := Q } (start N vs) H) : Fg P w K mg bs CX0 (n + 1) f fd ps sp := by
  obtain ⟨oc, od, kV, doc, pm, an, cdv, ct, osl, rfl, lk, hc⟩ := F.ex
  refine Fg.mk' lk hc S ar fun A fr s H vs Q E g r q => ?_
  obtain ⟨t, h1, h2⟩ := hb cdv A fr s H vs Q E g r q
  exact ⟨t, h1.nox, h2⟩
end

section
variable {X : Cx} {C : CXT} {n : Nat} {f : Addr} {fd : FuncData} {ps : List Str} {sp : Sp} {dvs : List V} {ds : List Value} {E : XK} {x m : Str} {p pos apos : Pos} {e o : Expr} {es : List Expr} {ta : TE} {t : TA}
theorem goS {pins : List (Addr × Obj)} {σ : L2.St} {H : Hp} {s : Shared} {Q : VK} {us : List Value} {vs : List V} (F : Fg X.prog X.w X.K X.mg X.base C n f fd ps sp) (g : X.A.guards = some []) (r : Room n X.A)
    (b : Binds X.K fd ps ds) (d : Vals dvs ds) {E : XK} (hx : PassesAt C X σ E) (I : Inv X pins σ H s) (v : Vals vs us) (h : sp (vs ++ dvs) H Q E) : wpAny (model X.prog X.w) X.A (call (.ref f) us) (EP X pins σ Q) X.xe s := by
  have v2 : Vals (vs ++ dvs) (us ++ ds) := v.append d
  have hl : (us ++ ds).length = ps.length := v2.length ▸ F.ar _ _ _ _ h
  refine wpAny_call (codeAny_mono (F.go X.A X.stack s H ⟨us, []⟩ (us ++ ds) (vs ++ dvs) Q E g r I.env0 (b s us I.kIn hl) v2 h) fun z s' hz => ?_)
  match z, hz with
  | .error e, hz => exact hx pins H s e s' I hz
  | .ok (.ret u), hz => exact I.after hz
/-- f(..) -/
def tG (sp : Sp) (dvs : List V) (E : L2.St → XK) (t : TA) : TE := fun σ H Q => t σ H fun vs H1 => sp (vs ++ dvs) H1 Q (E σ)
def tMG (C : Addr) (m : Str) (sp : Sp) (dvs : List V) (E : L2.St → XK) (ta : TE) (t : TA) : TE := fun σ H Q => ta σ H fun x H1 => ∃ a dx fs, x = .ref a ∧ H1 a = some (.ins C dx fs) ∧ fs.lookup m = none ∧
  t σ H1 fun vs H2 => sp (x :: (vs ++ dvs)) H2 Q (E σ)
theorem passG {X : Cx} {σ : L2.St} : PassesAt CX0 X σ E0 := fun _ _ _ _ _ _ h => h.elim
theorem pg_call {E : L2.St → XK} (F : Fg X.prog X.w X.K X.mg X.base C n f fd ps sp) (g : X.A.guards = some []) (r : Room n X.A) (hg : Gl X x) (hm : X.mg x = some (.ref f)) (hk : PySem.W.keepIn X.K (.ref f) = true)
    (b : Binds X.K fd ps ds) (d : Vals dvs ds) (hx : ∀ σ, PassesAt C X σ (E σ)) (ha : PA X (e :: es) t) (hdb : (x == ("__debug__" : Str)) = false := by decide)
    (he : starEach (e :: es) X.env = (false, eval e X.env) :: starEach es X.env := by rfl) (hp : (backTo pos (starEach es X.env)).any (·.1) = false := by rfl) :
    PE X (.Call (.Name x p) (e :: es) [] pos) (tG sp dvs E t) := by
  refine ⟨fun pins s σ H Q I h => ?_⟩
  refine wpAny_Call_Name_kw (ld_glob I hg hm (PySem.W.callWith_K (h₀ := X.base) I.ok.mod.kin hk (thn (ha.run pos pins s σ H _ I h) ?_) he hp) hdb)
  rintro us s1 ⟨vs, H1, J, v, q⟩
  exact ⟨J.kIn, goS F g r b d (hx σ) J v q⟩
theorem pg_call0 {E : L2.St → XK} (F : Fg X.prog X.w X.K X.mg X.base C n f fd ps sp) (g : X.A.guards = some []) (r : Room n X.A) (hg : Gl X x) (hm : X.mg x = some (.ref f)) (hk : PySem.W.keepIn X.K (.ref f) = true)
    (b : Binds X.K fd ps ds) (d : Vals dvs ds) (hx : ∀ σ, PassesAt C X σ (E σ)) (hdb : (x == ("__debug__" : Str)) = false := by decide) : PE X (.Call (.Name x p) [] [] pos) (tG sp dvs E tNil) := by
  refine ⟨fun pins s σ H Q I h => ?_⟩
  exact wpAny_Call_Name_kw (ld_glob I hg hm (PySem.W.callWith_K0 I.kIn hk (goS (us := []) F g r b d (hx σ) I .nil h)) hdb)
theorem pg_meth {Cl : Addr} {E : L2.St → XK} {pl : Sem Bool} (he : PE X o ta) (c : Cls X.K Cl) (hm : Meth X.K Cl m f) (F : Fg X.prog X.w X.K X.mg X.base C n f fd ps sp) (g : X.A.guards = some []) (r : Room n X.A)
    (b : Binds X.K fd ps ds) (d : Vals dvs ds) (hx : ∀ σ, PassesAt C X σ (E σ)) (ha : PA X (e :: es) t)
    (hst : starEach (e :: es) X.env = (false, eval e X.env) :: starEach es X.env := by rfl) (hp : (backTo pos (starEach es X.env)).any (·.1) = false := by rfl)
    (ht : eval (.Call (.Attribute o m apos) (e :: es) [] pos) X.env = (do
      let ov ← eval o X.env
      standAt apos.atName
      let (f, first) ← holding [ov] (getMethod ov m pl)
      callWith pos f first (backTo pos (starEach (e :: es) X.env)) (backToKw pos (keywordEach [] X.env))) := by rfl) :
    PE X (.Call (.Attribute o m apos) (e :: es) [] pos) (tMG Cl m sp dvs E ta t) := by
  refine ⟨fun pins s σ H Q I h => ?_⟩
  refine PySem.W.methodCall_KW (pl := pl) (thn (he.run pins s σ H _ I h) ?_) ht
  rintro u s1 ⟨y, H1, J, ry, a, dx, fs, ey, ea, l, q⟩
  subst ey
  obtain rfl : u = Value.ref a := ry
  refine getmeth_ok J ea c hm l (PySem.W.callWith_K (first := [.ref a]) (h₀ := X.base) I.ok.mod.kin hm.kp (thn (ha.run pos pins s1 σ H1 _ J q) ?_) hst hp)
  rintro us s2 ⟨vs, H2, J2, v, q2⟩
  exact ⟨J2.kIn, goS (us := .ref a :: us) (vs := .ref a :: vs) F g r b d (hx σ) J2 (.cons rfl v) q2⟩
theorem pg_meth0 {Cl : Addr} {E : L2.St → XK} {pl : Sem Bool} (he : PE X o ta) (c : Cls X.K Cl) (hm : Meth X.K Cl m f) (F : Fg X.prog X.w X.K X.mg X.base C n f fd ps sp) (g : X.A.guards = some []) (r : Room n X.A)
    (b : Binds X.K fd ps ds) (d : Vals dvs ds) (hx : ∀ σ, PassesAt C X σ (E σ))
    (ht : eval (.Call (.Attribute o m apos) [] [] pos) X.env = (do
      let ov ← eval o X.env
      standAt apos.atName
      let (f, first) ← holding [ov] (getMethod ov m pl)
      callWith pos f first (backTo pos (starEach [] X.env)) (backToKw pos (keywordEach [] X.env))) := by rfl) :
    PE X (.Call (.Attribute o m apos) [] [] pos) (tMG Cl m sp dvs E ta tNil) := by
  refine ⟨fun pins s σ H Q I h => ?_⟩
  refine PySem.W.methodCall_KW (pl := pl) (thn (he.run pins s σ H _ I h) ?_) ht
  rintro u s1 ⟨y, H1, J, ry, a, dx, fs, ey, ea, l, q⟩
  subst ey
  obtain rfl : u = Value.ref a := ry
  exact getmeth_ok J ea c hm l (PySem.W.callWith_K0 (first := [.ref a]) J.kIn hm.kp (goS (us := [.ref a]) (vs := [.ref a]) F g r b d (hx σ) J (.cons rfl .nil) q))
theorem make_guards {A : Around} {D : Addr} {us : List Value} {kw : List (Str × Value)} (g : A.guards = some []) : (A.under (.builtin "type.__call__" ⟨.ref D :: us, kw⟩)).guards = some [] := by
  first
  | exact g
  | (have h : (Code.builtin "type.__call__" ⟨.ref D :: us, kw⟩).guards = [] := by
       first | rfl | simp [Code.guards, Code.isGuard, guardIds]
     show pushGuards _ A.guards = _
     rw [h, g]; rfl)
/-- C(..) -/
def tKG (Cl : Addr) (sp : Sp) (dvs : List V) (E : L2.St → XK) (t : TA) : TE := fun σ H Q => t σ H fun vs H1 => ∀ x dx, H1 x = none → H1 dx = none → dx ≠ x →
  sp (.ref x :: (vs ++ dvs)) (upd (upd H1 dx (.own x)) x (.ins Cl dx [])) (fun v H2 => v = .non ∧ Q (.ref x) H2) (E σ)
theorem goK {Cl : Addr} {pins : List (Addr × Obj)} {σ : L2.St} {H : Hp} {s : Shared} {Q : VK} {us : List Value} {vs : List V} {E : XK} (M : Mk X.K Cl f) (F : Fg X.prog X.w X.K X.mg X.base C n f fd ps sp) (g : X.A.guards = some [])
    (r : Room (n + 1) X.A) (b : Binds X.K fd ps ds) (d : Vals dvs ds) (hx : PassesAt C X σ E) (I : Inv X pins σ H s) (v : Vals vs us)
    (h : ∀ x dx, H x = none → H dx = none → dx ≠ x → sp (.ref x :: (vs ++ dvs)) (upd (upd H dx (.own x)) x (.ins Cl dx [])) (fun v H2 => v = .non ∧ Q (.ref x) H2) E) :
    wpAny (model X.prog X.w) X.A (call (.ref Cl) us) (EP X pins σ Q) X.xe s := by
  have q := h (s.heap.objs.size + 1) s.heap.objs.size (I.hok.fresh (Nat.le_succ _)) (I.hok.fresh (Nat.le_refl _)) (Nat.ne_of_lt (Nat.lt_succ_self _))
  have J := Inv.made (C := Cl) I
  have v2 : Vals (V.ref (s.heap.objs.size + 1) :: (vs ++ dvs)) (Value.ref (s.heap.objs.size + 1) :: (us ++ ds)) := .cons rfl (v.append d)
  have hl : (Value.ref (s.heap.objs.size + 1) :: us ++ ds).length = ps.length := (v2.length.symm.trans (F.ar _ _ _ _ q) : _)
  refine wpAny_call (make_map (f := f) I.kIn M.makes M.init (beq_iff_eq.mp M.fn) (codeAny_mono (F.go _ X.stack _ _ ⟨Value.ref (s.heap.objs.size + 1) :: us, []⟩ (Value.ref (s.heap.objs.size + 1) :: (us ++ ds)) _ _ E
    (make_guards g) (r.make Cl us []) (J.env0.make Cl us []) (b _ (Value.ref (s.heap.objs.size + 1) :: us) J.kIn hl) v2 q) fun z s' hz => ?_))
  match z, hz with
  | .error e, hz => exact hx pins _ _ e s' J hz
  | .ok (.ret u), hz =>
    obtain ⟨y, H', J3, ry, ey, q3⟩ := J.after hz
    subst ey
    exact ⟨ry, ⟨V.ref (s.heap.objs.size + 1), H', J3, rfl, q3⟩⟩
theorem pg_make {Cl : Addr} {E : L2.St → XK} (M : Mk X.K Cl f) (F : Fg X.prog X.w X.K X.mg X.base C n f fd ps sp) (g : X.A.guards = some []) (r : Room (n + 1) X.A) (hg : Gl X x) (hm : X.mg x = some (.ref Cl))
    (b : Binds X.K fd ps ds) (d : Vals dvs ds) (hx : ∀ σ, PassesAt C X σ (E σ)) (ha : PA X (e :: es) t) (hdb : (x == ("__debug__" : Str)) = false := by decide)
    (he : starEach (e :: es) X.env = (false, eval e X.env) :: starEach es X.env := by rfl) (hp : (backTo pos (starEach es X.env)).any (·.1) = false := by rfl) :
    PE X (.Call (.Name x p) (e :: es) [] pos) (tKG Cl sp dvs E t) := by
  refine ⟨fun pins s σ H Q I h => ?_⟩
  refine wpAny_Call_Name_kw (ld_glob I hg hm (PySem.W.callWith_K (h₀ := X.base) I.ok.mod.kin M.kp (thn (ha.run pos pins s σ H _ I h) ?_) he hp) hdb)
  rintro us s1 ⟨vs, H1, J, v, q⟩
  exact ⟨J.kIn, goK M F g r b d (hx σ) J v q⟩
theorem pg_make0 {Cl : Addr} {E : L2.St → XK} (M : Mk X.K Cl f) (F : Fg X.prog X.w X.K X.mg X.base C n f fd ps sp) (g : X.A.guards = some []) (r : Room (n + 1) X.A) (hg : Gl X x) (hm : X.mg x = some (.ref Cl))
    (b : Binds X.K fd ps ds) (d : Vals dvs ds) (hx : ∀ σ, PassesAt C X σ (E σ)) (hdb : (x == ("__debug__" : Str)) = false := by decide) : PE X (.Call (.Name x p) [] [] pos) (tKG Cl sp dvs E tNil) := by
  refine ⟨fun pins s σ H Q I h => ?_⟩
  exact wpAny_Call_Name_kw (ld_glob I hg hm (PySem.W.callWith_K0 I.kIn M.kp (goK (us := []) M F g r b d (hx σ) I .nil h)) hdb)
end

/-! ### the law's own call -/
section
variable {P : Program} {w : World} {K : PySem.W.Frag} {mg mb : Str → Option Value} {C : CXT} {n : Nat} {fa a : Addr} {fd : FuncData} {x : Str} {sp : Sp} {s1 : Shared} {us : List Value} {ns : List Int}
/-- from an abstract heap that tracks the script at most -/
theorem law_from (H : Hp) (KX : K.In s1.heap) (n1 : s1.heap.Ns mainGlobals mg) (n2 : s1.heap.Ns builtinsNs mb) (n3 : ∀ x : Str, x ≠ "__name__" → mb x = bootBuiltins x) (n4 : s1.heap.NoLimit) (n5 : s1.gens = #[])
    (ha : s1.heap.get? a = some { cls := .type "list", data := .seq us.toArray }) (hr : Room n callerA)
    (F : ∀ bs : Heap, K.In bs → bs.Ns mainGlobals mg → (s1.heap.NoSeer → ∃ mm, bs.Ns sysModules mm) → Fg P w K mg bs C n fa fd [x] sp) (hb : ∀ (s : Shared) (u : Value), BindsTo s fd ⟨[u], []⟩ [(x, u)])
    (hO : Only H) (hok : HOk P w H s1.heap) (hA : ∀ b, H b ≠ none → b = a ∧ K.lookup a = none) (q : sp [.ref a] H (fun v _ => v = .bl true) fun _ _ _ => False)
    (hC : ∀ e s', C [] H s1 (fun _ _ _ => False) e s' → False) :
    codeAny (model P w) callerA (.call (.ref fa) ⟨[.ref a], []⟩) (fun r s' => r = .ok (.ret (.bool true)) ∧ OldK s1.heap s'.heap ∧ s'.os = s1.os ∧ AllBare s'.gens) s1 := by
  have nf : ∀ {b : Addr}, b ≠ a → H b = none := fun {b} hb => Classical.byContradiction fun z => hb (hA b z).1
  have und : ∀ {b : Addr} {o : Obj}, s1.heap.get? b = some o → H b = none → (hidT s1.heap H).get? b = some o := fun z1 z2 => hidT_get z1 z2
  have nd : ∀ {b : Addr} {o : Obj} {es : Array DictEntry} {ep : Nat}, s1.heap.get? b = some o → o.data = .dict es ep → H b = none := by
    intro b o es ep z1 z2
    refine nf fun e => ?_
    subst e
    rw [ha] at z1
    cases z1
    exact absurd z2 (by intro z; cases z)
  have nsH : ∀ {b : Addr} {m : Str → Option Value}, s1.heap.Ns b m → (hidT s1.heap H).Ns b m := fun ⟨o, es, ep, z1, z2, r⟩ => ⟨o, es, ep, und z1 (nd z1 z2), z2, r⟩
  have kH : K.In (hidT s1.heap H) := by
    intro b o z
    refine und (KX b o z) (Classical.byContradiction fun c => ?_)
    obtain ⟨e, l⟩ := hA b c
    rw [e, l] at z
    cases z
  have md : Mod K mg (hidT s1.heap H) := ⟨kH, nsH n1, ⟨mb, nsH n2, n3⟩, n4.elim fun mc z => ⟨mc, nsH z.1, z.2⟩⟩
  have e0 : Env0 P w K mg (hidT s1.heap H) callerA [] s1 H := ⟨rfl, md, fun b o z => of_hidT z, Nat.le_of_eq (hidT_size _ _), trivial, fun b z => (List.not_mem_nil z).elim, hok, AllBare.of_eq n5⟩
  refine codeAny_mono ((F _ kH (nsH n1) fun z => z.mods.elim fun mm h => ⟨mm, nsH h.1⟩).go callerA [] s1 H ⟨[.ref a], []⟩ [.ref a] [.ref a] _ _ rfl hr e0 (hb s1 (.ref a)) (.cons rfl .nil) q) fun r s' z => ?_
  match r, z with
  | .error e, z => exact (hC e s' z).elim
  | .ok (.ret u), ⟨v, H', o1, o2, un, hok', rv, ev⟩ =>
    have ev' : v = .bl true := ev
    subst ev'
    obtain rfl : u = Value.bool true := rv
    refine ⟨rfl, OldK.of_keep fun b o z => ?_, o1, o2⟩
    rcases hO b with c | ⟨ob, xs, c⟩
    · exact un.keep b o z c (fun y => (List.not_mem_nil y).elim) (fun y => (List.not_mem_nil y).elim)
    · obtain ⟨z1, _⟩ := hok b _ c
      obtain ⟨z2, _⟩ := hok' b _ (un.frzs b ob _ c)
      rw [z] at z1
      cases z1
      exact z2
theorem law_go (KX : K.In s1.heap) (n1 : s1.heap.Ns mainGlobals mg) (n2 : s1.heap.Ns builtinsNs mb) (n3 : ∀ x : Str, x ≠ "__name__" → mb x = bootBuiltins x) (n4 : s1.heap.NoLimit) (n5 : s1.gens = #[])
    (ha : s1.heap.get? a = some { cls := .type "list", data := .seq us.toArray }) (hi : IntsAre us ns) (hl : ns.length ≤ sizeLine) (hr : Room n callerA)
    (F : ∀ bs : Heap, K.In bs → bs.Ns mainGlobals mg → (s1.heap.NoSeer → ∃ mm, bs.Ns sysModules mm) → Fg P w K mg bs C n fa fd [x] sp) (hb : ∀ (s : Shared) (u : Value), BindsTo s fd ⟨[u], []⟩ [(x, u)])
    (q : ∀ H : Hp, Only H → SqL K H a (ns.map V.int) → sp [.ref a] H (fun v _ => v = .bl true) fun _ _ _ => False) (hC : ∀ H e s', C [] H s1 (fun _ _ _ => False) e s' → False) :
    codeAny (model P w) callerA (.call (.ref fa) ⟨[.ref a], []⟩) (fun r s' => r = .ok (.ret (.bool true)) ∧ OldK s1.heap s'.heap ∧ s'.os = s1.os ∧ AllBare s'.gens) s1 := by
  have lu := hi.length
  cases hk : K.lookup a with
  | some o =>
    have e := KX a o hk
    rw [ha] at e
    cases e
    have hO : Only (fun _ => none) := fun _ => Or.inl rfl
    refine law_from (fun _ => none) KX n1 n2 n3 n4 n5 ha hr F hb hO (fun b u z => (by cases z)) (fun b z => absurd rfl z) (q _ hO (Or.inr ⟨_, us.toArray, _, hk, rfl, rfl, rfl, ?_, ?_⟩)) fun e s' => hC _ e s'
    · rw [List.size_toArray, lu]
      exact hl
    · exact vals_ints hi
  | none =>
    let H0 : Hp := fun b => if b = a then some (.frz { cls := .type "list", data := .seq us.toArray } (.lst (ns.map V.int))) else none
    have h1 : H0 a = some (.frz { cls := .type "list", data := .seq us.toArray } (.lst (ns.map V.int))) := if_pos rfl
    have h2 : ∀ {b : Addr}, b ≠ a → H0 b = none := fun z => if_neg z
    have hO : Only H0 := fun b => by
      by_cases c : b = a
      · subst c
        exact Or.inr ⟨_, _, h1⟩
      · exact Or.inl (h2 c)
    refine law_from H0 KX n1 n2 n3 n4 n5 ha hr F hb hO (fun b u z => ?_) (fun b z => ⟨Classical.byContradiction fun c => z (h2 c), hk⟩) (q _ hO (Or.inl (Or.inr ⟨_, h1⟩))) fun e s' => hC _ e s'
    by_cases c : b = a
    · subst c
      cases h1.symm.trans z
      exact ⟨ha, by rw [List.length_map]; exact hl, us, _, vals_ints hi, ha⟩
    · cases (h2 c).symm.trans z
end
theorem walk_q {l : PySem.W.OpenLaw} {n k : Nat} {q : Program} {loose : List Str} {XP : (Str → Option Value) → Heap → Prop} {YP : World → Heap → Prop} {d : DefRec} {K : Params → PySem.W.Frag} {C : World → CXT} {sp : World → Sp} {x : Str}
    (hn : l.most = some n) (hn2 : n ≤ sizeLine) (hdf : d.params.defaults = []) (hr : Room k callerA) (hY : ∀ (w : World) (h : Heap), YP w h → (K w.params).In h)
    (F : ∀ (w : World) (mg : Str → Option Value) (fa : Addr) (h : Heap), (K w.params).In h → h.Ns mainGlobals mg → mg d.name = some (.ref fa) →
      ∃ fd : FuncData, (∀ (s : Shared) (u : Value), BindsTo s fd ⟨[u], []⟩ [(x, u)]) ∧ ∀ bs : Heap, (K w.params).In bs → bs.Ns mainGlobals mg → (PyProof.Rows.importsNone q = true → ∃ mm, bs.Ns sysModules mm) → Fg l.prog w (K w.params) mg bs (C w) k fa fd [x] (sp w))
    (hsp : ∀ (w : World) (H : Hp) (a : Addr) (ns : List Int), ns.length ≤ n → (∀ z ∈ ns, Builtin.Int.intBits z ≤ 1048576) → Only H → SqL (K w.params) H a (ns.map V.int) → sp w [.ref a] H (fun v _ => v = .bl true) fun _ _ _ => False)
    (hC : ∀ (w : World) (H : Hp) (s : Shared) (e : Value) (s' : Shared), C w [] H s (fun _ _ _ => False) e s' → False) :
    PySem.W.WalkO q loose XP YP l.row.toRowW d [] (fun f vs => PySem.call f vs) := by
  refine Att.attach_callB hn hdf fun w s0 s1 mg mb fa o pm cd doc a us ns G Y ho hd hcd hmg hobj hi hlen hbits hg => ?_
  obtain ⟨fd, hb, hF⟩ := F w mg fa _ (hY w _ Y) G.T.g hmg
  exact law_go (hY w _ Y) G.T.g G.T.b G.T.builtins G.T.nolimit hg hobj hi (Nat.le_trans hlen hn2) hr (fun bs h1 h2 h3 => hF bs h1 h2 fun z => h3 (G.T.seer z)) hb (fun H hO hS => hsp w H a ns hlen hbits hO hS) fun H e s' => hC w H s1 e s'
theorem walk_g {l : PySem.W.OpenLaw} {n k : Nat} {q : Program} {loose : List Str} {XP : (Str → Option Value) → Heap → Prop} {YP : World → Heap → Prop} {d : DefRec} {K : Params → PySem.W.Frag} {C : World → CXT} {sp : World → Sp} {x : Str}
    (hn : l.most = some n) (hn2 : n ≤ sizeLine) (hdf : d.params.defaults = []) (hr : Room k callerA) (hY : ∀ (w : World) (h : Heap), YP w h → (K w.params).In h)
    (F : ∀ (w : World) (mg : Str → Option Value) (fa : Addr) (h : Heap), (K w.params).In h → h.Ns mainGlobals mg → mg d.name = some (.ref fa) →
      ∃ fd : FuncData, (∀ (s : Shared) (u : Value), BindsTo s fd ⟨[u], []⟩ [(x, u)]) ∧ ∀ bs : Heap, (K w.params).In bs → bs.Ns mainGlobals mg → Fg l.prog w (K w.params) mg bs (C w) k fa fd [x] (sp w))
    (hsp : ∀ (w : World) (H : Hp) (a : Addr) (ns : List Int), ns.length ≤ n → (∀ z ∈ ns, Builtin.Int.intBits z ≤ 1048576) → Only H → SqL (K w.params) H a (ns.map V.int) → sp w [.ref a] H (fun v _ => v = .bl true) fun _ _ _ => False)
    (hC : ∀ (w : World) (H : Hp) (s : Shared) (e : Value) (s' : Shared), C w [] H s (fun _ _ _ => False) e s' → False) :
    PySem.W.WalkO q loose XP YP l.row.toRowW d [] (fun f vs => PySem.call f vs) :=
  walk_q hn hn2 hdf hr hY (fun w mg fa h h1 h2 h3 => let ⟨fd, hb, hF⟩ := F w mg fa h h1 h2 h3; ⟨fd, hb, fun bs k1 k2 _ => hF bs k1 k2⟩) hsp hC
end Vg


set_option Elab.async false
set_option linter.all false
set_option maxRecDepth 100000
set_option maxHeartbeats 2000000
namespace Vg
open PySem PySem.Spec PyProof.Rows L2

/-! ### how long a text repr gives -/
theorem lt_one {n : Nat} (ts : List Str) (h : ∀ t ∈ ts, t.length ≤ n) : piled ts ≤ ts.length * (n + 2) := by
  induction ts with
  | nil => exact Nat.zero_le _
  | cons t r ih =>
    have h1 := h t List.mem_cons_self
    have h2 := ih fun u hu => h u (List.mem_cons_of_mem _ hu)
    rw [piled_cons, List.length_cons, Nat.succ_mul]
    omega
theorem listText_le (ts : List Str) : (listText ts).length ≤ piled ts + 2 := by
  cases ts with
  | nil => exact Nat.le_refl _
  | cons t r =>
    have h := textFrom_length_pos r 1 (("[" : Str) ++ (if (0 : Nat) > 0 then ", " else "" : String) ++ t) (Nat.succ_pos 0)
    have e : (("[" : Str) ++ (if (0 : Nat) > 0 then ", " else "" : String) ++ t).length = 1 + t.length := by
      rw [strLen_append, strLen_append]; rfl
    have x : (listText (t :: r)).length = (textFrom 0 "[" (t :: r)).length + 1 := by
      show (textFrom 0 "[" (t :: r) ++ "]").length = _
      rw [strLen_append]; rfl
    have y : textFrom 0 "[" (t :: r) = textFrom 1 (("[" : Str) ++ (if (0 : Nat) > 0 then ", " else "" : String) ++ t) r := rfl
    rw [x, y, h, e, piled_cons]
    omega
theorem shownAll_map : ∀ ds : List PyData, PyData.shownAll ds = ds.map PyData.shown
  | [] => rfl
  | d :: r => by
    rw [PyData.shownAll, shownAll_map r]; rfl
theorem showableAll_all : ∀ ds : List PyData, (∀ d ∈ ds, d.showable = true) → PyData.showableAll ds = true
  | [], _ => rfl
  | d :: r, h => by
    rw [PyData.showableAll, h d List.mem_cons_self, showableAll_all r fun e he => h e (List.mem_cons_of_mem _ he)]; rfl
theorem hasDictAll_all : ∀ ds : List PyData, (∀ d ∈ ds, d.hasDict = false) → PyData.hasDictAll ds = false
  | [], _ => rfl
  | d :: r, h => by
    rw [PyData.hasDictAll, h d List.mem_cons_self, hasDictAll_all r fun e he => h e (List.mem_cons_of_mem _ he)]; rfl
theorem depthAll_le {k : Nat} : ∀ ds : List PyData, (∀ d ∈ ds, d.depth ≤ k) → PyData.depthAll ds ≤ k
  | [], _ => Nat.zero_le _
  | d :: r, h => by
    rw [PyData.depthAll]
    exact Nat.max_le.mpr ⟨h d List.mem_cons_self, depthAll_le r fun e he => h e (List.mem_cons_of_mem _ he)⟩
/-- data that repr writes in at most n signs, nested at most k deep -/
structure Shw (n k : Nat) (d : PyData) : Prop where
  sh : d.showable = true
  nd : d.hasDict = false
  dp : d.depth ≤ k
  sz : d.shown.length ≤ n
theorem Shw.up {n k m j : Nat} {d : PyData} (h : Shw n k d) (h1 : n ≤ m) (h2 : k ≤ j) : Shw m j d := ⟨h.sh, h.nd, Nat.le_trans h.dp h2, Nat.le_trans h.sz h1⟩
theorem Shw.non : Shw 4 1 .none := ⟨rfl, rfl, by decide +kernel, by decide +kernel⟩
theorem Shw.bl (b : Bool) : Shw 5 1 (.bool b) := by cases b <;> exact ⟨rfl, rfl, by decide +kernel, by decide +kernel⟩
theorem Shw.str (x : Str) (h : ∀ c ∈ x.cps.toList, c < 16 ^ 8) : Shw (10 * x.length + 2) 1 (.str x) := ⟨by rw [PyData.showable], by rw [PyData.hasDict], by simp [PyData.depth], by rw [PyData.shown]; exact StrLaws.reprText_len x h⟩
theorem Shw.int {k : Nat} {i : Int} (hk : 0 < k) (hk2 : k ≤ 1920) (h : i.natAbs < 2 ^ k) : Shw (k + 1) 1 (.int i) := by
  refine ⟨?_, by rw [PyData.hasDict], by simp [PyData.depth], ?_⟩
  · rw [PyData.showable]
    exact decide_eq_true (Nat.lt_of_lt_of_le (PySem.Flt.log2_lt_of hk h) hk2)
  · rw [PyData.shown]
    show (Str.ofString (toString i)).length ≤ _
    rw [PySem.ofString_length]
    exact int_text_length_le hk (PySem.Flt.log2_lt_of hk h)
theorem Shw.lst {n k : Nat} {ds : List PyData} (h : ∀ d ∈ ds, Shw n k d) : Shw (ds.length * (n + 2) + 2) (k + 1) (.list ds) := by
  refine ⟨?_, ?_, ?_, ?_⟩
  · rw [PyData.showable]
    exact showableAll_all ds fun d hd => (h d hd).sh
  · rw [PyData.hasDict]
    exact hasDictAll_all ds fun d hd => (h d hd).nd
  · simp only [PyData.depth]
    have := depthAll_le ds fun d hd => (h d hd).dp
    omega
  · rw [PyData.shown, shownAll_map]
    refine Nat.le_trans (listText_le _) ?_
    have := lt_one (n := n) (ds.map PyData.shown) (by
      intro t ht
      obtain ⟨d, hd, rfl⟩ := List.mem_map.mp ht
      exact (h d hd).sz)
    rw [List.length_map] at this
    omega
theorem Shw.tup {n k : Nat} {ds : List PyData} (h : ∀ d ∈ ds, Shw n k d) : Shw (ds.length * (n + 2) + 2) (k + 1) (.tuple ds) := by
  refine ⟨?_, ?_, ?_, ?_⟩
  · rw [PyData.showable]
    exact showableAll_all ds fun d hd => (h d hd).sh
  · rw [PyData.hasDict]
    exact hasDictAll_all ds fun d hd => (h d hd).nd
  · simp only [PyData.depth]
    have := depthAll_le ds fun d hd => (h d hd).dp
    omega
  · rw [PyData.shown, shownAll_map]
    refine Nat.le_trans (fmt_text _) ?_
    have := lt_one (n := n) (ds.map PyData.shown) (by
      intro t ht
      obtain ⟨d, hd, rfl⟩ := List.mem_map.mp ht
      exact (h d hd).sz)
    rw [List.length_map] at this
    omega

/-! ### repr -/
def rRepr (K : PySem.W.Frag) : List V → Hp → VK → Prop := fun xs H Q => ∃ x d, xs = [x] ∧ Dp K H x d ∧ Shw 16000000 60 d ∧ Q (.str d.shown) H
theorem call_repr {X : Cx} {n : Nat} (g : X.A.guards = some []) (r : Room n X.A) : CallR X (.builtin "repr") (rRepr X.K) := by
  intro pins s σ H xs us Q I rv h
  obtain ⟨x, d, rfl, hd, sw, q⟩ := h
  obtain ⟨u, rfl, ru⟩ := vals1 rv
  have hz : d.shown.length ≤ sizeLine := Nat.le_trans sw.sz (by decide)
  have hu := r.units
  cases hd with
  | non =>
    cases ru
    rw [PyData.shown] at q
    exact PySem.P.repr_of_none ⟨.str _, H, I.tok _, ⟨_, rfl⟩, q⟩
  | bl b =>
    cases ru
    rw [PyData.shown] at q
    exact PySem.P.repr_of_bool ⟨.str _, H, I.tok _, ⟨_, rfl⟩, q⟩
  | int i =>
    obtain ⟨t, rfl⟩ := ru
    have hs := sw.sh
    rw [PyData.showable] at hs
    rw [PyData.shown] at q
    exact PySem.P.repr_of_int (of_decide_eq_true hs) ⟨.str _, H, I.tok _, ⟨_, rfl⟩, q⟩
  | str y =>
    obtain ⟨t, rfl⟩ := ru
    rw [PyData.shown] at hz q
    exact PySem.P.repr_of_str ⟨.str _, H, I.tok _, ⟨_, rfl⟩, q⟩ hz
  | lst hs ha =>
    obtain rfl : u = Value.ref _ := ru
    obtain ⟨as, rd⟩ := Dp.reads I _ _ _ (Dp.lst hs ha) rfl
    refine repr_of_reads' rd sw.sh (fun z => by rw [sw.nd] at z; cases z) g (by have := sw.dp; omega) (fun _ _ z => z) (fun h' u tk hk => ?_) hz
    exact ⟨.str _, H, I.call' (s' := { s with heap := h', toks := tk }) (ch := []) rfl (Un.kept hk) (I.hok.kept hk) I.bare (fun b z => (List.not_mem_nil z).elim), ⟨u, rfl⟩, q⟩
  | tup hs ha =>
    obtain rfl : u = Value.ref _ := ru
    obtain ⟨as, rd⟩ := Dp.reads I _ _ _ (Dp.tup hs ha) rfl
    refine repr_of_reads' rd sw.sh (fun z => by rw [sw.nd] at z; cases z) g (by have := sw.dp; omega) (fun _ _ z => z) (fun h' u tk hk => ?_) hz
    exact ⟨.str _, H, I.call' (s' := { s with heap := h', toks := tk }) (ch := []) rfl (Un.kept hk) (I.hok.kept hk) I.bare (fun b z => (List.not_mem_nil z).elim), ⟨u, rfl⟩, q⟩

/-! ### x ** k of great numbers -/
theorem op_powW {X : Cx} : OpR X (binaryOp .Pow) (rI (fun i j => 0 ≤ j ∧ (Builtin.Int.intBits i : Int) * j ≤ 2 ^ 27) fun i j => .int (i ^ j.toNat)) := opI fun _ _ _ _ _ _ _ hc q => pow_int hc.1 hc.2 q
theorem bits_le {i : Int} {n : Nat} (hn : 0 < n) (h : i.natAbs < 2 ^ n) : Builtin.Int.intBits i ≤ n := by
  have := PySem.Flt.log2_lt_of hn h
  unfold Builtin.Int.intBits
  split <;> omega
end Vg


set_option Elab.async false
set_option linter.all false
set_option maxRecDepth 100000
set_option maxHeartbeats 2000000
namespace Vg
open PySem PySem.Spec PyProof.Rows L2

/-! ### the ledger: over a heap B that stands, what is owned -/
structure Led (B H : Hp) (l : List (Addr × HO)) : Prop where
  sm : Same B H
  nd : (l.map (·.1)).Nodup
  fr : ∀ e ∈ l, B e.1 = none
  hs : ∀ e ∈ l, H e.1 = some e.2
inductive Put : List (Addr × HO) → Addr → HO → List (Addr × HO) → Prop
  | hd {p : Addr} {o o' : HO} {l : List (Addr × HO)} : Put ((p, o) :: l) p o' ((p, o') :: l)
  | tl {e : Addr × HO} {p : Addr} {o' : HO} {l l' : List (Addr × HO)} : Put l p o' l' → Put (e :: l) p o' (e :: l')
/-- the entries of l' are, one by one, entries of l -/
inductive Pick : List (Addr × HO) → Addr × HO → List (Addr × HO) → Prop
  | hd {e : Addr × HO} {l : List (Addr × HO)} : Pick (e :: l) e l
  | tl {d e : Addr × HO} {l l' : List (Addr × HO)} : Pick l e l' → Pick (d :: l) e (d :: l')
inductive Sel : List (Addr × HO) → List (Addr × HO) → Prop
  | nil {l : List (Addr × HO)} : Sel l []
  | all {l : List (Addr × HO)} : Sel l l
  | cons {e : Addr × HO} {l r l' : List (Addr × HO)} : Pick l e r → Sel r l' → Sel l (e :: l')
  | skip {e : Addr × HO} {l l' : List (Addr × HO)} : Sel l l' → Sel (e :: l) l'
section
variable {B H : Hp} {l l' : List (Addr × HO)} {p q : Addr} {o o' : HO}
theorem Led.nil (H : Hp) : Led H H [] := ⟨Same.refl H, List.nodup_nil, fun _ h => (List.not_mem_nil h).elim, fun _ h => (List.not_mem_nil h).elim⟩
theorem Led.at (L : Led B H l) (h : (p, o) ∈ l) : H p = some o := L.hs _ h
theorem Led.seq {K : PySem.W.Frag} {a : Addr} {xs : List V} (L : Led B H l) (h : SqL K B a xs) : SqL K H a xs := L.sm.seq h
theorem Led.lstAt {K : PySem.W.Frag} {a : Addr} {xs : List V} (L : Led B H l) (h : (a, HO.lst xs) ∈ l) : SqL K H a xs := Or.inl (Or.inl (L.at h))
theorem Led.tupAt {K : PySem.W.Frag} {a : Addr} {xs : List V} (L : Led B H l) (h : (a, HO.tup xs) ∈ l) : SqT K H a xs := Or.inl (Or.inl (L.at h))
theorem Led.new (L : Led B H l) (h : H p = none) : Led B (upd H p o) ((p, o) :: l) := by
  have hb : B p = none := L.sm.free h
  have ne : ∀ e ∈ l, e.1 ≠ p := fun e he z => by
    have := L.hs e he
    rw [z, h] at this
    cases this
  refine ⟨fun a u z => ?_, ?_, fun e he => ?_, fun e he => ?_⟩
  · rw [upd_ne (ne_of_none (L.sm a u z) h)]
    exact L.sm a u z
  · rw [List.map_cons]
    refine List.nodup_cons.mpr ⟨fun z => ?_, L.nd⟩
    obtain ⟨e, he, e2⟩ := List.mem_map.mp z
    exact ne e he e2
  · rcases List.mem_cons.mp he with z | z
    · rw [z]; exact hb
    · exact L.fr e z
  · rcases List.mem_cons.mp he with z | z
    · rw [z]; exact upd_same
    · rw [upd_ne (ne e z)]; exact L.hs e z
theorem Put.map (h : Put l p o' l') : l'.map (·.1) = l.map (·.1) := by
  induction h with
  | hd => rfl
  | tl _ ih => rw [List.map_cons, List.map_cons, ih]
theorem Put.mem (h : Put l p o' l') : ∀ e ∈ l', e = (p, o') ∨ e ∈ l := by
  induction h with
  | hd => intro e he; exact (List.mem_cons.mp he).imp id fun z => List.mem_cons_of_mem _ z
  | tl _ ih =>
    intro e he
    rcases List.mem_cons.mp he with z | z
    · exact Or.inr (z ▸ List.mem_cons_self)
    · exact (ih e z).imp id fun z => List.mem_cons_of_mem _ z
theorem Put.of (h : Put l p o' l') : p ∈ l.map (·.1) := by
  induction h with
  | hd => exact List.mem_cons_self
  | tl _ ih => exact List.mem_cons_of_mem _ ih
theorem Put.pm (h : Put l p o' l') : (p, o') ∈ l' := by
  induction h with
  | hd => exact List.mem_cons_self
  | tl _ ih => exact List.mem_cons_of_mem _ ih
theorem mem_apart {l : List (Addr × HO)} (nd : (l.map (·.1)).Nodup) {e d : Addr × HO} (h1 : e ∈ l) (h2 : d ∈ l) (h : e.1 = d.1) : e = d := by
  induction l with
  | nil => cases h1
  | cons x r ih =>
    rw [List.map_cons] at nd
    obtain ⟨n1, n2⟩ := List.nodup_cons.mp nd
    rcases List.mem_cons.mp h1 with z1 | z1
    · rcases List.mem_cons.mp h2 with z2 | z2
      · rw [z1, z2]
      · exact (n1 (by rw [← z1, h]; exact List.mem_map_of_mem z2)).elim
    · rcases List.mem_cons.mp h2 with z2 | z2
      · exact (n1 (by rw [← z2, ← h]; exact List.mem_map_of_mem z1)).elim
      · exact ih n2 z1 z2
theorem Led.put (L : Led B H l) (h : Put l p o' l') : Led B (upd H p o') l' := by
  obtain ⟨e0, he0, e1⟩ := List.mem_map.mp h.of
  have hp : B p = none := by rw [← e1]; exact L.fr e0 he0
  have nd' : (l'.map (·.1)).Nodup := by rw [h.map]; exact L.nd
  have pm : (p, o') ∈ l' := h.pm
  refine ⟨fun a u z => ?_, nd', fun e he => ?_, fun e he => ?_⟩
  · rw [upd_ne (ne_of_none z hp)]
    exact L.sm a u z
  · rcases h.mem e he with z | z
    · rw [z]; exact hp
    · exact L.fr e z
  · by_cases c : e.1 = p
    · have e2 : e = (p, o') := mem_apart nd' he pm c
      rw [e2]; exact upd_same
    · rw [upd_ne c]
      rcases h.mem e he with z | z
      · exact absurd (by rw [z]) c
      · exact L.hs e z
theorem Pick.sub {e : Addr × HO} (h : Pick l e l') : (∀ d ∈ e :: l', d ∈ l) ∧ ((l.map (·.1)).Nodup → ((e :: l').map (·.1)).Nodup) := by
  induction h with
  | hd => exact ⟨fun _ h => h, fun h => h⟩
  | @tl d e l l' _ ih =>
    refine ⟨fun c hc => ?_, fun n => ?_⟩
    · rcases List.mem_cons.mp hc with z | z
      · exact List.mem_cons_of_mem _ (ih.1 c (z ▸ List.mem_cons_self))
      · rcases List.mem_cons.mp z with z | z
        · exact z ▸ List.mem_cons_self
        · exact List.mem_cons_of_mem _ (ih.1 c (List.mem_cons_of_mem _ z))
    · rw [List.map_cons] at n
      obtain ⟨n1, n2⟩ := List.nodup_cons.mp n
      have n3 := ih.2 n2
      rw [List.map_cons] at n3
      obtain ⟨n4, n5⟩ := List.nodup_cons.mp n3
      rw [List.map_cons, List.map_cons]
      refine List.nodup_cons.mpr ⟨fun z => ?_, List.nodup_cons.mpr ⟨fun z => ?_, n5⟩⟩
      · rcases List.mem_cons.mp z with z | z
        · exact n1 (by rw [← z]; exact List.mem_map_of_mem (ih.1 e List.mem_cons_self))
        · exact n4 z
      · obtain ⟨c, hc, ec⟩ := List.mem_map.mp z
        exact n1 (by rw [← ec]; exact List.mem_map_of_mem (ih.1 c (List.mem_cons_of_mem _ hc)))
theorem Sel.sub (h : Sel l l') : (∀ d ∈ l', d ∈ l) ∧ ((l.map (·.1)).Nodup → (l'.map (·.1)).Nodup) := by
  induction h with
  | nil => exact ⟨fun _ h => (List.not_mem_nil h).elim, fun _ => List.nodup_nil⟩
  | all => exact ⟨fun _ h => h, fun h => h⟩
  | @skip e l l' _ ih => exact ⟨fun d hd => List.mem_cons_of_mem _ (ih.1 d hd), fun n => ih.2 (by rw [List.map_cons] at n; exact (List.nodup_cons.mp n).2)⟩
  | @cons e l r l' hp hs ih =>
    obtain ⟨p1, p2⟩ := hp.sub
    refine ⟨fun d hd => ?_, fun n => ?_⟩
    · rcases List.mem_cons.mp hd with z | z
      · exact p1 d (z ▸ List.mem_cons_self)
      · exact p1 d (List.mem_cons_of_mem _ (ih.1 d z))
    · have n2 := p2 n
      rw [List.map_cons] at n2
      obtain ⟨n3, n4⟩ := List.nodup_cons.mp n2
      rw [List.map_cons]
      refine List.nodup_cons.mpr ⟨fun z => n3 ?_, ih.2 n4⟩
      obtain ⟨d, hd, ed⟩ := List.mem_map.mp z
      rw [← ed]; exact List.mem_map_of_mem (ih.1 d hd)
/-- keep some entries, in any order -/
theorem Led.sel (L : Led B H l) (h : Sel l l') : Led B H l' := ⟨L.sm, h.sub.2 L.nd, fun e he => L.fr e (h.sub.1 e he), fun e he => L.hs e (h.sub.1 e he)⟩
theorem Led.drop {n : Nat} (L : Led B H l) : Led B H (l.drop n) := ⟨L.sm, (L.nd.sublist ((List.drop_sublist n l).map _)), fun e he => L.fr e (List.mem_of_mem_drop he), fun e he => L.hs e (List.mem_of_mem_drop he)⟩
/-- what a callee, that was given H as a base, leaves -/
theorem Led.join {H' : Hp} {m : List (Addr × HO)} (L : Led B H l) (M : Led H H' m) : Led B H' (m ++ l) := by
  refine ⟨L.sm.trans M.sm, ?_, fun e he => ?_, fun e he => ?_⟩
  · rw [List.map_append]
    refine List.nodup_append.mpr ⟨M.nd, L.nd, fun a ha b hb z => ?_⟩
    obtain ⟨e, he, e1⟩ := List.mem_map.mp ha
    obtain ⟨d, hd, d1⟩ := List.mem_map.mp hb
    have h1 := M.fr e he
    have h2 := L.hs d hd
    rw [e1, z] at h1
    rw [d1, h1] at h2
    cases h2
  · rcases List.mem_append.mp he with z | z
    · exact L.sm.free (M.fr e z)
    · exact L.fr e z
  · rcases List.mem_append.mp he with z | z
    · exact M.hs e z
    · exact M.sm _ _ (L.hs e z)
theorem Led.same {H' : Hp} (L : Led B H l) (s : Same H H') : Led B H' l := ⟨L.sm.trans s, L.nd, L.fr, fun e he => s _ _ (L.hs e he)⟩
theorem Led.base {B' : Hp} (L : Led B H l) (h : Same B' B) : Led B' H l := ⟨h.trans L.sm, L.nd, fun e he => h.free (L.fr e he), L.hs⟩
theorem less_put {l : List (Addr × HO)} (L : Led B H ((p, o) :: l)) : Led (upd B p o) H l := by
  have nd := L.nd
  rw [List.map_cons] at nd
  obtain ⟨n1, n2⟩ := List.nodup_cons.mp nd
  refine ⟨fun a u z => ?_, n2, fun e he => ?_, fun e he => L.hs e (List.mem_cons_of_mem _ he)⟩
  · by_cases c : a = p
    · subst c
      rw [upd_same] at z
      cases z
      exact L.hs _ List.mem_cons_self
    · rw [upd_ne c] at z
      exact L.sm a u z
  · rw [upd_ne fun z => n1 (by rw [← z]; exact List.mem_map.mpr ⟨e, he, rfl⟩)]
    exact L.fr e (List.mem_cons_of_mem _ he)
/-- what will not change any more goes to the base -/
theorem Led.sink (L : Led B H ((p, o) :: l)) : ∃ B', Same B B' ∧ B' p = some o ∧ Led B' H l := ⟨upd B p o, fun a u z => by rw [upd_ne (ne_of_none z (L.fr _ List.mem_cons_self))]; exact z, upd_same, less_put L⟩
/-- the heap without what is owned -/
def less (H : Hp) (ps : List Addr) : Hp := fun a => if a ∈ ps then none else H a
theorem Led.ofLess {l : List (Addr × HO)} (n : (l.map (·.1)).Nodup) (h : ∀ e ∈ l, H e.1 = some e.2) : Led (less H (l.map (·.1))) H l := by
  refine ⟨fun a u z => ?_, n, fun e he => ?_, h⟩
  · unfold less at z
    split at z
    · cases z
    · exact z
  · unfold less
    rw [if_pos (List.mem_map_of_mem he)]
end

/-! ### the readings, one step each -/
/-- a new object -/
def NewK (o : HO) (H : Hp) (G : Addr → Hp → Prop) : Prop := ∀ p, H p = none → G p (upd H p o)
/-- a list's item, a tuple's -/
def IxLK (K : PySem.W.Frag) (p : Addr) (i : Int) (H : Hp) (G : V → Prop) : Prop := ∃ xs v, SqL K H p xs ∧ atI xs i = some v ∧ G v
def IxTK (K : PySem.W.Frag) (p : Addr) (i : Int) (H : Hp) (G : V → Prop) : Prop := ∃ xs v, SqT K H p xs ∧ atI xs i = some v ∧ G v
/-- p[i] = v, p.append(v), p.extend(q) -/
def SetK (p : Addr) (i : Int) (v : V) (H : Hp) (G : Hp → Prop) : Prop := ∃ xs j, H p = some (.lst xs) ∧ ixN xs.length i = some j ∧ G (upd H p (.lst (xs.set j v)))
def AppK (p : Addr) (v : V) (H : Hp) (G : Hp → Prop) : Prop := ∃ xs, H p = some (.lst xs) ∧ xs.length < sizeLine ∧ G (upd H p (.lst (xs ++ [v])))
def ExtK (p q : Addr) (H : Hp) (G : Hp → Prop) : Prop := ∃ xs ys, H p = some (.lst xs) ∧ H q = some (.lst ys) ∧ xs.length + ys.length ≤ sizeLine ∧ G (upd H p (.lst (xs ++ ys)))
def CatK (p q : Addr) (H : Hp) (G : Addr → Hp → Prop) : Prop := ∃ xs ys, H p = some (.lst xs) ∧ H q = some (.lst ys) ∧ xs.length + ys.length ≤ sizeLine ∧ NewK (.lst (xs ++ ys)) H G
def LenK (K : PySem.W.Frag) (p : Addr) (H : Hp) (G : Int → Prop) : Prop := ∃ xs : List V, (SqL K H p xs ∨ SqT K H p xs) ∧ G xs.length
/-- a tuple's items, n of them -/
def UnpK (K : PySem.W.Frag) (p : Addr) (n : Nat) (H : Hp) (G : List V → Prop) : Prop := ∃ xs, SqT K H p xs ∧ xs.length = n ∧ G xs
def IterLK (K : PySem.W.Frag) (p : Addr) (H : Hp) (G : Prop) : Prop := (∃ xs, SqL K H p xs) ∧ G
def SlLK (K : PySem.W.Frag) (p : Addr) (lo hi : Option Int) (H : Hp) (G : Addr → Hp → Prop) : Prop := ∃ xs, SqL K H p xs ∧ NewK (.lst (cutV xs lo hi)) H G
/-- repr(x) -/
def RepK (K : PySem.W.Frag) (x : V) (H : Hp) (G : Str → Prop) : Prop := ∃ d, Dp K H x d ∧ Shw 16000000 60 d ∧ G d.shown
def InK (K : PySem.W.Frag) (neg : Bool) (x : V) (p : Addr) (H : Hp) (G : Bool → Prop) : Prop := ∃ xs, (SqL K H p xs ∨ SqT K H p xs) ∧ flatV x = true ∧ xs.all flatV = true ∧ G (if neg then !inV x xs else inV x xs)
section
variable {K : PySem.W.Frag} {B H : Hp} {l l' : List (Addr × HO)} {p q : Addr} {o : HO} {i : Int} {v : V} {xs ys : List V} {n : Nat}
theorem NewK.of {G : Addr → Hp → Prop} (L : Led B H l) (k : ∀ p H1, Led B H1 ((p, o) :: l) → G p H1) : NewK o H G := fun p hp => k p _ (L.new hp)
theorem NewK.ofS {G : Addr → Hp → Prop} (k : ∀ p H1, Same H H1 → H p = none → H1 p = some o → G p H1) : NewK o H G := fun p hp => k p _ (fun a u z => by rw [upd_ne (ne_of_none z hp)]; exact z) hp upd_same
theorem IxLK.of {G : V → Prop} (h : SqL K H p xs) (a : atI xs i = some v) (k : G v) : IxLK K p i H G := ⟨xs, v, h, a, k⟩
theorem IxTK.of {G : V → Prop} (h : SqT K H p xs) (a : atI xs i = some v) (k : G v) : IxTK K p i H G := ⟨xs, v, h, a, k⟩
theorem SetK.of {G : Hp → Prop} {j : Nat} (L : Led B H l) (h : (p, HO.lst xs) ∈ l) (a : ixN xs.length i = some j) (t : Put l p (.lst (xs.set j v)) l') (k : ∀ H1, Led B H1 l' → G H1) : SetK p i v H G := ⟨xs, j, L.at h, a, k _ (L.put t)⟩
theorem AppK.of {G : Hp → Prop} (L : Led B H l) (h : (p, HO.lst xs) ∈ l) (a : xs.length < sizeLine) (t : Put l p (.lst (xs ++ [v])) l') (k : ∀ H1, Led B H1 l' → G H1) : AppK p v H G := ⟨xs, L.at h, a, k _ (L.put t)⟩
theorem ExtK.of {G : Hp → Prop} (L : Led B H l) (h : (p, HO.lst xs) ∈ l) (h2 : (q, HO.lst ys) ∈ l) (a : xs.length + ys.length ≤ sizeLine) (t : Put l p (.lst (xs ++ ys)) l') (k : ∀ H1, Led B H1 l' → G H1) : ExtK p q H G := ⟨xs, ys, L.at h, L.at h2, a, k _ (L.put t)⟩
theorem CatK.of {G : Addr → Hp → Prop} (L : Led B H l) (h : (p, HO.lst xs) ∈ l) (h2 : (q, HO.lst ys) ∈ l) (a : xs.length + ys.length ≤ sizeLine) (k : ∀ p H1, Led B H1 ((p, .lst (xs ++ ys)) :: l) → G p H1) : CatK p q H G := ⟨xs, ys, L.at h, L.at h2, a, NewK.of L k⟩
theorem LenK.ofL {G : Int → Prop} (h : SqL K H p xs) (k : G xs.length) : LenK K p H G := ⟨xs, Or.inl h, k⟩
theorem LenK.ofT {G : Int → Prop} (h : SqT K H p xs) (k : G xs.length) : LenK K p H G := ⟨xs, Or.inr h, k⟩
theorem UnpK.of {G : List V → Prop} (h : SqT K H p xs) (e : xs.length = n) (k : G xs) : UnpK K p n H G := ⟨xs, h, e, k⟩
theorem IterLK.of {G : Prop} (h : SqL K H p xs) (k : G) : IterLK K p H G := ⟨⟨xs, h⟩, k⟩
theorem SlLK.of {G : Addr → Hp → Prop} {lo hi : Option Int} (L : Led B H l) (h : SqL K H p xs) (k : ∀ p H1, Led B H1 ((p, .lst (cutV xs lo hi)) :: l) → G p H1) : SlLK K p lo hi H G := ⟨xs, h, NewK.of L k⟩
variable {Q : VK} {j : Int}
theorem x_I {C : Int → Int → Prop} {g : Int → Int → V} : rI C g (.int i) (.int j) H Q ↔ C i j ∧ Q (g i j) H := ⟨fun ⟨_, _, e1, e2, c, q⟩ => by cases e1; cases e2; exact ⟨c, q⟩, fun ⟨c, q⟩ => ⟨i, j, rfl, rfl, c, q⟩⟩
theorem x_I0 {g : Int → Int → V} : rI0 g (.int i) (.int j) H Q ↔ Q (g i j) H := ⟨fun ⟨_, _, e1, e2, q⟩ => by cases e1; cases e2; exact q, fun q => ⟨i, j, rfl, rfl, q⟩⟩
theorem x_U {g : Int → V} : rU g (.int i) H Q ↔ Q (g i) H := ⟨fun ⟨_, e1, q⟩ => by cases e1; exact q, fun q => ⟨i, rfl, q⟩⟩
theorem x_eq {x y : V} : rEq x y H Q ↔ scal x y = true ∧ Q (.bl (decide (x = y))) H := ⟨fun h => h, fun h => h⟩
theorem x_ne {x y : V} : rNe x y H Q ↔ scal x y = true ∧ Q (.bl (!decide (x = y))) H := ⟨fun h => h, fun h => h⟩
theorem x_ixL : rIxL K (.ref p) (.int i) H Q ↔ IxLK K p i H fun v => Q v H := ⟨fun ⟨_, xs, _, v, e1, e2, a, b, q⟩ => by cases e1; cases e2; exact ⟨xs, v, a, b, q⟩, fun ⟨xs, v, a, b, q⟩ => ⟨p, xs, i, v, rfl, rfl, a, b, q⟩⟩
theorem x_ixT : rIxT K (.ref p) (.int i) H Q ↔ IxTK K p i H fun v => Q v H := ⟨fun ⟨_, xs, _, v, e1, e2, a, b, q⟩ => by cases e1; cases e2; exact ⟨xs, v, a, b, q⟩, fun ⟨xs, v, a, b, q⟩ => ⟨p, xs, i, v, rfl, rfl, a, b, q⟩⟩
theorem x_setL {N : Hp → Prop} : rSetL (.ref p) (.int i) v H N ↔ SetK p i v H N := ⟨fun ⟨_, xs, _, j, e1, e2, a, b, q⟩ => by cases e1; cases e2; exact ⟨xs, j, a, b, q⟩, fun ⟨xs, j, a, b, q⟩ => ⟨p, xs, i, j, rfl, rfl, a, b, q⟩⟩
theorem x_app : rAppend (.ref p) [v] H Q ↔ AppK p v H fun H1 => Q .non H1 := ⟨fun ⟨_, xs, _, e1, e2, a, b, q⟩ => by cases e1; cases e2; exact ⟨xs, a, b, q⟩, fun ⟨xs, a, b, q⟩ => ⟨p, xs, v, rfl, rfl, a, b, q⟩⟩
theorem x_ext : rExtend (.ref p) [.ref q] H Q ↔ ExtK p q H fun H1 => Q .non H1 := ⟨fun ⟨_, _, xs, ys, e1, e2, a, b, c, q⟩ => by cases e1; cases e2; exact ⟨xs, ys, a, b, c, q⟩, fun ⟨xs, ys, a, b, c, q'⟩ => ⟨p, q, xs, ys, rfl, rfl, a, b, c, q'⟩⟩
theorem x_cat : rCat (.ref p) (.ref q) H Q ↔ CatK p q H fun r H1 => Q (.ref r) H1 := ⟨fun ⟨_, _, xs, ys, e1, e2, a, b, c, q⟩ => by cases e1; cases e2; exact ⟨xs, ys, a, b, c, q⟩, fun ⟨xs, ys, a, b, c, q'⟩ => ⟨p, q, xs, ys, rfl, rfl, a, b, c, q'⟩⟩
theorem x_slL {lo hi : Option Int} : rSlL K (.ref p) lo hi H Q ↔ SlLK K p lo hi H fun r H1 => Q (.ref r) H1 := ⟨fun ⟨_, xs, e1, a, q⟩ => by cases e1; exact ⟨xs, a, q⟩, fun ⟨xs, a, q⟩ => ⟨p, xs, rfl, a, q⟩⟩
theorem x_in {neg : Bool} {x : V} : rIn K neg x (.ref p) H Q ↔ InK K neg x p H fun b => Q (.bl b) H := ⟨fun ⟨_, xs, e1, a, b, c, q⟩ => by cases e1; exact ⟨xs, a, b, c, q⟩, fun ⟨xs, a, b, c, q⟩ => ⟨p, xs, rfl, a, b, c, q⟩⟩
theorem x_repr {x : V} : rRepr K [x] H Q ↔ RepK K x H fun t => Q (.str t) H := ⟨fun ⟨_, d, e1, a, b, q⟩ => by cases e1; exact ⟨d, a, b, q⟩, fun ⟨d, a, b, q⟩ => ⟨x, d, rfl, a, b, q⟩⟩
end
section
variable {σ : L2.St} {H : Hp} {Q : VK} {D : Ends} {ta tb te : TE} {t u : TT} {s1 s2 : TS} {v : V} {i n : Nat} {r : R2} {K : PySem.W.Frag} {TQ : Bool → Hp → Prop} {AQ : List V → Hp → Prop} {al : TA}
theorem e_var : tVar i σ H Q = ∃ v, σ[i]? = some (some v) ∧ Q v H := propext ⟨fun h => h, fun h => h⟩
theorem e_c : tC v σ H Q = Q v H := propext ⟨fun h => h, fun h => h⟩
theorem e_op : tOp r ta tb σ H Q = ta σ H fun x H1 => tb σ H1 fun y H2 => r x y H2 Q := propext ⟨fun h => h, fun h => h⟩
theorem e_un {r : V → Hp → VK → Prop} : tUn r ta σ H Q = ta σ H fun x H1 => r x H1 Q := propext ⟨fun h => h, fun h => h⟩
theorem e_if : tIf t ta tb σ H Q = t σ H fun c H1 => if c = true then ta σ H1 Q else tb σ H1 Q := propext ⟨fun h => h, fun h => h⟩
theorem e_andV : tAndV ta tb σ H Q = ta σ H fun x H1 => ∃ c, x = .bl c ∧ if c = true then tb σ H1 Q else Q (.bl false) H1 := propext ⟨fun h => h, fun h => h⟩
theorem e_orV : tOrV ta tb σ H Q = ta σ H fun x H1 => ∃ c, x = .bl c ∧ if c = true then Q (.bl true) H1 else tb σ H1 Q := propext ⟨fun h => h, fun h => h⟩
theorem e_notV : tNotV ta σ H Q = ta σ H fun x H1 => ∃ c, x = .bl c ∧ Q (.bl (!c)) H1 := propext ⟨fun h => h, fun h => h⟩
theorem e_lst : tLst al σ H Q = al σ H fun xs H1 => xs.length ≤ sizeLine ∧ NewK (.lst xs) H1 fun p H2 => Q (.ref p) H2 := propext ⟨fun h => h, fun h => h⟩
theorem e_tup : tTup al σ H Q = al σ H fun xs H1 => xs.length ≤ sizeLine ∧ NewK (.tup xs) H1 fun p H2 => Q (.ref p) H2 := propext ⟨fun h => h, fun h => h⟩
theorem e_CB {r : List V → Hp → VK → Prop} : tCB r al σ H Q = al σ H fun vs H1 => r vs H1 Q := propext ⟨fun h => h, fun h => h⟩
theorem e_BM {T : String} {r : V → List V → Hp → VK → Prop} : tBM K T r ta al σ H Q = ta σ H fun x H1 => tyV K T x H1 ∧ al σ H1 fun xs H2 => r x xs H2 Q := propext ⟨fun h => h, fun h => h⟩
theorem e_BM0 {T : String} {r : V → List V → Hp → VK → Prop} : tBM0 K T r ta σ H Q = ta σ H fun x H1 => tyV K T x H1 ∧ r x [] H1 Q := propext ⟨fun h => h, fun h => h⟩
theorem e_G {sp : Sp} {dvs : List V} {E : L2.St → XK} : tG sp dvs E al σ H Q = al σ H fun vs H1 => sp (vs ++ dvs) H1 Q (E σ) := propext ⟨fun h => h, fun h => h⟩
theorem e_chain {r r' : R2} {tc : TE} : tChain r r' ta tb tc σ H Q = ta σ H fun x H1 => tb σ H1 fun y H2 => r x y H2 fun z H3 => ∃ k, z = .bl k ∧ if k = true then tc σ H3 fun z H4 => r' y z H4 Q else Q (.bl false) H3 := propext ⟨fun h => h, fun h => h⟩
theorem e_sl {r : V → Option Int → Option Int → Hp → VK → Prop} {tl th : TO} : tSl r te tl th σ H Q = te σ H fun x H1 => tl σ H1 fun l H2 => th σ H2 fun u H3 => r x l u H3 Q := propext ⟨fun h => h, fun h => h⟩
theorem e_part {OQ : Option Int → Hp → Prop} : tPart te σ H OQ = te σ H fun x H1 => ∃ i, x = .int i ∧ OQ (some i) H1 := propext ⟨fun h => h, fun h => h⟩
theorem e_nopart {OQ : Option Int → Hp → Prop} : tNoPart σ H OQ = OQ none H := propext ⟨fun h => h, fun h => h⟩
theorem a_nil : tNil σ H AQ = AQ [] H := propext ⟨fun h => h, fun h => h⟩
theorem a_cons : tCons ta al σ H AQ = ta σ H fun x H1 => al σ H1 fun xs H2 => AQ (x :: xs) H2 := propext ⟨fun h => h, fun h => h⟩
theorem e_callLen : tCB (fun xs H Q => ∃ p ys, xs = [V.ref p] ∧ (SqL K H p ys ∨ SqT K H p ys) ∧ Q (.int ys.length) H) (tCons ta tNil) σ H Q ↔ ta σ H fun x H1 => ∃ p, x = .ref p ∧ LenK K p H1 fun n => Q (.int n) H1 := Iff.of_eq (congrArg (ta σ H) (funext fun x => funext fun H1 => propext ⟨fun ⟨p, ys, e, h, q⟩ => by cases e; exact ⟨p, rfl, ys, h, q⟩, fun ⟨p, e, ys, h, q⟩ => ⟨p, ys, by rw [e], h, q⟩⟩))
theorem t_B : tB te σ H TQ = te σ H fun x H1 => ∃ c, x = .bl c ∧ TQ c H1 := propext ⟨fun h => h, fun h => h⟩
theorem t_test : tTest te σ H TQ = te σ H fun x H1 => ∃ c, x = .bl c ∧ TQ c H1 := propext ⟨fun h => h, fun h => h⟩
theorem t_and : tAnd t u σ H TQ = t σ H fun c H1 => if c = true then u σ H1 TQ else TQ false H1 := propext ⟨fun h => h, fun h => h⟩
theorem t_or : tOr t u σ H TQ = t σ H fun c H1 => if c = true then TQ true H1 else u σ H1 TQ := propext ⟨fun h => h, fun h => h⟩
theorem t_not : tNot t σ H TQ = t σ H fun c H1 => TQ (!c) H1 := propext ⟨fun h => h, fun h => h⟩
theorem t_yes : tYes σ H TQ = TQ true H := propext ⟨fun h => h, fun h => h⟩
theorem s_seq : tSeq s1 s2 D σ H = s1 { D with nx := s2 D } σ H := propext ⟨fun h => h, fun h => h⟩
theorem s_next : tNext D σ H = D.nx σ H := propext ⟨fun h => h, fun h => h⟩
theorem s_break : tBreak D σ H = D.bk σ H := propext ⟨fun h => h, fun h => h⟩
theorem s_cont : tCont D σ H = D.ct σ H := propext ⟨fun h => h, fun h => h⟩
theorem s_drop : tDrop te D σ H = te σ H fun _ H1 => D.nx σ H1 := propext ⟨fun h => h, fun h => h⟩
theorem s_ret : tRet te D σ H = te σ H D.rt := propext ⟨fun h => h, fun h => h⟩
theorem s_retN : tRetN D σ H = D.rt .non H := propext ⟨fun h => h, fun h => h⟩
theorem s_ifS : tIfS t s1 s2 D σ H = t σ H fun b H1 => if b = true then s1 D σ H1 else s2 D σ H1 := propext ⟨fun h => h, fun h => h⟩
theorem s_asg {g : TG} : tAsg te g D σ H = te σ H fun x H1 => g x σ H1 D.nx := propext ⟨fun h => h, fun h => h⟩
theorem s_aug {ti : TIp} : tAug i te ti D σ H = ∃ x, σ[i]? = some (some x) ∧ te σ H fun y H1 => ti x y H1 fun z H2 => D.nx (σ.set i (some z)) H2 := propext ⟨fun h => h, fun h => h⟩
variable {N : L2.St → Hp → Prop}
theorem s_par {j : Nat} : tPar i j al D σ H = al σ H fun vs H1 => ∃ v w, vs = [v, w] ∧ D.nx ((σ.set i (some v)).set j (some w)) H1 := propext ⟨fun h => h, fun h => h⟩
theorem g_name : gName i v σ H N = N (σ.set i (some v)) H := propext ⟨fun h => h, fun h => h⟩
theorem g_tup {gs : TGs} {a : Addr} : gTup K n gs (.ref a) σ H N ↔ UnpK K a n H fun xs => gs xs σ H N := ⟨fun ⟨_, xs, e, h, z, q⟩ => by cases e; exact ⟨xs, h, z, q⟩, fun ⟨xs, h, z, q⟩ => ⟨a, xs, rfl, h, z, q⟩⟩
theorem g_nil : gNil [] σ H N ↔ N σ H := ⟨fun h => h.2, fun h => ⟨rfl, h⟩⟩
theorem g_cons {g : TG} {gs : TGs} {v : V} {vs : List V} : gCons g gs (v :: vs) σ H N ↔ g v σ H fun σ' H' => gs vs σ' H' N := ⟨fun ⟨_, _, e, q⟩ => by cases e; exact q, fun q => ⟨v, vs, rfl, q⟩⟩
theorem g_sub {st : TSet} : gSub ta tb st v σ H N = ta σ H fun o H1 => tb σ H1 fun i H2 => st o i v H2 fun H3 => N σ H3 := propext ⟨fun h => h, fun h => h⟩
theorem i_list {R : It → Hp → Prop} : iList K te σ H R = te σ H fun x H1 => ∃ a, x = .ref a ∧ (∃ xs, SqL K H1 a xs) ∧ R (Itl K a) H1 := propext ⟨fun h => h, fun h => h⟩
theorem i_tup {R : It → Hp → Prop} : iTup K te σ H R = te σ H fun x H1 => ∃ a, x = .ref a ∧ (∃ xs, SqT K H1 a xs) ∧ R (Itt K a) H1 := propext ⟨fun h => h, fun h => h⟩
theorem i_rng1 {R : It → Hp → Prop} : iRng1 al σ H R = al σ H fun vs H1 => ∃ j : Int, vs = [.int j] ∧ -(2 ^ 62) ≤ j ∧ j < 2 ^ 62 ∧ R (Itr 0 j.toNat) H1 := propext ⟨fun h => h, fun h => h⟩
theorem i_rng2 {R : It → Hp → Prop} : iRng2 al σ H R = al σ H fun vs H1 => ∃ i j : Int, vs = [.int i, .int j] ∧ (-(2 ^ 62) ≤ i ∧ i < 2 ^ 62 ∧ -(2 ^ 62) ≤ j ∧ j < 2 ^ 62) ∧ R (Itr i (j - i).toNat) H1 := propext ⟨fun h => h, fun h => h⟩
theorem i_enum {R : It → Hp → Prop} : iEnum K al σ H R = al σ H fun vs H1 => ∃ a xs, vs = [.ref a] ∧ SqL K H1 a xs ∧ R (Ite K a) H1 := propext ⟨fun h => h, fun h => h⟩
/-- a loop, kept whole -/
def LoopK (J : It) (g : TG) (tb : TS) (D : Ends) (σ : L2.St) (H1 : Hp) : Prop := ∃ W : Nat → Nat → L2.St → Hp → Prop, (∃ m, W 0 m σ H1) ∧ ∀ i m σ H, W i m σ H →
  (J.stop i H ∧ D.nx σ H) ∨ (J.go i H ∧ ∃ N : L2.St → Hp → Prop, (∀ σ' H', N σ' H' → ∃ m', m' < m ∧ W (i + 1) m' σ' H') ∧ ∀ x H', J.yld i H x H' → g x σ H' fun σ2 H2 => tb { D with nx := N, ct := N, bk := D.nx } σ2 H2)
theorem s_for {wi : TI} {g : TG} {tb : TS} : tFor wi g tb D σ H = wi σ H fun J H1 => LoopK J g tb D σ H1 := propext ⟨fun h => h, fun h => h⟩
/-- a comprehension, kept whole -/
def LcK (J : It) (g : TG) (tt : TT) (te : TE) (vs : List Nat) (σ : L2.St) (H1 : Hp) (Q : VK) : Prop := tLc (fun _ H R => R J H) g tt te vs σ H1 Q
theorem e_lc {wi : TI} {g : TG} {tt : TT} {vs : List Nat} : tLc wi g tt te vs σ H Q = wi σ H fun J H1 => LcK J g tt te vs σ H1 Q := propext ⟨fun h => h, fun h => h⟩
end

section
variable {X : Cx}
def rLen (K : PySem.W.Frag) : List V → Hp → VK → Prop := fun xs H Q => ∃ p ys, xs = [.ref p] ∧ (SqL K H p ys ∨ SqT K H p ys) ∧ Q (.int ys.length) H
theorem cr_len : CallR X (.builtin "len") (rLen X.K) := call_len_seq
theorem x_len {K : PySem.W.Frag} {p : Addr} {H : Hp} {Q : VK} : rLen K [.ref p] H Q ↔ LenK K p H fun n => Q (.int n) H := ⟨fun ⟨_, ys, e, h, q⟩ => by cases e; exact ⟨ys, h, q⟩, fun ⟨ys, h, q⟩ => ⟨p, ys, rfl, h, q⟩⟩
def rMx : List V → Hp → VK → Prop := fun xs H Q => ∃ i j, xs = [.int i, .int j] ∧ Q (.int (max i j)) H
def rMn : List V → Hp → VK → Prop := fun xs H Q => ∃ i j, xs = [.int i, .int j] ∧ Q (.int (min i j)) H
theorem mx_eq (i j : Int) : (if j > i then j else i) = max i j := by split <;> omega
theorem mn_eq (i j : Int) : (if j < i then j else i) = min i j := by split <;> omega
theorem CallR.as {f : Value} {r r' : List V → Hp → VK → Prop} (h : CallR X f r) (i : ∀ xs H Q, r' xs H Q → r xs H Q) : CallR X f r' := fun pins s σ H xs us Q I v q => h pins s σ H xs us Q I v (i xs H Q q)
theorem cr_max2 (hc : X.calm = true) : CallR X (.builtin "max") rMx := CallR.as (call_max2 hc) fun _ _ _ ⟨i, j, e, q⟩ => ⟨i, j, e, by rw [mx_eq]; exact q⟩
theorem cr_min2 (hc : X.calm = true) : CallR X (.builtin "min") rMn := CallR.as (call_min2 hc) fun _ _ _ ⟨i, j, e, q⟩ => ⟨i, j, e, by rw [mn_eq]; exact q⟩
theorem x_mx {i j : Int} {H : Hp} {Q : VK} : rMx [.int i, .int j] H Q ↔ Q (.int (max i j)) H := ⟨fun ⟨_, _, e, q⟩ => by cases e; exact q, fun q => ⟨i, j, rfl, q⟩⟩
theorem x_mn {i j : Int} {H : Hp} {Q : VK} : rMn [.int i, .int j] H Q ↔ Q (.int (min i j)) H := ⟨fun ⟨_, _, e, q⟩ => by cases e; exact q, fun q => ⟨i, j, rfl, q⟩⟩
theorem k_cx {C : CXT} {P : Program} {w : World} {K : PySem.W.Frag} {mg : Str → Option Value} {bs : Heap} {N : List Str} {qual : Str} {sc : Scope} {f : Addr} {cd : Value} {A : Around} {fr : List Env} {s : Shared} {H : Hp} {E : XK} :
    (cxOf C P w K mg bs N qual sc f cd A fr s H E).nox.K = K := rfl
theorem k_cx2 {C : CXT} {P : Program} {w : World} {K : PySem.W.Frag} {mg : Str → Option Value} {bs : Heap} {N : List Str} {qual : Str} {sc : Scope} {f : Addr} {cd : Value} {A : Around} {fr : List Env} {s : Shared} {H : Hp} {E : XK} :
    (cxOf C P w K mg bs N qual sc f cd A fr s H E).K = K := rfl
end
/-! ### isinstance(x, T), T a built-in class -/
def tyB (K : PySem.W.Frag) (H : Hp) (x : V) (t : String) : Prop := TyX K H x (.type t)
def rIs (K : PySem.W.Frag) : List V → Hp → VK → Prop := fun xs H Q => ∃ x n t b, xs = [x, .ty n] ∧ tyB K H x t ∧ kitB t n = some b ∧ Q (.bl b) H
theorem cr_is {X : Cx} : CallR X (.builtin "isinstance") (rIs X.K) := CallR.as call_isi fun _ _ _ ⟨x, n, _, b, e, ht, hb, q⟩ => ⟨x, .ty n, _, _, b, e, ClsV.ty n, ht, kit_ty hb, q⟩
section
variable {K : PySem.W.Frag} {H : Hp} {Q : VK}
theorem ty_int {i : Int} {t : String} (h : tyB K H (.int i) t) : t = "int" := by
  cases h with
  | base h => cases h; rfl
theorem ty_bl {i : Bool} {t : String} (h : tyB K H (.bl i) t) : t = "bool" := by
  cases h with
  | base h => cases h; rfl
theorem ty_non {t : String} (h : tyB K H .non t) : t = "NoneType" := by
  cases h with
  | base h => cases h; rfl
theorem ty_str {i : Str} {t : String} (h : tyB K H (.str i) t) : t = "str" := by
  cases h with
  | base h => cases h; rfl
theorem x_is {x : V} {t n : String} {b : Bool} (h1 : tyB K H x t) (h2 : ∀ u, tyB K H x u → u = t) (h3 : kitB t n = some b) : rIs K [x, .ty n] H Q ↔ Q (.bl b) H := by
  constructor
  · rintro ⟨_, _, u, c, e, hu, hc, q⟩
    cases e
    rw [h2 u hu, h3] at hc
    cases hc
    exact q
  · intro q
    exact ⟨x, n, t, b, rfl, h1, h3, q⟩
theorem x_is_int {i : Int} : rIs K [.int i, .ty "int"] H Q ↔ Q (.bl true) H := x_is (.base (.int i)) (fun _ => ty_int) (by decide +kernel)
theorem x_is_bi {i : Int} : rIs K [.int i, .ty "bool"] H Q ↔ Q (.bl false) H := x_is (.base (.int i)) (fun _ => ty_int) (by decide +kernel)
theorem x_is_bool {i : Bool} : rIs K [.bl i, .ty "int"] H Q ↔ Q (.bl true) H := x_is (.base (.bl i)) (fun _ => ty_bl) (by decide +kernel)
theorem x_is_bb {i : Bool} : rIs K [.bl i, .ty "bool"] H Q ↔ Q (.bl true) H := x_is (.base (.bl i)) (fun _ => ty_bl) (by decide +kernel)
theorem x_is_nb : rIs K [.non, .ty "bool"] H Q ↔ Q (.bl false) H := x_is (.base .non) (fun _ => ty_non) (by decide +kernel)
theorem x_is_ni : rIs K [.non, .ty "int"] H Q ↔ Q (.bl false) H := x_is (.base .non) (fun _ => ty_non) (by decide +kernel)
theorem x_is_sb {i : Str} : rIs K [.str i, .ty "bool"] H Q ↔ Q (.bl false) H := x_is (.base (.str i)) (fun _ => ty_str) (by decide +kernel)
theorem x_is_si {i : Str} : rIs K [.str i, .ty "int"] H Q ↔ Q (.bl false) H := x_is (.base (.str i)) (fun _ => ty_str) (by decide +kernel)
theorem x_is_ib {i : Str} : rIs K [.str i, .ty "str"] H Q ↔ Q (.bl true) H := x_is (.base (.str i)) (fun _ => ty_str) (by decide +kernel)
/-- isinstance of an object -/
def IsK (K : PySem.W.Frag) (a : Addr) (n : String) (H : Hp) (G : Bool → Prop) : Prop := ∃ t b, tyB K H (.ref a) t ∧ kitB t n = some b ∧ G b
theorem x_isR {a : Addr} {n : String} : rIs K [.ref a, .ty n] H Q ↔ IsK K a n H fun b => Q (.bl b) H := ⟨fun ⟨_, _, t, b, e, h1, h2, q⟩ => by cases e; exact ⟨t, b, h1, h2, q⟩, fun ⟨t, b, h1, h2, q⟩ => ⟨_, _, t, b, rfl, h1, h2, q⟩⟩
theorem IsK.tup {a : Addr} {n : String} {xs : List V} {b : Bool} {G : Bool → Prop} (h : H a = some (.tup xs)) (k : kitB "tuple" n = some b) (q : G b) : IsK K a n H G := ⟨_, b, .base (.tup h), k, q⟩
theorem IsK.lst {a : Addr} {n : String} {xs : List V} {b : Bool} {G : Bool → Prop} (h : H a = some (.lst xs)) (k : kitB "list" n = some b) (q : G b) : IsK K a n H G := ⟨_, b, .base (.lst h), k, q⟩
end
/-! ### instances -/
def FldK (K : PySem.W.Frag) (p : Addr) (f : Str) (H : Hp) (G : V → Prop) : Prop := ∃ C dx fs v, H p = some (.ins C dx fs) ∧ Cls K C ∧ NoAttr K C f ∧ fs.lookup f = some v ∧ G v
def StK (K : PySem.W.Frag) (p : Addr) (f : Str) (y : V) (H : Hp) (G : Hp → Prop) : Prop := ∃ C dx fs, H p = some (.ins C dx fs) ∧ Cls K C ∧ NoAttr K C f ∧ fs.length < 1000 ∧ G (upd H p (.ins C dx (putF f y fs)))
section
variable {K : PySem.W.Frag} {B H : Hp} {l l' : List (Addr × HO)} {p C dx : Addr} {fs fs' : List (Str × V)} {f : Str} {v : V} {σ : L2.St} {Q : VK} {D : Ends} {ta tv : TE}
theorem e_fld : tFld K ta f σ H Q ↔ ta σ H fun x H1 => ∃ a, x = .ref a ∧ FldK K a f H1 fun v => Q v H1 := Iff.of_eq (congrArg (ta σ H) (funext fun x => funext fun H1 => propext ⟨fun ⟨a, C, dx, fs, v, e, r⟩ => ⟨a, e, C, dx, fs, v, r⟩, fun ⟨a, e, C, dx, fs, v, r⟩ => ⟨a, C, dx, fs, v, e, r⟩⟩))
theorem s_fld : sFld K ta tv f D σ H ↔ tv σ H fun y H1 => ta σ H1 fun x H2 => ∃ a, x = .ref a ∧ StK K a f y H2 fun H3 => D.nx σ H3 := Iff.of_eq (congrArg (tv σ H) (funext fun y => funext fun H1 => congrArg (ta σ H1) (funext fun x => funext fun H2 => propext ⟨fun ⟨a, C, dx, fs, e, r⟩ => ⟨a, e, C, dx, fs, r⟩, fun ⟨a, e, C, dx, fs, r⟩ => ⟨a, C, dx, fs, e, r⟩⟩)))
theorem FldK.of {G : V → Prop} (L : Led B H l) (m : (p, HO.ins C dx fs) ∈ l) (c : Cls K C) (n : NoAttr K C f) (e : fs.lookup f = some v) (k : G v) : FldK K p f H G := ⟨C, dx, fs, v, L.at m, c, n, e, k⟩
theorem StK.of {G : Hp → Prop} (L : Led B H l) (m : (p, HO.ins C dx fs) ∈ l) (c : Cls K C) (n : NoAttr K C f) (e : putF f v fs = fs') (t : Put l p (.ins C dx fs') l') (k : ∀ H1, Led B H1 l' → G H1) (h : fs.length < 1000 := by first | decide | (simp only [List.length_cons, List.length_nil]; decide) | omega) : StK K p f v H G :=
  ⟨C, dx, fs, L.at m, c, n, h, by rw [e]; exact k _ (L.put t)⟩
/-- o.m(..) -/
def MtK (p C : Addr) (m : Str) (H : Hp) (G : Prop) : Prop := ∃ dx fs, H p = some (.ins C dx fs) ∧ fs.lookup m = none ∧ G
theorem e_MG {m : Str} {sp : Sp} {dvs : List V} {E : L2.St → XK} {t : TA} : tMG C m sp dvs E ta t σ H Q ↔ ta σ H fun x H1 => ∃ a, x = .ref a ∧ MtK a C m H1 (t σ H1 fun vs H2 => sp (x :: (vs ++ dvs)) H2 Q (E σ)) :=
  Iff.of_eq (congrArg (ta σ H) (funext fun x => funext fun H1 => propext ⟨fun ⟨a, dx, fs, e, r1, r2, r3⟩ => ⟨a, e, dx, fs, r1, r2, r3⟩, fun ⟨a, e, dx, fs, r1, r2, r3⟩ => ⟨a, dx, fs, e, r1, r2, r3⟩⟩))
theorem MtK.of {m : Str} {G : Prop} (L : Led B H l) (h : (p, HO.ins C dx fs) ∈ l) (e : fs.lookup m = none) (k : G) : MtK p C m H G := ⟨dx, fs, L.at h, e, k⟩
/-- C(..) -/
def MkK (C : Addr) (H : Hp) (G : Addr → Hp → Prop) : Prop := ∀ x dx, H x = none → H dx = none → dx ≠ x → G x (upd (upd H dx (.own x)) x (.ins C dx []))
theorem e_KG {sp : Sp} {dvs : List V} {E : L2.St → XK} {t : TA} : tKG C sp dvs E t σ H Q = t σ H fun vs H1 => MkK C H1 fun x H2 => sp (.ref x :: (vs ++ dvs)) H2 (fun v H3 => v = .non ∧ Q (.ref x) H3) (E σ) := propext ⟨fun h => h, fun h => h⟩
theorem MkK.of {G : Addr → Hp → Prop} (L : Led B H l) (k : ∀ x dx H1, Led B H1 ((x, .ins C dx []) :: l) → G x H1) : MkK C H G := fun x dx hx hd ne =>
  k x dx _ (((L.new hd).new (by rw [upd_ne ne.symm]; exact hx)).sel (.cons .hd (.skip .all)))
/-! ### lists again -/
def RptK (l : Addr) (n : Int) (H : Hp) (G : Addr → Hp → Prop) : Prop := ∃ xs, H l = some (.lst xs) ∧ -(2 ^ 63) ≤ n ∧ n < 2 ^ 63 ∧ xs.length * n.toNat ≤ sizeLine ∧ NewK (.lst (List.replicate n.toNat xs).flatten) H G
theorem x_rpt {a : Addr} {n : Int} : rRep (.ref a) (.int n) H Q ↔ RptK a n H fun p H1 => Q (.ref p) H1 := ⟨fun ⟨_, _, xs, e1, e2, h, h1, h2, h3, q⟩ => by cases e1; cases e2; exact ⟨xs, h, h1, h2, h3, q⟩, fun ⟨xs, h, h1, h2, h3, q⟩ => ⟨a, n, xs, rfl, rfl, h, h1, h2, h3, q⟩⟩
theorem flat_one {α : Type} (n : Nat) (x : α) : (List.replicate n [x]).flatten = List.replicate n x := by
  induction n with
  | zero => rfl
  | succ n ih => rw [List.replicate_succ, List.flatten_cons, ih, List.replicate_succ]; rfl
theorem RptK.of {a : Addr} {n : Nat} {G : Addr → Hp → Prop} (L : Led B H l) (h : (a, HO.lst [v]) ∈ l) (hn : n ≤ 100000) (k : ∀ p H1, Led B H1 ((p, .lst (List.replicate n v)) :: l) → G p H1) : RptK a (n : Int) H G :=
  ⟨[v], L.at h, by omega, by omega, Nat.le_trans (m := 100000) (by rw [Int.toNat_natCast]; simpa using hn) (by decide), by rw [Int.toNat_natCast, flat_one]; exact NewK.of L k⟩
def RemK (a : Addr) (n : Int) (H : Hp) (G : Hp → Prop) : Prop := ∃ (ns : List Int) (j : Nat), H a = some (.lst (ns.map V.int)) ∧ ns[j]? = some n ∧ (∀ m : Nat, m < j → ns[m]? ≠ some n) ∧ G (upd H a (.lst ((ns.eraseIdx j).map V.int)))
theorem x_rem {a : Addr} {n : Int} : rRemI (.ref a) [.int n] H Q ↔ RemK a n H fun H1 => Q .non H1 := ⟨fun ⟨_, ns, _, j, e1, e2, h, h1, h2, q⟩ => by cases e1; cases e2; exact ⟨ns, j, h, h1, h2, q⟩, fun ⟨ns, j, h, h1, h2, q⟩ => ⟨a, ns, n, j, rfl, rfl, h, h1, h2, q⟩⟩
theorem first_at {n : Int} : ∀ {ns : List Int}, n ∈ ns → ∃ j, ns[j]? = some n ∧ (∀ m : Nat, m < j → ns[m]? ≠ some n) ∧ ns.eraseIdx j = ns.erase n
  | [], h => (List.not_mem_nil h).elim
  | x :: r, h => by
    by_cases c : x = n
    · subst c
      exact ⟨0, rfl, fun m hm => absurd hm (Nat.not_lt_zero _), by rw [List.erase_cons_head]; rfl⟩
    · obtain ⟨j, h1, h2, h3⟩ := first_at ((List.mem_cons.mp h).resolve_left fun z => c z.symm)
      refine ⟨j + 1, h1, fun m hm => ?_, ?_⟩
      · cases m with
        | zero => intro z; exact c (Option.some.inj z)
        | succ m => exact h2 m (by omega)
      · rw [List.erase_cons_tail (by simpa using c), List.eraseIdx_cons_succ, h3]
theorem RemK.of {a : Addr} {n : Int} {ns : List Int} {G : Hp → Prop} (L : Led B H l) (h : (a, HO.lst (ns.map V.int)) ∈ l) (hm : n ∈ ns) (t : Put l a (.lst ((ns.erase n).map V.int)) l') (k : ∀ H1, Led B H1 l' → G H1) : RemK a n H G := by
  obtain ⟨j, h1, h2, h3⟩ := first_at hm
  exact ⟨ns, j, L.at h, h1, h2, by rw [h3]; exact k _ (L.put t)⟩
def MinK (K : PySem.W.Frag) (a : Addr) (H : Hp) (G : Int → Prop) : Prop := ∃ ns : List Int, SqL K H a (ns.map V.int) ∧ 0 < ns.length ∧ ∀ m, m ∈ ns → (∀ y, y ∈ ns → m ≤ y) → G m
theorem x_min {a : Addr} : rMin K [.ref a] H Q ↔ MinK K a H fun m => Q (.int m) H := ⟨fun ⟨_, ns, e, r⟩ => by cases e; exact ⟨ns, r⟩, fun ⟨ns, r⟩ => ⟨a, ns, rfl, r⟩⟩
theorem e_lrg1 {te : L2.St → Hp → (Int → Int → Hp → Prop) → Prop} : tLstRg te σ H Q = te σ H fun a b H1 => RgOk a b ∧ NewK (.lst (rgV a b)) H1 fun p H2 => Q (.ref p) H2 := propext ⟨fun h => h, fun h => h⟩
theorem e_rg1 {R : Int → Int → Hp → Prop} : tRg1 ta σ H R = ta σ H fun x H1 => ∃ n, x = .int n ∧ R 0 n H1 := propext ⟨fun h => h, fun h => h⟩
def rRev : V → List V → Hp → VK → Prop := rReverse
def RevK (a : Addr) (H : Hp) (G : Hp → Prop) : Prop := ∃ xs, H a = some (.lst xs) ∧ G (upd H a (.lst xs.reverse))
theorem x_rev {a : Addr} : rReverse (.ref a) [] H Q ↔ RevK a H fun H1 => Q .non H1 := ⟨fun ⟨_, xs, e, _, h, q⟩ => by cases e; exact ⟨xs, h, q⟩, fun ⟨xs, h, q⟩ => ⟨a, xs, rfl, rfl, h, q⟩⟩
theorem RevK.of {a : Addr} {xs : List V} {G : Hp → Prop} (L : Led B H l) (h : (a, HO.lst xs) ∈ l) (t : Put l a (.lst xs.reverse) l') (k : ∀ H1, Led B H1 l' → G H1) : RevK a H G := ⟨xs, L.at h, k _ (L.put t)⟩
theorem s_augS {to ti te : TE} {tget : V → V → Hp → VK → Prop} {tip : TIp} {tset : TSet} : tAugS to ti te tget tip tset D σ H = to σ H fun o H1 => ti σ H1 fun i H2 => tget o i H2 fun x H3 => te σ H3 fun y H4 => tip x y H4 fun z H5 => tset o i z H5 fun H6 => D.nx σ H6 := propext ⟨fun h => h, fun h => h⟩
theorem x_ip {g : Int → Int → Int} {i j : Int} : ipI g (.int i) (.int j) H Q ↔ Q (.int (g i j)) H := ⟨fun ⟨_, _, e1, e2, q⟩ => by cases e1; cases e2; exact q, fun q => ⟨i, j, rfl, rfl, q⟩⟩
theorem i_rng3 {al : TA} {R : It → Hp → Prop} : iRng3 al σ H R = al σ H fun vs H1 => ∃ (i j c : Int) (n : Nat), vs = [.int i, .int j, .int c] ∧ RgC i j c n ∧ R (Itc i c n) H1 := propext ⟨fun h => h, fun h => h⟩
end
theorem pget_list {X : Cx} : PGet X (rIxL X.K) := by
  intro pins s σ H x y v u Q I rx ry h
  obtain ⟨p, xs, i, z, rfl, rfl, hq, he, q⟩ := h
  cases rx
  obtain ⟨t, rfl⟩ := ry
  obtain ⟨its, r, pl, hz⟩ := I.list hq
  obtain ⟨j, h1, h2, h3, h4, h5⟩ := atI_get he
  obtain ⟨w, ew, rw'⟩ := r.get h2
  have hl := r.length
  have hn := line63
  have fin : EP X pins σ Q w s := ⟨z, H, I, rw', q⟩
  by_cases h0 : 0 ≤ i
  · have hj : i.toNat = j := by
      have h1' := h1
      rw [seqIndex_of h0 h5] at h1'
      exact Option.some.inj h1'
    exact wpAny_getItem_list pl.isList h0 (by omega) (by rw [hj]; simpa using ew) fin
  · have hj : (i + (its.toArray.size : Int)).toNat = j := by
      have h1' := h1
      rw [seqIndex_neg (by omega) h4] at h1'
      rw [List.size_toArray, ← hl]
      exact Option.some.inj h1'
    exact wpAny_getItem_list_neg pl.isList (by omega) (by rw [List.size_toArray] <;> omega) (by omega) (by rw [hj]; simpa using ew) fin
/-! ### loops, kept whole -/
section
variable {K : PySem.W.Frag} {g : TG} {tb : TS} {D : Ends} {σ : L2.St} {H : Hp} {a : Addr} {xs : List V} {lo : Int} {n : Nat}
theorem loop_list (Pv : Nat → L2.St → Hp → Prop) (h0 : Pv 0 σ H) (hl : ∀ i σ H, i ≤ xs.length → Pv i σ H → SqL K H a xs)
    (hs : ∀ i x σ H (N : L2.St → Hp → Prop), xs[i]? = some x → Pv i σ H → (∀ σ' H', Pv (i + 1) σ' H' → N σ' H') → g x σ H fun σ2 H2 => tb { D with nx := N, ct := N, bk := D.nx } σ2 H2) (hd : ∀ σ H, Pv xs.length σ H → D.nx σ H) : LoopK (Itl K a) g tb D σ H :=
  for_list Pv h0 hl (fun i x σ H e p => hs i x σ H _ e p fun _ _ z => z) hd
theorem loop_tup (Pv : Nat → L2.St → Hp → Prop) (h0 : Pv 0 σ H) (hl : ∀ i σ H, i ≤ xs.length → Pv i σ H → SqT K H a xs)
    (hs : ∀ i x σ H (N : L2.St → Hp → Prop), xs[i]? = some x → Pv i σ H → (∀ σ' H', Pv (i + 1) σ' H' → N σ' H') → g x σ H fun σ2 H2 => tb { D with nx := N, ct := N, bk := D.nx } σ2 H2) (hd : ∀ σ H, Pv xs.length σ H → D.nx σ H) : LoopK (Itt K a) g tb D σ H :=
  for_tup Pv h0 hl (fun i x σ H e p => hs i x σ H _ e p fun _ _ z => z) hd
theorem loop_range (Pv : Nat → L2.St → Hp → Prop) (h0 : Pv 0 σ H)
    (hs : ∀ i σ H (N : L2.St → Hp → Prop), i < n → Pv i σ H → (∀ σ' H', Pv (i + 1) σ' H' → N σ' H') → g (.int (lo + i)) σ H fun σ2 H2 => tb { D with nx := N, ct := N, bk := D.nx } σ2 H2) (hd : ∀ σ H, Pv n σ H → D.nx σ H) : LoopK (Itr lo n) g tb D σ H :=
  for_range Pv h0 (fun i σ H e p => hs i σ H _ e p fun _ _ z => z) hd
theorem loop_rangeC {c : Int} (Pv : Nat → L2.St → Hp → Prop) (h0 : Pv 0 σ H)
    (hs : ∀ i σ H (N : L2.St → Hp → Prop), i < n → Pv i σ H → (∀ σ' H', Pv (i + 1) σ' H' → N σ' H') → g (.int (lo + (i : Nat) * c)) σ H fun σ2 H2 => tb { D with nx := N, ct := N, bk := D.nx } σ2 H2) (hd : ∀ σ H, Pv n σ H → D.nx σ H) : LoopK (Itc lo c n) g tb D σ H :=
  for_rangeC Pv h0 (fun i σ H e p => hs i σ H _ e p fun _ _ z => z) hd
variable {tt : TT} {te : TE} {vs : List Nat} {Q : VK}
/-- what a turn of a comprehension does, N behind it -/
def TurnK (g : TG) (tt : TT) (te : TE) (vs : List Nat) (σ : L2.St) (p : Addr) (N : Hp → Prop) (x : V) (H : Hp) : Prop :=
  g x (wipe σ vs) H fun σ2 H2 => wipe σ2 vs = wipe σ vs ∧ tt σ2 H2 fun b H3 => if b = true then te σ2 H3 fun y H4 => AppK p y H4 N else N H3
theorem comp_gen {J : It} (n : Nat) (R : Nat → Addr → List V → Hp → Prop) (h0 : ∀ p, H p = none → R 0 p [] (upd H p (.lst [])))
    (hn : ∀ p acc H', R n p acc H' → J.stop n H' ∧ Q (.ref p) H')
    (hs : ∀ i p acc H', i < n → R i p acc H' → J.go i H' ∧ ∀ x H2, J.yld i H' x H2 → TurnK g tt te vs σ p (fun H3 => ∃ acc, R (i + 1) p acc H3) x H2) : LcK J g tt te vs σ H Q := by
  intro p hp
  refine ⟨fun i m H' => m = n - i ∧ i ≤ n ∧ ∃ acc, R i p acc H', ⟨n, rfl, Nat.zero_le _, [], h0 p hp⟩, ?_⟩
  rintro i m H' ⟨rfl, hi, acc, r⟩
  by_cases c : i < n
  · obtain ⟨r1, r2⟩ := hs i p acc H' c r
    exact Or.inr ⟨r1, fun H'' => ∃ acc, R (i + 1) p acc H'', fun H'' z => ⟨n - (i + 1), by omega, rfl, c, z⟩, fun x H2 y => r2 x H2 y⟩
  · have e : i = n := by omega
    subst e
    exact Or.inl (hn p acc H' r)
/-- over a list that stands -/
theorem comp_list (R : Nat → Addr → List V → Hp → Prop) (h0 : ∀ p, H p = none → R 0 p [] (upd H p (.lst []))) (hl : ∀ i p acc H', R i p acc H' → SqL K H' a xs)
    (hn : ∀ p acc H', R xs.length p acc H' → Q (.ref p) H') (hs : ∀ i p acc H' x (N : Hp → Prop), xs[i]? = some x → R i p acc H' → (∀ acc H3, R (i + 1) p acc H3 → N H3) → TurnK g tt te vs σ p N x H') : LcK (Itl K a) g tt te vs σ H Q := by
  refine comp_gen xs.length R h0 (fun p acc H' r => ⟨⟨xs, hl _ _ _ _ r, Nat.le_refl _⟩, hn p acc H' r⟩) fun i p acc H' hi r => ?_
  refine ⟨⟨xs, xs[i], hl _ _ _ _ r, List.getElem?_eq_getElem hi⟩, ?_⟩
  rintro x H2 ⟨rfl, hx⟩
  exact hs i p acc _ x _ (hx xs (hl _ _ _ _ r)) r fun acc H3 z => ⟨acc, z⟩
theorem comp_tup (R : Nat → Addr → List V → Hp → Prop) (h0 : ∀ p, H p = none → R 0 p [] (upd H p (.lst []))) (hl : ∀ i p acc H', R i p acc H' → SqT K H' a xs)
    (hn : ∀ p acc H', R xs.length p acc H' → Q (.ref p) H') (hs : ∀ i p acc H' x (N : Hp → Prop), xs[i]? = some x → R i p acc H' → (∀ acc H3, R (i + 1) p acc H3 → N H3) → TurnK g tt te vs σ p N x H') : LcK (Itt K a) g tt te vs σ H Q := by
  refine comp_gen xs.length R h0 (fun p acc H' r => ⟨⟨xs, hl _ _ _ _ r, Nat.le_refl _⟩, hn p acc H' r⟩) fun i p acc H' hi r => ?_
  refine ⟨⟨xs, xs[i], hl _ _ _ _ r, List.getElem?_eq_getElem hi⟩, ?_⟩
  rintro x H2 ⟨rfl, hx⟩
  exact hs i p acc _ x _ (hx xs (hl _ _ _ _ r)) r fun acc H3 z => ⟨acc, z⟩
theorem comp_range (R : Nat → Addr → List V → Hp → Prop) (h0 : ∀ p, H p = none → R 0 p [] (upd H p (.lst [])))
    (hn : ∀ p acc H', R n p acc H' → Q (.ref p) H') (hs : ∀ i p acc H' (N : Hp → Prop), i < n → R i p acc H' → (∀ acc H3, R (i + 1) p acc H3 → N H3) → TurnK g tt te vs σ p N (.int (lo + i)) H') : LcK (Itr lo n) g tt te vs σ H Q := by
  refine comp_gen n R h0 (fun p acc H' r => ⟨Nat.le_refl _, hn p acc H' r⟩) fun i p acc H' hi r => ⟨hi, ?_⟩
  rintro x H2 ⟨rfl, rfl⟩
  exact hs i p acc _ _ hi r fun acc H3 z => ⟨acc, z⟩
/-- over enumerate of a list that stands -/
theorem comp_enum (R : Nat → Addr → List V → Hp → Prop) (h0 : ∀ p, H p = none → R 0 p [] (upd H p (.lst []))) (hl : ∀ i p acc H', R i p acc H' → SqL K H' a xs)
    (hn : ∀ p acc H', R xs.length p acc H' → Q (.ref p) H')
    (hs : ∀ i p acc H' x (N : Hp → Prop), xs[i]? = some x → R i p acc H' → (∀ acc H3, R (i + 1) p acc H3 → N H3) → NewK (.tup [.int (i : Nat), x]) H' fun t H2 => TurnK g tt te vs σ p N (.ref t) H2) : LcK (Ite K a) g tt te vs σ H Q := by
  refine comp_gen xs.length R h0 (fun p acc H' r => ⟨⟨xs, hl _ _ _ _ r, Nat.le_refl _⟩, hn p acc H' r⟩) fun i p acc H' hi r => ?_
  refine ⟨⟨xs, xs[i], hl _ _ _ _ r, List.getElem?_eq_getElem hi⟩, ?_⟩
  rintro v H2 ⟨t, x, rfl, ht, rfl, hx⟩
  exact hs i p acc _ x _ (hx xs (hl _ _ _ _ r)) r (fun acc H3 z => ⟨acc, z⟩) t ht
end

/-! ### small facts -/
theorem NeD.of {K : PySem.W.Frag} {H : Hp} {x y : V} {d e : PyData} {Q : VK} (h1 : Dp K H x d) (h2 : Dp K H y e) (s1 : SeqAt.shaped d = true) (s2 : SeqAt.shaped e = true) (q : Q (.bl (!PyData.eqv d e)) H) : rNeD K x y H Q := ⟨d, e, h1, h2, s1, s2, q⟩
theorem EqD.of {K : PySem.W.Frag} {H : Hp} {x y : V} {d e : PyData} {Q : VK} (h1 : Dp K H x d) (h2 : Dp K H y e) (s1 : SeqAt.shaped d = true) (s2 : SeqAt.shaped e = true) (q : Q (.bl (PyData.eqv d e)) H) : rEqD K x y H Q := ⟨d, e, h1, h2, s1, s2, q⟩
theorem RepK.of {K : PySem.W.Frag} {H : Hp} {x : V} {d : PyData} {n k : Nat} {G : Str → Prop} (h : Dp K H x d) (w : Shw n k d) (h1 : n ≤ 16000000) (h2 : k ≤ 60) (q : G d.shown) : RepK K x H G := ⟨d, h, w.up h1 h2, q⟩
theorem RepK.int {K : PySem.W.Frag} {H : Hp} {i : Int} {G : Str → Prop} (k : Nat) (h : i.natAbs < 2 ^ k) (q : G (PyData.int i).shown) (h0 : 0 < k := by decide) (h1 : k ≤ 1920 := by decide) : RepK K (.int i) H G := RepK.of (Dp.int i) (Shw.int h0 h1 h) (by omega) (by decide) q
theorem RepK.bl {K : PySem.W.Frag} {H : Hp} {b : Bool} {G : Str → Prop} (q : G (PyData.bool b).shown) : RepK K (.bl b) H G := RepK.of (Dp.bl b) (Shw.bl b) (by decide) (by decide) q
theorem canLayAll_all : ∀ ds : List PyData, (∀ d ∈ ds, d.canLay0 = true) → PyData.canLayAll0 ds = true
  | [], _ => rfl
  | d :: r, h => by
    rw [PyData.canLayAll0, h d List.mem_cons_self, canLayAll_all r fun e he => h e (List.mem_cons_of_mem _ he)]; rfl
/-- data that == takes -/
structure Eqd (k : Nat) (d : PyData) : Prop where
  c : d.canLay0 = true
  p : d.depth ≤ k
theorem Eqd.lst {k : Nat} {ds : List PyData} (h : ∀ d ∈ ds, Eqd k d) : Eqd (k + 1) (.list ds) := ⟨by rw [PyData.canLay0]; exact canLayAll_all ds fun d hd => (h d hd).c, by
  simp only [PyData.depth]
  have := depthAll_le ds fun d hd => (h d hd).p
  omega⟩
theorem Eqd.tup {k : Nat} {ds : List PyData} (h : ∀ d ∈ ds, Eqd k d) : Eqd (k + 1) (.tuple ds) := ⟨by rw [PyData.canLay0]; exact canLayAll_all ds fun d hd => (h d hd).c, by
  simp only [PyData.depth]
  have := depthAll_le ds fun d hd => (h d hd).p
  omega⟩
theorem Eqd.int (i : Int) : Eqd 1 (.int i) := ⟨by rw [PyData.canLay0], by simp [PyData.depth]⟩
theorem Eqd.str (i : Str) (h : PyData.strOk i = true) : Eqd 1 (.str i) := ⟨by rw [PyData.canLay0]; exact h, by simp [PyData.depth]⟩
theorem Eqd.bl (i : Bool) : Eqd 1 (.bool i) := ⟨by rw [PyData.canLay0], by simp [PyData.depth]⟩
theorem Eqd.non : Eqd 1 .none := ⟨by rw [PyData.canLay0], by simp [PyData.depth]⟩
theorem Eqd.sh {k : Nat} {d : PyData} (h : Eqd k d) (hk : k ≤ 64) : SeqAt.shaped d = true := by
  unfold SeqAt.shaped
  rw [h.c, Bool.true_and]
  exact decide_eq_true (Nat.le_trans h.p hk)
theorem eqv_nil (ds : List PyData) : PyData.eqv (.list ds) (.list []) = ds.isEmpty := by
  cases ds with
  | nil => exact rfl
  | cons d r => exact rfl
theorem EqD.nil {K : PySem.W.Frag} {H : Hp} {a b : Addr} {xs : List V} {ds : List PyData} {Q : VK} {k : Nat} (h : SqL K H a xs) (e : DpAll K H xs ds) (g : ∀ d ∈ ds, Eqd k d) (hk : k ≤ 60) (h2 : SqL K H b []) (q : Q (.bl ds.isEmpty) H) : rEqD K (.ref a) (.ref b) H Q :=
  EqD.of (.lst h e) (.lst h2 .nil) ((Eqd.lst g).sh (by omega)) ((Eqd.lst (k := 1) (ds := []) (fun _ z => (List.not_mem_nil z).elim)).sh (by decide)) (by rw [eqv_nil]; exact q)
theorem NeD.nil {K : PySem.W.Frag} {H : Hp} {a b : Addr} {xs : List V} {ds : List PyData} {Q : VK} {k : Nat} (h : SqL K H a xs) (e : DpAll K H xs ds) (g : ∀ d ∈ ds, Eqd k d) (hk : k ≤ 60) (h2 : SqL K H b []) (q : Q (.bl (!ds.isEmpty)) H) : rNeD K (.ref a) (.ref b) H Q :=
  NeD.of (.lst h e) (.lst h2 .nil) ((Eqd.lst g).sh (by omega)) ((Eqd.lst (k := 1) (ds := []) (fun _ z => (List.not_mem_nil z).elim)).sh (by decide)) (by rw [eqv_nil]; exact q)
theorem tyL {K : PySem.W.Frag} {H : Hp} {p : Addr} {xs : List V} (h : SqL K H p xs) : tyV K "list" (.ref p) H := Or.inl ⟨rfl, _, h⟩
theorem tri_even (t : Int) : t * (t + 1) % 2 = 0 := by
  rw [Int.mul_emod]
  have h : t % 2 = 0 ∨ t % 2 = 1 := by omega
  rcases h with h | h
  · rw [h, Int.zero_mul]; rfl
  · have e : (t + 1) % 2 = 0 := by omega
    rw [e, Int.mul_zero]; rfl
theorem eqv_refl_nil : PyData.eqv (.list []) (.list []) = true := by first | rfl | simp [PyData.eqv, PyData.eqvAll] | decide +kernel
theorem sc_ii {i j : Int} : scal (.int i) (.int j) = true ↔ True := iff_true_intro rfl
theorem sc_ss {i j : Str} : scal (.str i) (.str j) = true ↔ True := iff_true_intro rfl
theorem sc_bb {i j : Bool} : scal (.bl i) (.bl j) = true ↔ True := iff_true_intro rfl
theorem sc_nn : scal .non .non = true ↔ True := iff_true_intro rfl
theorem sc_ns {j : Str} : scal .non (.str j) = true ↔ True := iff_true_intro rfl
theorem sc_sn {j : Str} : scal (.str j) .non = true ↔ True := iff_true_intro rfl
theorem sc_ni {j : Int} : scal .non (.int j) = true ↔ True := iff_true_intro rfl
theorem sc_in {j : Int} : scal (.int j) .non = true ↔ True := iff_true_intro rfl
theorem tri (t : Int) : (t + 1) * (t + 1 + 1) / 2 = t * (t + 1) / 2 + (t + 1) := by
  have e : (t + 1) * (t + 1 + 1) = t * (t + 1) + 2 * (t + 1) := by
    rw [Int.mul_add (t + 1) (t + 1) 1, Int.add_mul t 1 (t + 1)]
    omega
  rw [e]
  omega
theorem atI_in {α : Type} {xs : List α} {i : Int} (h0 : 0 ≤ i) (h : i < xs.length) : atI xs i = some (xs[i.toNat]'(by omega)) := by
  unfold atI ixN
  rw [if_pos h0, if_pos h]
  show xs[i.toNat]? = _
  exact List.getElem?_eq_getElem _
theorem atI_map {ns : List Int} {i : Int} (h0 : 0 ≤ i) (h : i < ns.length) : ∃ n, n ∈ ns ∧ atI (ns.map V.int) i = some (.int n) := by
  have h2 : i < ((ns.map V.int).length : Nat) := by rw [List.length_map]; exact h
  refine ⟨ns[i.toNat]'(by omega), List.getElem_mem _, ?_⟩
  rw [atI_in h0 h2, List.getElem_map]
theorem two_pow (n : Nat) : (2 : Int) ^ n = ((2 ^ n : Nat) : Int) := by
  rw [Int.natCast_pow]; rfl
theorem abs_lt {i : Int} {n : Nat} (h0 : 0 ≤ i) (h : i < 2 ^ n) : i.natAbs < 2 ^ n := by
  rw [two_pow] at h
  omega
theorem pow_bits {i : Int} {n m : Nat} (hn : 0 < n) (h0 : 0 ≤ i) (h : i < 2 ^ n) (hm : n * m ≤ 2 ^ 27) : 0 ≤ (m : Int) ∧ (Builtin.Int.intBits i : Int) * (m : Int) ≤ 2 ^ 27 := by
  have h2 := bits_le hn (abs_lt h0 h)
  refine ⟨by omega, ?_⟩
  have h3 : Builtin.Int.intBits i * m ≤ 2 ^ 27 := Nat.le_trans (Nat.mul_le_mul_right m h2) hm
  have h4 : ((Builtin.Int.intBits i * m : Nat) : Int) ≤ ((2 ^ 27 : Nat) : Int) := Int.ofNat_le.mpr h3
  rw [Int.natCast_mul] at h4
  exact h4
theorem mul_w {i j : Int} {n : Nat} (hn : 0 < n) (h0 : 0 ≤ i) (h : i < 2 ^ n) (h1 : 0 ≤ j) (h2 : j < 2 ^ n) (hm : n + n ≤ 1000000) : CMulW i j := wide_mul (a := n) (b := n) (abs_lt h0 h) (abs_lt h1 h2) hn hn hm
theorem div_w {i j : Int} {n : Nat} (hn : 0 < n) (h0 : 0 < j) (h : j < 2 ^ n) (hm : n ≤ 9000) : CDivW i j := wide_div h0 (b := n) (abs_lt (by omega) h) hn hm
end Vg


set_option Elab.async false
set_option linter.all false
set_option maxRecDepth 100000
set_option maxHeartbeats 2000000
namespace Vg
open PySem PySem.Spec PyProof.Rows L2

/-! ### data of any kind, dicts within -/
def keyD : Key → PyData
  | .inl i => .int i
  | .inr x => .str x
mutual
inductive Dq (K : PySem.W.Frag) (H : Hp) : V → PyData → Prop
  | non : Dq K H .non .none
  | bl (b : Bool) : Dq K H (.bl b) (.bool b)
  | int (i : Int) : Dq K H (.int i) (.int i)
  | str (x : Str) : Dq K H (.str x) (.str x)
  | lst {a : Addr} {xs : List V} {ds : List PyData} : SqL K H a xs → DqAll K H xs ds → Dq K H (.ref a) (.list ds)
  | tup {a : Addr} {xs : List V} {ds : List PyData} : SqT K H a xs → DqAll K H xs ds → Dq K H (.ref a) (.tuple ds)
  | dct {a : Addr} {kvs : List (Key × V)} {ps : List (PyData × PyData)} : H a = some (.dK kvs) → ps.map (·.1) = kvs.map (fun kv => keyD kv.1) → DqAll K H (kvs.map (·.2)) (ps.map (·.2)) → Dq K H (.ref a) (.dict ps)
inductive DqAll (K : PySem.W.Frag) (H : Hp) : List V → List PyData → Prop
  | nil : DqAll K H [] []
  | cons {v : V} {vs : List V} {d : PyData} {ds : List PyData} : Dq K H v d → DqAll K H vs ds → DqAll K H (v :: vs) (d :: ds)
end
/-- sys.modules stands -/
def SM (bs : Heap) : Prop := ∃ mm, bs.Ns sysModules mm
section
variable {X : Cx} {pins : List (Addr × Obj)} {σ : L2.St} {H : Hp} {s : Shared}
theorem SM.ne (m : SM X.base) (I : L2.Inv X pins σ H s) {a : Addr} {o : Obj} {its : Array Value} {n : Nat} (h : s.heap.get? a = some o) (hd : o.data = .seq its n) : sysModules ≠ a := by
  intro e
  obtain ⟨mm, ob, es, ep, h1, h2, _⟩ := m
  have h3 := I.bk _ _ h1
  rw [e, h] at h3
  cases h3
  rw [hd] at h2
  cases h2
theorem keys_reads {P : Program} {w : World} {h : Heap} : ∀ {es : List DictEntry} {vs : List (Key × Value)}, Pairs (mixKind P w) es vs → ReadsAll h (es.map (·.key)) (vs.map fun kv => keyD kv.1) []
  | _, _, .nil => .nil
  | _, _, .cons (e := e) (kv := kv) h1 h2 r => by
    have ih := keys_reads (h := h) r
    rcases keyIs_shape (show keyIs kv.1 e.key = true from h1) with ⟨i, t, e1, e2⟩ | ⟨x, t, e1, e2⟩
    · rw [List.map_cons, List.map_cons, e2, e1]
      exact ReadsAll.cons (Reads.int i t) ih
    · rw [List.map_cons, List.map_cons, e2, e1]
      exact ReadsAll.cons (Reads.str x t) ih
theorem vals_of_pairs {P : Program} {w : World} : ∀ {es : List DictEntry} {vs : List (Key × Value)} {kvs : List (Key × V)}, Pairs (mixKind P w) es vs → KV kvs vs → Vals (kvs.map (·.2)) (es.map (·.val)) ∧ kvs.map (fun kv => keyD kv.1) = vs.map (fun kv => keyD kv.1)
  | _, _, _, .nil, .nil => ⟨.nil, rfl⟩
  | _, _, _, .cons h1 h2 r, .cons p q => by
    obtain ⟨i1, i2⟩ := vals_of_pairs r q
    refine ⟨.cons (by show L2.RelV _ (DictEntry.val _); rw [h2]; exact p.2) i1, ?_⟩
    rw [List.map_cons, List.map_cons, i2, p.1]
theorem size_snd : ∀ ps : List (PyData × PyData), sizeOf (ps.map (·.2)) ≤ sizeOf ps
  | [] => Nat.le_refl _
  | (k, v) :: r => by
    have := size_snd r
    simp only [List.map_cons, List.cons.sizeOf_spec, Prod.mk.sizeOf_spec]
    omega
mutual
theorem Dq.reads (m : SM X.base) (I : L2.Inv X pins σ H s) : ∀ (d : PyData) (v : V) (u : Value), Dq X.K H v d → RelV v u → ∃ as, Reads s.heap u d as ∧ sysModules ∉ as
  | .none, _, _, h, r => by
    cases h
    cases r
    exact ⟨_, Reads.none, List.not_mem_nil⟩
  | .bool b, _, _, h, r => by
    cases h
    cases r
    exact ⟨_, Reads.bool b, List.not_mem_nil⟩
  | .int i, _, _, h, r => by
    cases h
    obtain ⟨t, rfl⟩ := r
    exact ⟨_, Reads.int i t, List.not_mem_nil⟩
  | .str x, _, _, h, r => by
    cases h
    obtain ⟨t, rfl⟩ := r
    exact ⟨_, Reads.str x t, List.not_mem_nil⟩
  | .list ds, _, _, h, r => by
    cases h with
    | lst hs ha =>
      cases r
      obtain ⟨its, rv, ⟨o, n, ho, hc, _, hd⟩, _⟩ := I.list hs
      obtain ⟨as, hr, hn⟩ := DqAll.reads m I ds _ its ha rv
      exact ⟨_, Reads.list ho hc hd hr, fun z => (List.mem_cons.mp z).elim (m.ne I ho hd) hn⟩
  | .tuple ds, _, _, h, r => by
    cases h with
    | tup hs ha =>
      cases r
      obtain ⟨its, rv, ⟨o, ho, hc, n, hd⟩, _⟩ := I.tuple hs
      obtain ⟨as, hr, hn⟩ := DqAll.reads m I ds _ its ha rv
      exact ⟨_, Reads.tuple ho hc hd hr, hn⟩
  | .dict ps, _, _, h, r => by
    cases h with
    | dct hd hk ha =>
      cases r
      obtain ⟨_, lo, vs, kv, o, es, ep, ho, ex, hdat, _, pr, _⟩ := I.hok _ _ hd
      obtain ⟨v1, v2⟩ := vals_of_pairs pr kv
      obtain ⟨as, hr, hn⟩ := DqAll.reads m I (ps.map (·.2)) _ _ ha v1
      have hkeys := keys_reads (h := s.heap) pr
      rw [← v2, ← hk] at hkeys
      refine ⟨_, Reads.dict ho ex.1 hdat hkeys hr, fun z => ?_⟩
      rcases List.mem_cons.mp z with z | z
      · exact (beq_eq_false_iff_ne.mp lo) z.symm
      · exact hn z
termination_by d => sizeOf d
decreasing_by
  all_goals first
  | (simp only [PyData.dict.sizeOf_spec]; have := size_snd ps; omega)
  | (simp only [PyData.list.sizeOf_spec]; omega)
  | (simp only [PyData.tuple.sizeOf_spec]; omega)
theorem DqAll.reads (m : SM X.base) (I : L2.Inv X pins σ H s) : ∀ (ds : List PyData) (vs : List V) (us : List Value), DqAll X.K H vs ds → Vals vs us → ∃ as, ReadsAll s.heap us ds as ∧ sysModules ∉ as
  | [], _, _, h, r => by
    cases h
    cases r
    exact ⟨_, ReadsAll.nil, List.not_mem_nil⟩
  | d :: ds, _, _, h, r => by
    cases h with
    | cons h1 h2 =>
      cases r with
      | cons r1 r2 =>
        obtain ⟨as, q1, n1⟩ := Dq.reads m I d _ _ h1 r1
        obtain ⟨bs, q2, n2⟩ := DqAll.reads m I ds _ _ h2 r2
        exact ⟨_, ReadsAll.cons q1 q2, fun z => (List.mem_append.mp z).elim n1 n2⟩
termination_by ds => sizeOf ds
decreasing_by all_goals (simp only [List.cons.sizeOf_spec]; omega)
end
end
mutual
theorem Dq.of {K : PySem.W.Frag} {H : Hp} : ∀ {v : V} {d : PyData}, Dp K H v d → Dq K H v d
  | _, _, .non => .non
  | _, _, .bl b => .bl b
  | _, _, .int i => .int i
  | _, _, .str x => .str x
  | _, _, .lst h a => .lst h (DqAll.of a)
  | _, _, .tup h a => .tup h (DqAll.of a)
theorem DqAll.of {K : PySem.W.Frag} {H : Hp} : ∀ {v : List V} {d : List PyData}, DpAll K H v d → DqAll K H v d
  | _, _, .nil => .nil
  | _, _, .cons h r => .cons (Dq.of h) (DqAll.of r)
end
mutual
theorem Dq.mono {K : PySem.W.Frag} {H H' : Hp} (s : Same H H') : ∀ {v : V} {d : PyData}, Dq K H v d → Dq K H' v d
  | _, _, .non => .non
  | _, _, .bl b => .bl b
  | _, _, .int i => .int i
  | _, _, .str x => .str x
  | _, _, .lst h a => .lst (s.seq h) (DqAll.mono s a)
  | _, _, .tup (a := p) (xs := xs) h a => .tup (by
      rcases h with (h | ⟨o, h⟩) | h
      · exact Or.inl (Or.inl (s _ _ h))
      · exact Or.inl (Or.inr ⟨o, s _ _ h⟩)
      · exact Or.inr h) (DqAll.mono s a)
  | _, _, .dct h k a => .dct (s _ _ h) k (DqAll.mono s a)
theorem DqAll.mono {K : PySem.W.Frag} {H H' : Hp} (s : Same H H') : ∀ {v : List V} {d : List PyData}, DqAll K H v d → DqAll K H' v d
  | _, _, .nil => .nil
  | _, _, .cons h r => .cons (Dq.mono s h) (DqAll.mono s r)
end
/-- as Shw, dicts within -/
structure Shq (n k : Nat) (d : PyData) : Prop where
  sh : d.showable = true
  dp : d.depth ≤ k
  sz : d.shown.length ≤ n
theorem Shw.q {n k : Nat} {d : PyData} (h : Shw n k d) : Shq n k d := ⟨h.sh, h.dp, h.sz⟩
theorem Shq.up {n k m j : Nat} {d : PyData} (h : Shq n k d) (h1 : n ≤ m) (h2 : k ≤ j) : Shq m j d := ⟨h.sh, Nat.le_trans h.dp h2, Nat.le_trans h.sz h1⟩
theorem Shq.lst {n k : Nat} {ds : List PyData} (h : ∀ d ∈ ds, Shq n k d) : Shq (ds.length * (n + 2) + 2) (k + 1) (.list ds) := by
  refine ⟨?_, ?_, ?_⟩
  · rw [PyData.showable]
    exact showableAll_all ds fun d hd => (h d hd).sh
  · simp only [PyData.depth]
    have := depthAll_le ds fun d hd => (h d hd).dp
    omega
  · rw [PyData.shown, shownAll_map]
    refine Nat.le_trans (listText_le _) ?_
    have := lt_one (n := n) (ds.map PyData.shown) (by
      intro t ht
      obtain ⟨d, hd, rfl⟩ := List.mem_map.mp ht
      exact (h d hd).sz)
    rw [List.length_map] at this
    omega
theorem Shq.tup {n k : Nat} {ds : List PyData} (h : ∀ d ∈ ds, Shq n k d) : Shq (ds.length * (n + 2) + 2) (k + 1) (.tuple ds) := by
  refine ⟨?_, ?_, ?_⟩
  · rw [PyData.showable]
    exact showableAll_all ds fun d hd => (h d hd).sh
  · simp only [PyData.depth]
    have := depthAll_le ds fun d hd => (h d hd).dp
    omega
  · rw [PyData.shown, shownAll_map]
    refine Nat.le_trans (fmt_text _) ?_
    have := lt_one (n := n) (ds.map PyData.shown) (by
      intro t ht
      obtain ⟨d, hd, rfl⟩ := List.mem_map.mp ht
      exact (h d hd).sz)
    rw [List.length_map] at this
    omega
/-! ### repr of these -/
def RepQ (K : PySem.W.Frag) (x : V) (H : Hp) (G : Str → Prop) : Prop := ∃ d, Dq K H x d ∧ Shq 16000000 60 d ∧ G d.shown
def rReprQ (K : PySem.W.Frag) : List V → Hp → VK → Prop := fun xs H Q => ∃ x, xs = [x] ∧ RepQ K x H fun t => Q (.str t) H
theorem x_reprQ {K : PySem.W.Frag} {x : V} {H : Hp} {Q : VK} : rReprQ K [x] H Q ↔ RepQ K x H fun t => Q (.str t) H := ⟨fun ⟨_, e, q⟩ => by cases e; exact q, fun q => ⟨x, rfl, q⟩⟩
theorem call_reprQ {X : Cx} {n : Nat} (g : X.A.guards = some []) (r : Room n X.A) (m : SM X.base) : CallR X (.builtin "repr") (rReprQ X.K) := by
  intro pins s σ H xs us Q I rv h
  obtain ⟨x, rfl, d, hd, sw, q⟩ := h
  obtain ⟨u, rfl, ru⟩ := vals1 rv
  have hz : d.shown.length ≤ sizeLine := Nat.le_trans sw.sz (by decide)
  have hu := r.units
  obtain ⟨as, rd, hno⟩ := Dq.reads m I _ _ _ hd ru
  have rest : ∀ a, u = Value.ref a → wpAny (model X.prog X.w) X.A (call (.builtin "repr") [u]) (EP X pins σ Q) X.xe s := by
    rintro a rfl
    refine repr_of_reads' rd sw.sh (fun _ => hno) g (by have := sw.dp; omega) (fun _ _ z => z) (fun h' u tk hk => ?_) hz
    exact ⟨.str _, H, I.call' (s' := { s with heap := h', toks := tk }) (ch := []) rfl (Un.kept hk) (I.hok.kept hk) I.bare (fun b z => (List.not_mem_nil z).elim), ⟨u, rfl⟩, q⟩
  cases hd with
  | non =>
    cases ru
    rw [PyData.shown] at q
    exact PySem.P.repr_of_none ⟨.str _, H, I.tok _, ⟨_, rfl⟩, q⟩
  | bl b =>
    cases ru
    rw [PyData.shown] at q
    exact PySem.P.repr_of_bool ⟨.str _, H, I.tok _, ⟨_, rfl⟩, q⟩
  | int i =>
    obtain ⟨t, rfl⟩ := ru
    have hs := sw.sh
    rw [PyData.showable] at hs
    rw [PyData.shown] at q
    exact PySem.P.repr_of_int (of_decide_eq_true hs) ⟨.str _, H, I.tok _, ⟨_, rfl⟩, q⟩
  | str y =>
    obtain ⟨t, rfl⟩ := ru
    rw [PyData.shown] at hz q
    exact PySem.P.repr_of_str ⟨.str _, H, I.tok _, ⟨_, rfl⟩, q⟩ hz
  | lst hs ha => exact rest _ ru
  | tup hs ha => exact rest _ ru
  | dct hs hk ha => exact rest _ ru
/-! ### == of two lists of other lengths; list.count of flat things -/
def LenNe (K : PySem.W.Frag) (a b : Addr) (H : Hp) : Prop := ∃ xs ys : List V, SqL K H a xs ∧ SqL K H b ys ∧ xs.length ≠ ys.length
def rEqL (K : PySem.W.Frag) : R2 := fun x y H Q => rEqD K x y H Q ∨ ∃ a b, x = .ref a ∧ y = .ref b ∧ LenNe K a b H ∧ Q (.bl false) H
theorem op_eqL {X : Cx} (hu : X.A.units + 64 < cLine) : OpR X (compareOp .Eq) (rEqL X.K) := by
  intro pins s σ H x y v u Q I rx ry h
  rcases h with h | ⟨a, b, rfl, rfl, ⟨xs, ys, h1, h2, ne⟩, q⟩
  · exact op_eqD hu pins s σ H x y v u Q I rx ry h
  · cases rx
    cases ry
    obtain ⟨i1, r1, p1, _⟩ := I.list h1
    obtain ⟨i2, r2, p2, _⟩ := I.list h2
    refine SeqAt.eq_list_lengthsAt p1.isList p2.isList ?_ (by omega) ⟨.bl _, H, I, rfl, q⟩
    rw [bne_iff_ne, List.size_toArray, List.size_toArray, ← r1.length, ← r2.length]
    exact ne
def rCnt (K : PySem.W.Frag) : V → List V → Hp → VK → Prop := fun x vs H Q => ∃ (p : Addr) (xs : List V) (y : V), x = .ref p ∧ vs = [y] ∧ SqL K H p xs ∧ flatV y = true ∧ xs.all flatV = true ∧ Q (.int (xs.countP fun z => eqV z y : Nat)) H
theorem countP_eqU {y : V} : ∀ {xs : List V} {us : List Value}, Vals xs us → xs.all flatV = true → us.countP (eqU y) = xs.countP fun z => eqV z y
  | _, _, .nil, _ => rfl
  | _, _, .cons r rr, h => by
    rw [List.all_cons, Bool.and_eq_true] at h
    rw [List.countP_cons, List.countP_cons, countP_eqU rr h.2, eqU_of r h.1]
theorem mt_count {X : Cx} : MtR X "list.count" (rCnt X.K) := by
  intro pins s σ H x xs v us Q I rx rxs h
  obtain ⟨p, zs, y, rfl, rfl, hs, fy, fz, q⟩ := h
  cases rx
  obtain ⟨u, rfl, ru⟩ := rxs.one
  obtain ⟨its, rv, ⟨⟨cls, dd, data, sl⟩, n, ho, hc, hdn, hd⟩, hlen⟩ := I.list hs
  simp only at hc hd
  subst hc hd
  refine call_meets PySem.F.slot_list_count ⟨_, ho, rfl⟩ PySem.F.entry_list_count (PySem.F.args_list_count_2 _ _)
    (SeqAt.list_countAt p its.toArray n dd sl u (eqU y)) ⟨ho, fun z hz => mem_eqAt ru fy rv fz z (by simpa using hz), ?_⟩
  refine ⟨.int (zs.countP fun z => eqV z y : Nat), H, I.tok _, ⟨s.toks, ?_⟩, q⟩
  show Value.int ((its.toArray.toList.countP (eqU y) : Nat) : Int) s.toks = _
  rw [show its.toArray.toList = its from rfl, countP_eqU rv fz]
/-! ### forms -/
theorem pe_low {X : Cx} {e : Expr} {t t' : TE} (h : PE X e t) (i : ∀ σ H Q, t' σ H Q → t σ H Q) : PE X e t' := ⟨fun pins s σ H Q I q => h.run pins s σ H Q I (i _ _ _ q)⟩
def CntK (K : PySem.W.Frag) (y : V) (p : Addr) (H : Hp) (G : Int → Prop) : Prop := ∃ xs, SqL K H p xs ∧ flatV y = true ∧ xs.all flatV = true ∧ G (xs.countP fun z => eqV z y : Nat)
def RvLK (K : PySem.W.Frag) (a : Addr) (H : Hp) (G : Addr → Hp → Prop) : Prop := ∃ xs, SqL K H a xs ∧ NewK (.lst xs.reverse) H G
def TupK (K : PySem.W.Frag) (a : Addr) (H : Hp) (G : Addr → Hp → Prop) : Prop := ∃ xs, SqL K H a xs ∧ NewK (.tup xs) H G
def rTupL (K : PySem.W.Frag) : List V → Hp → VK → Prop := fun xs H Q => ∃ p, xs = [.ref p] ∧ TupK K p H fun r H1 => Q (.ref r) H1
theorem cr_tupL {X : Cx} : CallR X (.type "tuple") (rTupL X.K) := CallR.as call_tuple_of fun _ _ _ ⟨p, e, ys, h, q⟩ => ⟨p, ys, e, Or.inl ⟨h, q⟩⟩
def tD1 (s : Str) (v : V) : TE := fun _ H Q => NewK (.dK [(.inr s, v)]) H fun p H1 => Q (.ref p) H1
section
variable {K : PySem.W.Frag} {H : Hp} {Q : VK} {σ : L2.St} {te : TE}
theorem x_cnt {p : Addr} {y : V} : rCnt K (.ref p) [y] H Q ↔ CntK K y p H fun n => Q (.int n) H := ⟨fun ⟨_, xs, _, e, e2, h, f1, f2, q⟩ => by cases e; cases e2; exact ⟨xs, h, f1, f2, q⟩, fun ⟨xs, h, f1, f2, q⟩ => ⟨p, xs, y, rfl, rfl, h, f1, f2, q⟩⟩
theorem e_revL : tRevL K te σ H Q ↔ te σ H fun x H1 => ∃ a, x = .ref a ∧ RvLK K a H1 fun p H2 => Q (.ref p) H2 := Iff.of_eq (congrArg (te σ H) (funext fun x => funext fun H1 => propext ⟨fun ⟨a, xs, e, h, q⟩ => ⟨a, e, xs, h, q⟩, fun ⟨a, e, xs, h, q⟩ => ⟨a, xs, e, h, q⟩⟩))
theorem x_tupL {p : Addr} : rTupL K [.ref p] H Q ↔ TupK K p H fun r H1 => Q (.ref r) H1 := ⟨fun ⟨_, e, q⟩ => by cases e; exact q, fun q => ⟨p, rfl, q⟩⟩
theorem e_dn : tDNewK σ H Q = NewK (.dK []) H fun p H2 => Q (.ref p) H2 := propext ⟨fun h => h, fun h => h⟩
theorem e_d1 {s : Str} {v : V} : tD1 s v σ H Q = NewK (.dK [(.inr s, v)]) H fun p H1 => Q (.ref p) H1 := propext ⟨fun h => h, fun h => h⟩
end
theorem upd_upd {H : Hp} {p : Addr} {o o' : HO} : upd (upd H p o) p o' = upd H p o' := by
  funext a
  by_cases c : a = p
  · rw [c, upd_same, upd_same]
  · rw [upd_ne c, upd_ne c, upd_ne c]
theorem pe_d1 {X : Cx} {pos : Pos} {k e : Expr} {s : Str} {v : V} (hk : PE X k (tC (.str s))) (he : PE X e (tC v)) : PE X (.Dict [some k] [e] pos) (tD1 s v) := by
  refine pe_low (pe_disp (pps_cons hk he pps_nil) rfl rfl (List.cons_ne_nil _ _) (by show 1 ≤ 15; decide)) fun σ H Q q p hp => ?_
  refine ⟨upd_same, [(.inr s, v)], rfl, (by show 1 ≤ 15; decide), ?_⟩
  have := q p hp
  rw [show mergeK [] [(Sum.inr s, v)] = [(Sum.inr s, v)] from rfl, upd_upd]
  exact this
section
variable {K : PySem.W.Frag} {H : Hp} {Q : VK}
theorem x_isI_list {x : Int} : rIs K [.int x, .ty "list"] H Q ↔ Q (.bl false) H := x_is (.base (.int x)) (fun _ => ty_int) (by decide +kernel)
theorem x_isI_str {x : Int} : rIs K [.int x, .ty "str"] H Q ↔ Q (.bl false) H := x_is (.base (.int x)) (fun _ => ty_int) (by decide +kernel)
theorem x_isI_dict {x : Int} : rIs K [.int x, .ty "dict"] H Q ↔ Q (.bl false) H := x_is (.base (.int x)) (fun _ => ty_int) (by decide +kernel)
theorem x_isI_tuple {x : Int} : rIs K [.int x, .ty "tuple"] H Q ↔ Q (.bl false) H := x_is (.base (.int x)) (fun _ => ty_int) (by decide +kernel)
theorem x_isB_list {x : Bool} : rIs K [.bl x, .ty "list"] H Q ↔ Q (.bl false) H := x_is (.base (.bl x)) (fun _ => ty_bl) (by decide +kernel)
theorem x_isB_str {x : Bool} : rIs K [.bl x, .ty "str"] H Q ↔ Q (.bl false) H := x_is (.base (.bl x)) (fun _ => ty_bl) (by decide +kernel)
theorem x_isB_dict {x : Bool} : rIs K [.bl x, .ty "dict"] H Q ↔ Q (.bl false) H := x_is (.base (.bl x)) (fun _ => ty_bl) (by decide +kernel)
theorem x_isB_tuple {x : Bool} : rIs K [.bl x, .ty "tuple"] H Q ↔ Q (.bl false) H := x_is (.base (.bl x)) (fun _ => ty_bl) (by decide +kernel)
theorem x_isN_list : rIs K [.non, .ty "list"] H Q ↔ Q (.bl false) H := x_is (.base .non) (fun _ => ty_non) (by decide +kernel)
theorem x_isN_str : rIs K [.non, .ty "str"] H Q ↔ Q (.bl false) H := x_is (.base .non) (fun _ => ty_non) (by decide +kernel)
theorem x_isN_dict : rIs K [.non, .ty "dict"] H Q ↔ Q (.bl false) H := x_is (.base .non) (fun _ => ty_non) (by decide +kernel)
theorem x_isN_tuple : rIs K [.non, .ty "tuple"] H Q ↔ Q (.bl false) H := x_is (.base .non) (fun _ => ty_non) (by decide +kernel)
theorem x_isS_list {x : Str} : rIs K [.str x, .ty "list"] H Q ↔ Q (.bl false) H := x_is (.base (.str x)) (fun _ => ty_str) (by decide +kernel)
theorem x_isS_dict {x : Str} : rIs K [.str x, .ty "dict"] H Q ↔ Q (.bl false) H := x_is (.base (.str x)) (fun _ => ty_str) (by decide +kernel)
theorem x_isS_tuple {x : Str} : rIs K [.str x, .ty "tuple"] H Q ↔ Q (.bl false) H := x_is (.base (.str x)) (fun _ => ty_str) (by decide +kernel)
theorem IsK.lstL {a : Addr} {n : String} {xs : List V} {b : Bool} {G : Bool → Prop} (h : SqL K H a xs) (k : kitB "list" n = some b) (q : G b) : IsK K a n H G := by
  rcases h with (h | ⟨o, h⟩) | ⟨o, its, m, h, hc, _⟩
  · exact ⟨_, b, .base (.lst h), k, q⟩
  · exact ⟨_, b, .base (.frz h), k, q⟩
  · exact ⟨_, b, .kList h hc, k, q⟩
theorem IsK.dK {a : Addr} {n : String} {kvs : List (Key × V)} {b : Bool} {G : Bool → Prop} (h : H a = some (.dK kvs)) (k : kitB "dict" n = some b) (q : G b) : IsK K a n H G := ⟨_, b, .base (.dK h), k, q⟩
theorem EqL0 {a b : Addr} {xs : List V} (h : SqL K H a xs) (h2 : SqL K H b []) (q : Q (.bl xs.isEmpty) H) : rEqL K (.ref a) (.ref b) H Q := by
  cases xs with
  | nil => exact Or.inl (EqD.nil (k := 1) h .nil (fun _ z => (List.not_mem_nil z).elim) (by decide) h2 q)
  | cons x r => exact Or.inr ⟨a, b, rfl, rfl, ⟨_, _, h, h2, by simp⟩, q⟩
end
/-! ### how long a list's text is -/
def Wt (ds : List PyData) : Nat := piled (ds.map PyData.shown)
theorem piled_app (a b : List Str) : piled (a ++ b) = piled a + piled b := by
  induction a with
  | nil => simp [piled]
  | cons x r ih => unfold piled at *; simp only [List.cons_append, List.map_cons, List.sum_cons] at *; omega
theorem Wt.nil : Wt [] = 0 := rfl
theorem Wt.cons (d : PyData) (ds : List PyData) : Wt (d :: ds) = d.shown.length + 2 + Wt ds := by unfold Wt piled; simp only [List.map_cons, List.sum_cons]
theorem Wt.app (a b : List PyData) : Wt (a ++ b) = Wt a + Wt b := by unfold Wt; rw [List.map_append, piled_app]
theorem Wt.take (ds : List PyData) (n : Nat) : Wt (ds.take n) ≤ Wt ds := by
  have := Wt.app (ds.take n) (ds.drop n)
  rw [List.take_append_drop] at this
  omega
theorem Wt.drop (ds : List PyData) (n : Nat) : Wt (ds.drop n) ≤ Wt ds := by
  have := Wt.app (ds.take n) (ds.drop n)
  rw [List.take_append_drop] at this
  omega
theorem Wt.rev (ds : List PyData) : Wt ds.reverse = Wt ds := by
  induction ds with
  | nil => rfl
  | cons d r ih => rw [List.reverse_cons, Wt.app, ih, Wt.cons, Wt.cons, Wt.nil]; omega
structure Shd (k : Nat) (d : PyData) : Prop where
  sh : d.showable = true
  dp : d.depth ≤ k
theorem Shd.lst {k : Nat} {ds : List PyData} (h : ∀ d ∈ ds, Shd k d) : Shq (Wt ds + 2) (k + 1) (.list ds) := by
  refine ⟨?_, ?_, ?_⟩
  · rw [PyData.showable]
    exact showableAll_all ds fun d hd => (h d hd).sh
  · simp only [PyData.depth]
    have := depthAll_le ds fun d hd => (h d hd).dp
    omega
  · rw [PyData.shown, shownAll_map]
    exact listText_le _
theorem Shd.tup {k : Nat} {ds : List PyData} (h : ∀ d ∈ ds, Shd k d) : Shq (Wt ds + 2) (k + 1) (.tuple ds) := by
  refine ⟨?_, ?_, ?_⟩
  · rw [PyData.showable]
    exact showableAll_all ds fun d hd => (h d hd).sh
  · simp only [PyData.depth]
    have := depthAll_le ds fun d hd => (h d hd).dp
    omega
  · rw [PyData.shown, shownAll_map]
    exact fmt_text _
theorem Shq.d {n k : Nat} {d : PyData} (h : Shq n k d) : Shd k d := ⟨h.sh, h.dp⟩
theorem Shd.up {k j : Nat} {d : PyData} (h : Shd k d) (h2 : k ≤ j) : Shd j d := ⟨h.sh, Nat.le_trans h.dp h2⟩
section
variable {K : PySem.W.Frag} {H : Hp}
theorem DqAll.app : ∀ {xs ys : List V} {ds es : List PyData}, DqAll K H xs ds → DqAll K H ys es → DqAll K H (xs ++ ys) (ds ++ es)
  | _, _, _, _, .nil, h => h
  | _, _, _, _, .cons h r, h2 => .cons h (DqAll.app r h2)
theorem DqAll.take : ∀ {xs : List V} {ds : List PyData} (n : Nat), DqAll K H xs ds → DqAll K H (xs.take n) (ds.take n)
  | _, _, 0, _ => .nil
  | _, _, n + 1, .nil => .nil
  | _, _, n + 1, .cons h r => .cons h (DqAll.take n r)
theorem DqAll.drop : ∀ {xs : List V} {ds : List PyData} (n : Nat), DqAll K H xs ds → DqAll K H (xs.drop n) (ds.drop n)
  | _, _, 0, h => h
  | _, _, n + 1, .nil => .nil
  | _, _, n + 1, .cons h r => DqAll.drop n r
theorem DqAll.rev : ∀ {xs : List V} {ds : List PyData}, DqAll K H xs ds → DqAll K H xs.reverse ds.reverse
  | _, _, .nil => .nil
  | _, _, .cons h r => by
    rw [List.reverse_cons, List.reverse_cons]
    exact (DqAll.rev r).app (.cons h .nil)
theorem DqAll.len : ∀ {xs : List V} {ds : List PyData}, DqAll K H xs ds → xs.length = ds.length
  | _, _, .nil => rfl
  | _, _, .cons h r => by rw [List.length_cons, List.length_cons, DqAll.len r]
theorem DqAll.at : ∀ {xs : List V} {ds : List PyData} {i : Nat} {x : V}, DqAll K H xs ds → xs[i]? = some x → ∃ d, ds[i]? = some d ∧ Dq K H x d
  | _, _, 0, _, .cons h r, e => by cases e; exact ⟨_, rfl, h⟩
  | _, _, i + 1, _, .cons h r, e => DqAll.at (i := i) r e
end
/-- all that is owned goes to the base -/
theorem Led.sinkAll {H : Hp} : ∀ {l : List (Addr × HO)} {B : Hp}, Led B H l → ∃ B', Same B B' ∧ (∀ e ∈ l, B' e.1 = some e.2) ∧ Led B' H []
  | [], B, L => ⟨B, Same.refl B, fun e he => (List.not_mem_nil he).elim, L⟩
  | (p, o) :: l, B, L => by
    obtain ⟨B1, s1, h1, L1⟩ := L.sink
    obtain ⟨B2, s2, h2, L2⟩ := Led.sinkAll L1
    refine ⟨B2, s1.trans s2, fun e he => ?_, L2⟩
    rcases List.mem_cons.mp he with z | z
    · rw [z]; exact s2 _ _ h1
    · exact h2 e z
/-! ### lists whose text is short -/
def DW (K : PySem.W.Frag) (H : Hp) (m W k : Nat) (xs : List V) : Prop := ∃ ds, DqAll K H xs ds ∧ Wt ds ≤ W ∧ (∀ d ∈ ds, Shd k d) ∧ xs.length ≤ m
section
variable {K : PySem.W.Frag} {H H' : Hp} {m W k m2 W2 k2 : Nat} {xs ys : List V}
theorem DW.mono (s : Same H H') (h : DW K H m W k xs) : DW K H' m W k xs := by
  obtain ⟨ds, h1, h2⟩ := h
  exact ⟨ds, h1.mono s, h2⟩
theorem DW.up (h : DW K H m W k xs) (h1 : m ≤ m2) (h2 : W ≤ W2) (h3 : k ≤ k2) : DW K H m2 W2 k2 xs := by
  obtain ⟨ds, q1, q2, q3, q4⟩ := h
  exact ⟨ds, q1, by omega, fun d hd => (q3 d hd).up h3, by omega⟩
theorem DW.nil : DW K H 0 0 k [] := ⟨[], .nil, Nat.le_refl _, fun d hd => (List.not_mem_nil hd).elim, Nat.le_refl _⟩
theorem DW.one {v : V} {d : PyData} {n : Nat} (h : Dq K H v d) (w : Shq n k d) : DW K H 1 (n + 2) k [v] :=
  ⟨[d], .cons h .nil, by rw [Wt.cons, Wt.nil]; have := w.sz; omega, fun e he => by rw [List.mem_singleton.mp he]; exact w.d, Nat.le_refl _⟩
theorem DW.app (h : DW K H m W k xs) (h2 : DW K H m2 W2 k ys) : DW K H (m + m2) (W + W2) k (xs ++ ys) := by
  obtain ⟨ds, q1, q2, q3, q4⟩ := h
  obtain ⟨es, r1, r2, r3, r4⟩ := h2
  exact ⟨ds ++ es, q1.app r1, by rw [Wt.app]; omega, fun d hd => (List.mem_append.mp hd).elim (q3 d) (r3 d), by rw [List.length_append]; omega⟩
theorem DW.rev (h : DW K H m W k xs) : DW K H m W k xs.reverse := by
  obtain ⟨ds, q1, q2, q3, q4⟩ := h
  exact ⟨ds.reverse, q1.rev, by rw [Wt.rev]; exact q2, fun d hd => q3 d (List.mem_reverse.mp hd), by rw [List.length_reverse]; exact q4⟩
theorem DW.cut {lo hi : Option Int} (h : DW K H m W k xs) : DW K H m W k (cutV xs lo hi) := by
  obtain ⟨ds, q1, q2, q3, q4⟩ := h
  unfold cutV
  refine ⟨_, (q1.drop _).take _, Nat.le_trans (Wt.take _ _) (Nat.le_trans (Wt.drop _ _) q2), fun d hd => q3 d (List.mem_of_mem_drop (List.mem_of_mem_take hd)), ?_⟩
  rw [List.length_take, List.length_drop]
  omega
theorem DW.at {i : Nat} {x : V} (h : DW K H m W k xs) (e : xs[i]? = some x) : ∃ d, Dq K H x d ∧ Shq W k d := by
  obtain ⟨ds, q1, q2, q3, q4⟩ := h
  obtain ⟨d, hd, r⟩ := q1.at e
  have hm := List.mem_of_getElem? hd
  refine ⟨d, r, (q3 d hm).sh, (q3 d hm).dp, ?_⟩
  have : ∀ es : List PyData, d ∈ es → d.shown.length ≤ Wt es := by
    intro es he
    induction es with
    | nil => cases he
    | cons e r ih =>
      rw [Wt.cons]
      rcases List.mem_cons.mp he with z | z
      · rw [z]; omega
      · have := ih z; omega
  exact Nat.le_trans (this ds hm) q2
theorem DW.lst {p : Addr} (h : DW K H m W k xs) (hp : SqL K H p xs) : ∃ d, Dq K H (.ref p) d ∧ Shq (W + 2) (k + 1) d := by
  obtain ⟨ds, q1, q2, q3, q4⟩ := h
  exact ⟨_, .lst hp q1, (Shd.lst q3).up (by omega) (Nat.le_refl _)⟩
theorem DW.tup {p : Addr} (h : DW K H m W k xs) (hp : SqT K H p xs) : ∃ d, Dq K H (.ref p) d ∧ Shq (W + 2) (k + 1) d := by
  obtain ⟨ds, q1, q2, q3, q4⟩ := h
  exact ⟨_, .tup hp q1, (Shd.tup q3).up (by omega) (Nat.le_refl _)⟩
def isS : V → Bool
  | .str _ => true
  | _ => false
theorem Dq.isStr {v : V} {d : PyData} {Q : VK} (h : Dq K H v d) (q : Q (.bl (isS v)) H) : rIs K [v, .ty "str"] H Q := by
  cases h with
  | non => exact x_isN_str.mpr q
  | bl b => exact x_isB_str.mpr q
  | int i => exact x_isI_str.mpr q
  | str s => exact x_is_ib.mpr q
  | lst h _ => exact x_isR.mpr (IsK.lstL h (show kitB _ "str" = some false by decide +kernel) q)
  | tup h _ =>
    rcases h with (h | ⟨o, h⟩) | ⟨o, its, n, h, hc, _⟩
    · exact x_isR.mpr ⟨_, _, .base (.tup h), (show kitB _ "str" = some false by decide +kernel), q⟩
    · exact x_isR.mpr ⟨_, _, .fTuple h, (show kitB _ "str" = some false by decide +kernel), q⟩
    · exact x_isR.mpr ⟨_, _, .kTuple h hc, (show kitB _ "str" = some false by decide +kernel), q⟩
  | dct h _ _ => exact x_isR.mpr (IsK.dK h (show kitB _ "str" = some false by decide +kernel) q)
end
/-! ### dict(pairs), str(n), int(flag) -/
def DctK (K : PySem.W.Frag) (a : Addr) (H : Hp) (G : Addr → Hp → Prop) : Prop := ∃ ps kvs, SqL K H a (List.map V.ref ps) ∧ Paired (fun p (kv : Key × V) => SqT K H p [kV kv.1, kv.2]) ps kvs ∧ NewK (.dK (mergeK [] kvs)) H G
def rDctP (K : PySem.W.Frag) : List V → Hp → VK → Prop := fun xs H Q => ∃ a, xs = [.ref a] ∧ DctK K a H fun p H1 => Q (.ref p) H1
theorem cr_dctP {X : Cx} (hc : X.calm = true) : CallR X (.type "dict") (rDctP X.K) := CallR.as (call_dictP hc) fun _ _ _ ⟨a, e, ps, kvs, h1, h2, q⟩ => ⟨a, ps, kvs, e, h1, h2, q⟩
def rStrI : List V → Hp → VK → Prop := fun xs H Q => ∃ i : Int, xs = [.int i] ∧ i.natAbs.log2 < 1920 ∧ Q (.str (Str.ofString (toString i))) H
theorem cr_strI {X : Cx} : CallR X (.type "str") rStrI := call_str_int
def rIntB : List V → Hp → VK → Prop := fun xs H Q => ∃ k, xs = [.bl k] ∧ Q (.int (if k = true then 1 else 0)) H
theorem cr_intB {X : Cx} : CallR X (.type "int") rIntB := CallR.as call_int1 fun _ _ _ h => Or.inr h
section
variable {K : PySem.W.Frag} {H : Hp} {Q : VK}
theorem x_dctP {a : Addr} : rDctP K [.ref a] H Q ↔ DctK K a H fun p H1 => Q (.ref p) H1 := ⟨fun ⟨_, e, q⟩ => by cases e; exact q, fun q => ⟨a, rfl, q⟩⟩
theorem x_strI {i : Int} : rStrI [.int i] H Q ↔ i.natAbs.log2 < 1920 ∧ Q (.str (Str.ofString (toString i))) H := ⟨fun ⟨_, e, h, q⟩ => by cases e; exact ⟨h, q⟩, fun ⟨h, q⟩ => ⟨i, rfl, h, q⟩⟩
theorem x_intB {k : Bool} : rIntB [.bl k] H Q ↔ Q (.int (if k = true then 1 else 0)) H := ⟨fun ⟨_, e, q⟩ => by cases e; exact q, fun q => ⟨k, rfl, q⟩⟩
end
def KinK (H : Hp) (a : Addr) (y : V) (G : Bool → Prop) : Prop := ∃ o, DGet H a y o ∧ G o.isSome
section
variable {H : Hp} {Q : VK} {σ : L2.St} {ty td : TE}
theorem e_din : tDIn ty td σ H Q ↔ ty σ H fun y H1 => td σ H1 fun x H2 => ∃ a, x = .ref a ∧ KinK H2 a y fun b => Q (.bl b) H2 := ⟨fun h => (iff_of_eq (congrArg (ty σ H) (funext fun y => funext fun H1 => congrArg (td σ H1) (funext fun x => funext fun H2 => propext ⟨fun ⟨a, o, e, d, q⟩ => ⟨a, e, o, d, q⟩, fun ⟨a, e, o, d, q⟩ => ⟨a, o, e, d, q⟩⟩)))).mp h, fun h => (iff_of_eq (congrArg (ty σ H) (funext fun y => funext fun H1 => congrArg (td σ H1) (funext fun x => funext fun H2 => propext ⟨fun ⟨a, o, e, d, q⟩ => ⟨a, e, o, d, q⟩, fun ⟨a, e, o, d, q⟩ => ⟨a, o, e, d, q⟩⟩)))).mpr h⟩
theorem e_dnin : tDNotIn ty td σ H Q ↔ ty σ H fun y H1 => td σ H1 fun x H2 => ∃ a, x = .ref a ∧ KinK H2 a y fun b => Q (.bl !b) H2 := ⟨fun h => (iff_of_eq (congrArg (ty σ H) (funext fun y => funext fun H1 => congrArg (td σ H1) (funext fun x => funext fun H2 => propext ⟨fun ⟨a, o, e, d, q⟩ => ⟨a, e, o, d, q⟩, fun ⟨a, e, o, d, q⟩ => ⟨a, o, e, d, q⟩⟩)))).mp h, fun h => (iff_of_eq (congrArg (ty σ H) (funext fun y => funext fun H1 => congrArg (td σ H1) (funext fun x => funext fun H2 => propext ⟨fun ⟨a, o, e, d, q⟩ => ⟨a, e, o, d, q⟩, fun ⟨a, e, o, d, q⟩ => ⟨a, o, e, d, q⟩⟩)))).mpr h⟩
end
theorem KinK.str {H : Hp} {a : Addr} {s : Str} {kvs : List (Key × V)} {G : Bool → Prop} (h : H a = some (.dK kvs)) (q : G (valV kvs (Sum.inr s)).isSome) : KinK H a (.str s) G := ⟨_, DGet.k (k := Sum.inr s) h, q⟩
end Vg


set_option Elab.async false
set_option linter.all false
set_option maxRecDepth 100000
set_option maxHeartbeats 2000000
namespace Vg
open PySem PySem.Spec PyProof.Rows L2

/-! ### dicts: d[k], d[k] = v, k in d -/
def DGetK (H : Hp) (a : Addr) (y : V) (G : V → Prop) : Prop := ∃ v, DGet H a y (some v) ∧ G v
def DPutK (H : Hp) (a : Addr) (y v : V) (G : Hp → Prop) : Prop := ∃ H4, DPut H a y v H4 ∧ G H4
/-- an entry of the ledger is replaced, wherever it stands -/
def putL (l : List (Addr × HO)) (p : Addr) (o : HO) : List (Addr × HO) := l.map fun e => if e.1 = p then (p, o) else e
section
variable {K : PySem.W.Frag} {B H : Hp} {l l' : List (Addr × HO)} {p : Addr} {o o' : HO} {σ : L2.St} {Q : VK} {D : Ends} {td ty tv tx : TE}
theorem e_dget : tDGet td ty σ H Q = td σ H fun x H1 => ty σ H1 fun y H2 => ∃ a, x = .ref a ∧ DGetK H2 a y fun v => Q v H2 :=
  congrArg (td σ H) (funext fun x => funext fun H1 => congrArg (ty σ H1) (funext fun y => funext fun H2 => propext ⟨fun ⟨a, v, e, h, q⟩ => ⟨a, e, v, h, q⟩, fun ⟨a, e, v, h, q⟩ => ⟨a, v, e, h, q⟩⟩))
theorem e_dget2 : tDGet2 td ty tx σ H Q = td σ H fun x H1 => ∃ a, x = .ref a ∧ IsD H1 a ∧ ty σ H1 fun y H2 => tx σ H2 fun z H3 => ∃ o, DGet H3 a y o ∧ Q (o.getD z) H3 := propext ⟨fun h => h, fun h => h⟩
theorem s_dput : sDPut td ty tv D σ H = tv σ H fun v H1 => td σ H1 fun x H2 => ty σ H2 fun y H3 => ∃ a, x = .ref a ∧ DPutK H3 a y v fun H4 => D.nx σ H4 :=
  congrArg (tv σ H) (funext fun v => funext fun H1 => congrArg (td σ H1) (funext fun x => funext fun H2 => congrArg (ty σ H2) (funext fun y => funext fun H3 => propext ⟨fun ⟨a, H4, e, h, q⟩ => ⟨a, e, H4, h, q⟩, fun ⟨a, e, H4, h, q⟩ => ⟨a, H4, e, h, q⟩⟩)))
theorem e_dnT : tDNewT σ H Q = NewK (.dT []) H fun p H2 => Q (.ref p) H2 := propext ⟨fun h => h, fun h => h⟩
theorem putL_not (h : p ∉ l.map (·.1)) : putL l p o = l := by
  induction l with
  | nil => rfl
  | cons e r ih =>
    rw [List.map_cons, List.mem_cons, not_or] at h
    show (if e.1 = p then (p, o) else e) :: putL r p o = _
    rw [ih h.2, if_neg fun z => h.1 z.symm]
theorem putL_app (a b : List (Addr × HO)) : putL (a ++ b) p o = putL a p o ++ putL b p o := List.map_append
theorem putL_cons (e : Addr × HO) (b : List (Addr × HO)) : putL (e :: b) p o = (if e.1 = p then (p, o) else e) :: putL b p o := rfl
theorem putL_put (nd : (l.map (·.1)).Nodup) (h : (p, o) ∈ l) : Put l p o' (putL l p o') := by
  induction l with
  | nil => cases h
  | cons e r ih =>
    rw [List.map_cons] at nd
    obtain ⟨n1, n2⟩ := List.nodup_cons.mp nd
    rw [putL_cons]
    rcases List.mem_cons.mp h with z | z
    · rw [← z]
      dsimp only
      rw [if_pos rfl, putL_not (by rw [← z] at n1; exact n1)]
      exact .hd
    · rw [if_neg fun c => n1 (by rw [c]; exact List.mem_map_of_mem (f := (·.1)) z)]
      exact .tl (ih n2 z)
theorem putL_same (nd : (l.map (·.1)).Nodup) (h : (p, o) ∈ l) : putL l p o = l := by
  induction l with
  | nil => rfl
  | cons e r ih =>
    rw [List.map_cons] at nd
    obtain ⟨n1, n2⟩ := List.nodup_cons.mp nd
    rw [putL_cons]
    rcases List.mem_cons.mp h with z | z
    · rw [← z]
      dsimp only
      rw [if_pos rfl, putL_not (by rw [← z] at n1; exact n1)]
    · rw [if_neg fun c => n1 (by rw [c]; exact List.mem_map_of_mem (f := (·.1)) z), ih n2 z]
theorem Led.putL (L : Led B H l) (h : (p, o) ∈ l) : Led B (upd H p o') (putL l p o') := L.put (putL_put L.nd h)
theorem StK.ofM {C dx : Addr} {fs fs' : List (Str × V)} {f : Str} {v : V} {G : Hp → Prop} (L : Led B H l) (m : (p, HO.ins C dx fs) ∈ l) (c : Cls K C) (n : NoAttr K C f) (e : putF f v fs = fs') (k : ∀ H1, Led B H1 (Vg.putL l p (.ins C dx fs')) → G H1) (h : fs.length < 1000 := by first | decide | (simp only [List.length_cons, List.length_nil]; decide) | omega) : StK K p f v H G :=
  ⟨C, dx, fs, L.at m, c, n, h, by rw [e]; exact k _ (L.putL m)⟩
theorem DGetK.k {k : Key} {v : V} {kvs : List (Key × V)} {G : V → Prop} (L : Led B H l) (m : (p, HO.dK kvs) ∈ l) (e : valV kvs k = some v) (q : G v) : DGetK H p (kV k) G := ⟨v, by rw [← e]; exact DGet.k (L.at m), q⟩
theorem DGetK.s {k : Str} {v : V} {kvs : List (Key × V)} {G : V → Prop} (L : Led B H l) (m : (p, HO.dK kvs) ∈ l) (e : valV kvs (.inr k) = some v) (q : G v) : DGetK H p (.str k) G := DGetK.k (k := .inr k) L m e q
theorem DGetK.t {b : Addr} {k : List Key} {v : V} {kvs : List (List Key × V)} {G : V → Prop} (L : Led B H l) (m : (p, HO.dT kvs) ∈ l) (hb : H b = some (.tup (k.map kV))) (e : valV kvs k = some v) (q : G v) : DGetK H p (.ref b) G := ⟨v, by rw [← e]; exact DGet.t (L.at m) hb, q⟩
theorem DPutK.k {k : Key} {v : V} {kvs : List (Key × V)} {G : Hp → Prop} (L : Led B H l) (m : (p, HO.dK kvs) ∈ l) (hl : kvs.length < sizeLine) (t : Put l p (.dK (putK kvs k v)) l') (q : ∀ H1, Led B H1 l' → G H1) : DPutK H p (kV k) v G := ⟨_, DPut.k (L.at m) hl, q _ (L.put t)⟩
theorem DPutK.t {b : Addr} {k : List Key} {v : V} {kvs : List (List Key × V)} {G : Hp → Prop} (L : Led B H l) (m : (p, HO.dT kvs) ∈ l) (hb : H b = some (.tup (k.map kV))) (hl : kvs.length < sizeLine) (t : Put l p (.dT (putK kvs k v)) l') (q : ∀ H1, Led B H1 l' → G H1) : DPutK H p (.ref b) v G := ⟨_, DPut.t (L.at m) hb hl, q _ (L.put t)⟩
theorem KinK.t {b : Addr} {k : List Key} {kvs : List (List Key × V)} {G : Bool → Prop} (L : Led B H l) (m : (p, HO.dT kvs) ∈ l) (hb : H b = some (.tup (k.map kV))) (q : G (valV kvs k).isSome) : KinK H p (.ref b) G := ⟨_, DGet.t (L.at m) hb, q⟩
/-- an entry of the ledger goes to the base -/
theorem Led.sinkM (L : Led B H l) (h : Pick l (p, o) l') : ∃ B', Same B B' ∧ B' p = some o ∧ Led B' H l' := (L.sel (.cons h .all)).sink
end
/-! ### a display of pairs -/
def DoneK (p : Addr) (ps : List (V × V)) (H : Hp) (G : Hp → Prop) : Prop := H p = some (.dK []) ∧ ∃ kvs : List (Key × V), ps = kvs.map (fun kv => (kV kv.1, kv.2)) ∧ kvs.length ≤ 15 ∧ G (upd H p (.dK (mergeK [] kvs)))
section
variable {B H : Hp} {l l' : List (Addr × HO)} {p : Addr} {σ : L2.St} {Q : VK} {trs : List (TE × TE)} {PQ : List (V × V) → Hp → Prop} {tk tv : TE}
theorem e_disp : tDisp trs σ H Q = NewK (.dK []) H fun p H1 => tPairs trs σ H1 fun ps H2 => DoneK p ps H2 fun H3 => Q (.ref p) H3 := propext ⟨fun h => h, fun h => h⟩
theorem tp_nil : tPairs [] σ H PQ = PQ [] H := propext ⟨fun h => h, fun h => h⟩
theorem tp_cons : tPairs ((tk, tv) :: trs) σ H PQ = tk σ H fun x H1 => tv σ H1 fun y H2 => tPairs trs σ H2 fun ps H3 => PQ ((x, y) :: ps) H3 := propext ⟨fun h => h, fun h => h⟩
theorem DoneK.of {ps : List (V × V)} {G : Hp → Prop} (kvs : List (Key × V)) (L : Led B H l) (m : (p, HO.dK []) ∈ l) (e : ps = kvs.map (fun kv => (kV kv.1, kv.2))) (h15 : kvs.length ≤ 15) (t : Put l p (.dK (mergeK [] kvs)) l') (k : ∀ H1, Led B H1 l' → G H1) : DoneK p ps H G :=
  ⟨L.at m, kvs, e, h15, k _ (L.put t)⟩
theorem Led.perm (L : Led B H l) (h : l.Perm l') : Led B H l' := ⟨L.sm, (h.map (·.1)).nodup_iff.mp L.nd, fun e he => L.fr e (h.mem_iff.mpr he), fun e he => L.hs e (h.mem_iff.mpr he)⟩
end
/-! ### sorted of pairs of ints -/
def SrtPK (K : PySem.W.Frag) (a : Addr) (H : Hp) (G : Addr → Hp → Prop) : Prop := ∃ xs, SqL K H a xs ∧ (∀ x ∈ xs, ∃ t i j, x = V.ref t ∧ H t = some (.tup [.int i, .int j])) ∧ ∀ ys : List V, ys.Perm xs → NewK (.lst ys) H G
theorem x_sortedP {K : PySem.W.Frag} {a : Addr} {H : Hp} {Q : VK} : rSortedP K [.ref a] H Q ↔ SrtPK K a H fun p H1 => Q (.ref p) H1 :=
  ⟨fun ⟨_, xs, e, h1, h2, q⟩ => by cases e; exact ⟨xs, h1, h2, fun ys hp p hn => q ys p hp hn⟩, fun ⟨xs, h1, h2, q⟩ => ⟨a, xs, rfl, h1, h2, fun ys p hp hn => q ys hp p hn⟩⟩
/-! ### zip in a comprehension -/
section
variable {K : PySem.W.Frag} {g : TG} {D : Ends} {σ : L2.St} {H : Hp} {a b : Addr} {xs ys : List V} {tt : TT} {te : TE} {vs : List Nat} {Q : VK}
theorem i_zip {al : TA} {R : It → Hp → Prop} : iZip K al σ H R = al σ H fun vs H1 => ∃ a b xs ys, vs = [.ref a, .ref b] ∧ SqL K H1 a xs ∧ SqL K H1 b ys ∧ R (Itz K a b) H1 := propext ⟨fun h => h, fun h => h⟩
theorem comp_zip (hl : xs.length = ys.length) (R : Nat → Addr → List V → Hp → Prop) (h0 : ∀ p, H p = none → R 0 p [] (upd H p (.lst []))) (hq : ∀ i p acc H', R i p acc H' → SqL K H' a xs ∧ SqL K H' b ys)
    (hn : ∀ p acc H', R xs.length p acc H' → Q (.ref p) H')
    (hs : ∀ i p acc H' x y (N : Hp → Prop), xs[i]? = some x → ys[i]? = some y → R i p acc H' → (∀ acc H3, R (i + 1) p acc H3 → N H3) → NewK (.tup [x, y]) H' fun t H2 => TurnK g tt te vs σ p N (.ref t) H2) : LcK (Itz K a b) g tt te vs σ H Q := by
  refine comp_gen xs.length R h0 (fun p acc H' r => ⟨?_, hn p acc H' r⟩) fun i p acc H' hi r => ?_
  · obtain ⟨q1, q2⟩ := hq _ _ _ _ r
    exact ⟨xs, ys, q1, q2, Or.inl (Nat.le_refl _)⟩
  · obtain ⟨q1, q2⟩ := hq _ _ _ _ r
    have hi2 : i < ys.length := by omega
    refine ⟨⟨xs, ys, _, _, q1, q2, List.getElem?_eq_getElem hi, List.getElem?_eq_getElem hi2⟩, ?_⟩
    rintro v H2 ⟨T, x, y, rfl, hT, rfl, f1, f2⟩
    exact hs i p acc _ x y _ (f1 xs q1) (f2 ys q2) r (fun acc H3 z => ⟨acc, z⟩) T hT
end
end Vg


set_option Elab.async false
set_option linter.all false
set_option maxRecDepth 100000
set_option maxHeartbeats 2000000
namespace Vg
open PySem PySem.Spec PyProof.Rows L2
/-! ### math.isqrt -/
def IsRoot (n s : Nat) : Prop := s * s ≤ n ∧ n < (s + 1) * (s + 1)
theorem root8 : ∀ n, n < 8 → IsRoot n (Float64.rootBelow8 n) := by
  unfold IsRoot
  decide
theorem sq_lt {a b : Nat} (h : a * a < b * b) : a < b := by
  apply Classical.byContradiction
  intro z
  have z : b ≤ a := by omega
  exact absurd (Nat.mul_le_mul z z) (by omega)
/-- one step of halving -/
theorem root_step {n t r s : Nat} (ht : 2 ≤ t) (hs : IsRoot n s) (h1 : (r * t) * (r * t) ≤ n) (h2 : n < ((r + 1) * t) * ((r + 1) * t)) (h3 : t < 2 * (r + 1)) (h4 : t ≤ s) :
    (if ((r + 1) * t + n / ((r + 1) * t)) / 2 * (((r + 1) * t + n / ((r + 1) * t)) / 2) > n then ((r + 1) * t + n / ((r + 1) * t)) / 2 - 1 else ((r + 1) * t + n / ((r + 1) * t)) / 2) = s := by
  obtain ⟨s1, s2⟩ := hs
  have a1 : r * t ≤ s := Nat.le_of_lt_succ (sq_lt (Nat.lt_of_le_of_lt h1 s2))
  have a2 : s < (r + 1) * t := sq_lt (Nat.lt_of_le_of_lt s1 h2)
  have a3 : (r + 1) * t = r * t + t := Nat.succ_mul r t
  generalize hx : (r + 1) * t = x at *
  have xpos : 0 < x := by omega
  have hq1 : n / x * x ≤ n := Nat.div_mul_le_self n x
  have hq2 : n < (n / x + 1) * x := by rw [Nat.succ_mul]; have := Nat.div_add_mod n x; have := Nat.mod_lt n xpos; have := Nat.mul_comm x (n / x); omega
  generalize hq : n / x = q at *
  -- from below
  have lo : 2 * s ≤ x + q := by
    apply Classical.byContradiction
    intro z
    -- q + 1 ≤ 2 s - x, so n < x (2 s - x) ≤ s * s
    obtain ⟨d, hd⟩ : ∃ d, x = s + d := ⟨x - s, by omega⟩
    have hqd : q + 1 + d ≤ s := by omega
    obtain ⟨e, he⟩ : ∃ e, s = q + 1 + d + e := ⟨s - (q + 1 + d), by omega⟩
    have k1 : (q + 1) * x = (q + 1) * s + (q + 1) * d := by rw [hd, Nat.mul_add]
    have k2 : s * s = (q + 1) * s + (d + e) * s := by
      have : s * s = (q + 1 + d + e) * s := by rw [← he]
      rw [this, Nat.add_assoc, Nat.add_mul]
    have k3 : (d + e) * s = d * s + e * s := Nat.add_mul d e s
    have k4 : d * (q + 1) ≤ d * s := Nat.mul_le_mul_left d (by omega)
    have k5 : (q + 1) * d = d * (q + 1) := Nat.mul_comm _ _
    omega
  -- from above
  have hi : x + q ≤ 2 * s + 3 := by
    apply Classical.byContradiction
    intro z
    obtain ⟨d, hd⟩ : ∃ d, x = s + 1 + d := ⟨x - (s + 1), by omega⟩
    have hdt : d + 1 ≤ t := by omega
    -- q ≥ s + 3 - d
    by_cases c : d ≤ s + 3
    · obtain ⟨e, he⟩ : ∃ e, s + 3 = d + e := ⟨s + 3 - d, by omega⟩
      have hqe : e ≤ q := by omega
      have k1 : e * x ≤ q * x := Nat.mul_le_mul_right x hqe
      -- e * (s + 1 + d) ≤ n < (s+1)*(s+1), with e = s + 3 - d
      have k2 : e * x = e * (s + 1) + e * d := by rw [hd, Nat.mul_add]
      have k3 : (s + 3) * (s + 1) = d * (s + 1) + e * (s + 1) := by rw [he, Nat.add_mul]
      have k4 : (s + 3) * (s + 1) = (s + 1) * (s + 1) + 2 * (s + 1) := by rw [show s + 3 = s + 1 + 2 by omega, Nat.add_mul]
      have k5 : d * (s + 3) = d * d + d * e := by rw [he, Nat.mul_add]
      have k6 : d * (s + 3) = d * (s + 1) + d * 2 := by rw [show s + 3 = s + 1 + 2 by omega, Nat.mul_add]
      have k7 : e * d = d * e := Nat.mul_comm _ _
      -- so 2 (s + 1) + 2 d < d * d
      have k8 : 2 * (s + 1) + 2 * d < d * d := by omega
      -- but d + 1 ≤ t, and t * t ≤ 2 * (r * t) + ..
      have k9 : d * d + d ≤ d * t := by
        have := Nat.mul_le_mul_left d hdt
        rw [Nat.mul_add, Nat.mul_one] at this
        exact this
      have k10 : d * t ≤ t * t := Nat.mul_le_mul_right t (by omega)
      have k11 : (t + 1) * t ≤ 2 * (r + 1) * t := Nat.mul_le_mul_right t (by omega)
      have k12 : (t + 1) * t = t * t + t := Nat.succ_mul t t
      have k13 : 2 * (r + 1) * t = 2 * (r * t) + 2 * t := by rw [Nat.mul_assoc, Nat.add_mul, Nat.mul_add, Nat.one_mul]
      -- d*d ≤ d*t - d ≤ t*t - t - ..
      have k14 : (d + 1) * (d + 1) ≤ t * t := Nat.mul_le_mul hdt hdt
      have k15 : (d + 1) * (d + 1) = d * d + 2 * d + 1 := by rw [Nat.mul_add, Nat.add_mul]; omega
      omega
    · omega
  have y1 : s ≤ (x + q) / 2 := by omega
  have y2 : (x + q) / 2 ≤ s + 1 := by omega
  rcases Nat.lt_or_ge ((x + q) / 2) (s + 1) with c | c
  · have e : (x + q) / 2 = s := by omega
    rw [e, if_neg (by omega)]
  · have e : (x + q) / 2 = s + 1 := by omega
    rw [e, if_pos s2]
    rfl
theorem root_exists (n : Nat) : ∃ s, IsRoot n s := by
  induction n with
  | zero => exact ⟨0, by unfold IsRoot; decide⟩
  | succ n ih =>
    obtain ⟨s, h1, h2⟩ := ih
    by_cases c : n + 1 < (s + 1) * (s + 1)
    · exact ⟨s, by omega, c⟩
    · refine ⟨s + 1, by omega, ?_⟩
      have : (s + 1) * (s + 1) < (s + 1 + 1) * (s + 1 + 1) := Nat.mul_lt_mul'' (by omega) (by omega)
      omega
theorem root_halves : ∀ (l n : Nat), n.log2 ≤ l → IsRoot n (Float64.rootByHalves l n)
  | 0, n, h => by
    have : n < 8 := by
      by_cases c : n = 0
      · omega
      · have := (Nat.log2_lt c).mp (Nat.lt_succ_of_le h)
        omega
    exact root8 n this
  | l + 1, n, h => by
    rw [Float64.rootByHalves]
    by_cases c : n < 8
    · rw [if_pos c]
      exact root8 n c
    · rw [if_neg c]
      have n0 : n ≠ 0 := by omega
      obtain ⟨g, hg⟩ : ∃ g, g = n.log2 := ⟨_, rfl⟩
      have g1 : 2 ^ g ≤ n := by rw [hg]; exact Nat.log2_self_le n0
      have g2 : n < 2 ^ (g + 1) := by rw [hg]; exact Nat.lt_log2_self
      have g3 : 3 ≤ g := by
        apply Classical.byContradiction
        intro z
        have : 2 ^ (g + 1) ≤ 2 ^ 3 := Nat.pow_le_pow_right (by decide) (by omega)
        omega
      rw [← hg]
      obtain ⟨k, hk⟩ : ∃ k, k = (g + 1) / 4 := ⟨_, rfl⟩
      rw [← hk]
      have k1 : 1 ≤ k := by omega
      have k2 : 4 * k ≤ g + 1 := by omega
      have e4 : (4 : Nat) ^ k = 2 ^ k * 2 ^ k := by rw [← Nat.mul_pow]
      have m1 : (n / 4 ^ k).log2 ≤ l := by
        by_cases z : n / 4 ^ k = 0
        · rw [z]
          exact Nat.zero_le _
        · have q : n / 4 ^ k < 2 ^ g := by
            have : n / 4 ^ k ≤ n / 4 := Nat.div_le_div_left (by have : 4 ^ 1 ≤ 4 ^ k := Nat.pow_le_pow_right (by decide) k1; omega) (by decide)
            have : 2 ^ (g + 1) = 2 * 2 ^ g := by rw [Nat.pow_succ, Nat.mul_comm]
            omega
          have := (Nat.log2_lt z).mpr q
          omega
      obtain ⟨s, hs⟩ := root_exists n
      have ir := root_halves l (n / 4 ^ k) m1
      obtain ⟨r, hr⟩ : ∃ r, r = Float64.rootByHalves l (n / 4 ^ k) := ⟨_, rfl⟩
      rw [← hr] at ir
      obtain ⟨r1, r2⟩ := ir
      have p4 : 0 < 4 ^ k := Nat.pow_pos (by decide)
      have d1 : n / 4 ^ k * 4 ^ k ≤ n := Nat.div_mul_le_self _ _
      have d2 : n < (n / 4 ^ k + 1) * 4 ^ k := by
        have := Nat.div_add_mod n (4 ^ k)
        have := Nat.mod_lt n p4
        rw [Nat.succ_mul, Nat.mul_comm (n / 4 ^ k)]
        omega
      have t2 : 2 ≤ 2 ^ k := by
        have : 2 ^ 1 ≤ 2 ^ k := Nat.pow_le_pow_right (by decide) k1
        omega
      have u1 : (r * 2 ^ k) * (r * 2 ^ k) ≤ n := by
        have e : (r * 2 ^ k) * (r * 2 ^ k) = r * r * 4 ^ k := by rw [e4, Nat.mul_mul_mul_comm]
        rw [e]
        exact Nat.le_trans (Nat.mul_le_mul_right _ r1) d1
      have u2 : n < ((r + 1) * 2 ^ k) * ((r + 1) * 2 ^ k) := by
        have e : ((r + 1) * 2 ^ k) * ((r + 1) * 2 ^ k) = (r + 1) * (r + 1) * 4 ^ k := by rw [e4, Nat.mul_mul_mul_comm]
        rw [e]
        exact Nat.lt_of_lt_of_le d2 (Nat.mul_le_mul_right _ r2)
      have u3 : 2 ^ k < 2 * (r + 1) := by
        apply Classical.byContradiction
        intro z
        have z : 2 * (r + 1) ≤ 2 ^ k := by omega
        have w1 := Nat.mul_le_mul z z
        have w2 : 2 * (r + 1) * (2 * (r + 1)) = 4 * ((r + 1) * (r + 1)) := by rw [Nat.mul_mul_mul_comm]
        -- n < (r+1)^2 4^k, so 4 n < 4^k 4^k = 2 ^ (4 k) ≤ 2 ^ (g + 1) ≤ 2 n
        have w3 : 4 * n < (4 * ((r + 1) * (r + 1))) * 4 ^ k := by
          have e : ((r + 1) * 2 ^ k) * ((r + 1) * 2 ^ k) = (r + 1) * (r + 1) * 4 ^ k := by rw [e4, Nat.mul_mul_mul_comm]
          rw [e] at u2
          rw [Nat.mul_assoc]
          omega
        have w4 : (4 * ((r + 1) * (r + 1))) * 4 ^ k ≤ (2 ^ k * 2 ^ k) * 4 ^ k := Nat.mul_le_mul_right _ (by omega)
        have w5 : (2 ^ k * 2 ^ k) * 4 ^ k = 2 ^ (4 * k) := by
          rw [e4, ← Nat.pow_add, ← Nat.pow_add]
          congr 1
          omega
        have w6 : 2 ^ (4 * k) ≤ 2 ^ (g + 1) := Nat.pow_le_pow_right (by decide) k2
        have w7 : 2 ^ (g + 1) = 2 * 2 ^ g := by rw [Nat.pow_succ, Nat.mul_comm]
        omega
      have u4 : 2 ^ k ≤ s := by
        apply Nat.le_of_lt_succ
        apply sq_lt
        refine Nat.lt_of_le_of_lt ?_ hs.2
        rw [← Nat.pow_add]
        exact Nat.le_trans (Nat.pow_le_pow_right (by decide) (by omega)) g1
      have fin := root_step t2 hs u1 u2 u3 u4
      rw [hr] at fin
      refine Eq.mpr (congrArg (IsRoot n) ?_) hs
      exact fin
theorem isqrt_root (n : Nat) : IsRoot n (Float64.isqrt n) := root_halves _ n (Nat.le_refl _)
/-- isqrt(n) -/
def rRoot : List V → Hp → VK → Prop := fun xs H Q => ∃ n : Int, xs = [.int n] ∧ 0 ≤ n ∧ n < 2 ^ 200 ∧ ∀ s : Nat, IsRoot n.toNat s → Q (.int s) H
theorem cr_isqrt {X : Cx} : CallR X (.builtin "math.isqrt") rRoot := by
  intro pins s σ H xs us Q I rv h
  obtain ⟨n, rfl, h0, h1, q⟩ := h
  obtain ⟨u, rfl, t, rfl⟩ := vals1 rv
  have hl : n.toNat.log2 < 200 := by
    have := PySem.Flt.log2_lt_of (show 0 < 200 by decide) (abs_lt h0 h1)
    have e : n.toNat = n.natAbs := by omega
    rw [e]
    exact this
  have G := PySem.W.mg_run_isqrt n t (by omega) (by omega) (by omega)
  exact call_function_meets PySem.W.MGF.kind_isqrt PySem.W.MGF.plain_isqrt PySem.W.MGF.entry_isqrt (PySem.W.MGF.args_isqrt _) G.meets ⟨.int _, H, I.tok _, ⟨_, rfl⟩, q _ (isqrt_root _)⟩
end Vg


set_option Elab.async false
set_option linter.all false
set_option maxRecDepth 100000
set_option maxHeartbeats 2000000
namespace Vg
open PySem PySem.Spec PyProof.Rows L2

/-! ### texts: join, split, isdigit, isascii, int, s[i], s * n -/
def rJoinS (K : PySem.W.Frag) : V → List V → Hp → VK → Prop := fun x xs H Q => ∃ a p, ∃ ys : List Str, x = .str a ∧ xs = [.ref p] ∧ (SqL K H p (ys.map V.str) ∨ SqT K H p (ys.map V.str)) ∧ (ys.map (·.length)).sum + ys.length * a.length ≤ 16777216 ∧ Q (.str (Txt.join a ys)) H
def JoinK (K : PySem.W.Frag) (a : Str) (p : Addr) (H : Hp) (G : Str → Prop) : Prop := ∃ ys : List Str, (SqL K H p (ys.map V.str) ∨ SqT K H p (ys.map V.str)) ∧ (ys.map (·.length)).sum + ys.length * a.length ≤ 16777216 ∧ G (Txt.join a ys)
def rSplitS : V → List V → Hp → VK → Prop := fun x xs H Q => ∃ a b, x = .str a ∧ xs = [.str b] ∧ (b.length == 0) = false ∧ a.length + 2 ≤ sizeLine ∧ rNewStrs (Txt.split a b) H Q
def SplitK (a b : Str) (H : Hp) (G : Addr → Hp → Prop) : Prop := (b.length == 0) = false ∧ a.length + 2 ≤ sizeLine ∧ NewK (.lst ((Txt.split a b).map V.str)) H G
def rAsciiS : V → List V → Hp → VK → Prop := fun x xs H Q => ∃ a, x = .str a ∧ xs = [] ∧ True ∧ Q (.bl (Txt.isascii a)) H
def rDigitS : V → List V → Hp → VK → Prop := fun x xs H Q => ∃ a, x = .str a ∧ xs = [] ∧ True ∧ Q (.bl (Txt.isdigit a)) H
def rIntS : List V → Hp → VK → Prop := fun xs H Q => ∃ a n, xs = [.str a] ∧ PySem.intText? a = some n ∧ a.length ≤ 640 ∧ Q (.int n) H
def IntSK (a : Str) (G : Int → Prop) : Prop := ∃ n, PySem.intText? a = some n ∧ a.length ≤ 640 ∧ G n
def rLenS : List V → Hp → VK → Prop := fun xs H Q => ∃ z : Str, xs = [.str z] ∧ z.length ≤ sizeLine ∧ Q (.int z.length) H
def rMulS : R2 := fun x y H Q => ∃ a n, x = .str a ∧ y = .int n ∧ MulOk a n ∧ Q (.str (Txt.mul a n)) H
def IxSK (z : Str) (i : Int) (G : V → Prop) : Prop := z.length ≤ sizeLine ∧ ∃ c, atI z.cps.toList i = some c ∧ G (.str ⟨#[c]⟩)
section
variable {X : Cx} {K : PySem.W.Frag} {H : Hp} {Q : VK} {a b : Str} {p : Addr} {i : Int}
theorem mt_joinS : MtR X "str.join" (rJoinS X.K) := mt_join
theorem mt_splitS : MtR X "str.split" rSplitS := mt_split
theorem mt_asciiS : MtR X "str.isascii" rAsciiS := mt_isascii
theorem mt_digitS : MtR X "str.isdigit" rDigitS := mt_isdigit
theorem cr_intS : CallR X (.type "int") rIntS := call_int_str
theorem cr_lenS : CallR X (.builtin "len") rLenS := call_len_str
theorem op_mulS : OpR X (binaryOp .Mult) rMulS := by
  intro pins s σ H x y v u Q I rx ry h
  obtain ⟨a, n, rfl, rfl, hok, q⟩ := h
  obtain ⟨t, rfl⟩ := rx
  obtain ⟨t', rfl⟩ := ry
  exact SB.mul hok fun t2 k => ⟨.str (Txt.mul a n), H, I.tok _, ⟨t2, rfl⟩, q⟩
theorem x_joinS : rJoinS K (.str a) [.ref p] H Q ↔ JoinK K a p H fun t => Q (.str t) H := ⟨fun ⟨_, _, ys, e1, e2, h1, h2, q⟩ => by cases e1; cases e2; exact ⟨ys, h1, h2, q⟩, fun ⟨ys, h1, h2, q⟩ => ⟨a, p, ys, rfl, rfl, h1, h2, q⟩⟩
theorem x_splitS : rSplitS (.str a) [.str b] H Q ↔ SplitK a b H fun p H1 => Q (.ref p) H1 := ⟨fun ⟨_, _, e1, e2, h1, h2, q⟩ => by cases e1; cases e2; exact ⟨h1, h2, q⟩, fun ⟨h1, h2, q⟩ => ⟨a, b, rfl, rfl, h1, h2, q⟩⟩
theorem x_asciiS : rAsciiS (.str a) [] H Q ↔ Q (.bl (Txt.isascii a)) H := ⟨fun ⟨_, e, _, _, q⟩ => by cases e; exact q, fun q => ⟨a, rfl, rfl, trivial, q⟩⟩
theorem x_digitS : rDigitS (.str a) [] H Q ↔ Q (.bl (Txt.isdigit a)) H := ⟨fun ⟨_, e, _, _, q⟩ => by cases e; exact q, fun q => ⟨a, rfl, rfl, trivial, q⟩⟩
theorem x_intS : rIntS [.str a] H Q ↔ IntSK a fun n => Q (.int n) H := ⟨fun ⟨_, n, e, h1, h2, q⟩ => by cases e; exact ⟨n, h1, h2, q⟩, fun ⟨n, h1, h2, q⟩ => ⟨a, n, rfl, h1, h2, q⟩⟩
theorem x_lenS : rLenS [.str a] H Q ↔ a.length ≤ sizeLine ∧ Q (.int a.length) H := ⟨fun ⟨_, e, h, q⟩ => by cases e; exact ⟨h, q⟩, fun ⟨h, q⟩ => ⟨a, rfl, h, q⟩⟩
theorem x_mulS : rMulS (.str a) (.int i) H Q ↔ MulOk a i ∧ Q (.str (Txt.mul a i)) H := ⟨fun ⟨_, _, e1, e2, h, q⟩ => by cases e1; cases e2; exact ⟨h, q⟩, fun ⟨h, q⟩ => ⟨a, i, rfl, rfl, h, q⟩⟩
theorem x_ixS : rIxS (.str a) (.int i) H Q ↔ IxSK a i fun v => Q v H := ⟨fun ⟨_, _, c, e1, e2, h1, h2, q⟩ => by cases e1; cases e2; exact ⟨h1, c, h2, q⟩, fun ⟨h1, c, h2, q⟩ => ⟨a, i, c, rfl, rfl, h1, h2, q⟩⟩
theorem ty_S : tyV K "str" (.str a) H ↔ True := iff_true_intro rfl
end
/-! ### numbers as texts -/
def nT (n : Nat) : Str := Str.ofString (toString (n : Int))
def txt (sep : Str) (ms : List Nat) : Str := Txt.join sep (ms.map nT)
theorem nT_tl (n : Nat) : TL.tl (nT n) = TL.numL n := TL.tl_num n
theorem nT_len {n k : Nat} (hk : 0 < k) (h : n < 10 ^ k) : (nT n).length ≤ k := by
  rw [TL.len_tl, nT_tl]
  exact TL.numL_len hk h
theorem nT_int {n : Nat} (h : n < 10 ^ 600) : intText? (nT n) = some (n : Int) := TL.int_num (Nat.le_trans (TL.numL_len (by decide) h) (by decide))
theorem nT_digits (n : Nat) : ∀ c ∈ TL.tl (nT n), 48 ≤ c ∧ c ≤ 57 := fun c hc => by
  rw [nT_tl] at hc
  exact TL.numL_digits n c hc
theorem nT_ne (n : Nat) : TL.tl (nT n) ≠ [] := by rw [nT_tl]; exact TL.numL_ne n
/-- the first sign is 0 only in 0 itself -/
theorem nT_head (n : Nat) : (TL.numL n).head? = some 48 → n = 0 := by
  induction n using Nat.strongRecOn with
  | _ n ih =>
    intro h
    by_cases c : n < 10
    · rw [TL.numL_lt c] at h
      simp only [List.head?_cons, Option.some.injEq] at h
      omega
    · rw [TL.numL_step (by omega)] at h
      have hne := TL.numL_ne (n / 10)
      cases hq : TL.numL (n / 10) with
      | nil => exact absurd hq hne
      | cons d r =>
        rw [hq] at h
        have : n / 10 = 0 := ih (n / 10) (by omega) (by rw [hq]; exact h)
        omega
theorem isdigit_nT (n : Nat) : Txt.isdigit (nT n) = true := by
  unfold Txt.isdigit
  rw [Bool.and_eq_true]
  constructor
  · rw [decide_eq_true_eq]
    have := nT_ne n
    rw [TL.len_tl]
    exact List.length_pos_iff.mpr this
  · rw [← Array.all_toList, List.all_eq_true]
    intro c hc
    have h := nT_digits n c hc
    have : ∀ c, 48 ≤ c → c ≤ 57 → Unicode.isDigit c = true := by
      intro c h1 h2
      obtain rfl | rfl | rfl | rfl | rfl | rfl | rfl | rfl | rfl | rfl : c = 48 ∨ c = 49 ∨ c = 50 ∨ c = 51 ∨ c = 52 ∨ c = 53 ∨ c = 54 ∨ c = 55 ∨ c = 56 ∨ c = 57 := by omega
      all_goals decide +kernel
    exact this c h.1 h.2
theorem isascii_nT (n : Nat) : Txt.isascii (nT n) = true := by
  unfold Txt.isascii
  rw [← Array.all_toList, List.all_eq_true]
  intro c hc
  have h := nT_digits n c hc
  exact decide_eq_true (by omega)
theorem txt_split {sep : Str} {s : Nat} (es : TL.tl sep = [s]) (hs : s < 48) (hk : sep.cps.all (· < 256) = true) {ms : List Nat} (hne : ms ≠ []) : Txt.split (txt sep ms) sep = ms.map nT :=
  TL.split_join es hk (fun e => hne (List.map_eq_nil_iff.mp e)) fun p hp => by
    obtain ⟨n, _, rfl⟩ := List.mem_map.mp hp
    exact fun z => by have := nT_digits n s z; omega
theorem joinL_mem {y : List Nat} {c : Nat} : ∀ {parts : List (List Nat)}, c ∈ TL.joinL y parts → c ∈ y ∨ ∃ p ∈ parts, c ∈ p
  | [], h => by cases h
  | [p], h => Or.inr ⟨p, List.mem_singleton.mpr rfl, h⟩
  | p :: q :: r, h => by
    rcases List.mem_append.mp (show c ∈ p ++ (y ++ TL.joinL y (q :: r)) from h) with z | z
    · exact Or.inr ⟨p, List.mem_cons_self, z⟩
    · rcases List.mem_append.mp z with z | z
      · exact Or.inl z
      · rcases joinL_mem z with z | ⟨p2, h1, h2⟩
        · exact Or.inl z
        · exact Or.inr ⟨p2, List.mem_cons_of_mem _ h1, h2⟩
theorem joinL_len {y : List Nat} {k : Nat} : ∀ {parts : List (List Nat)}, (∀ p ∈ parts, p.length ≤ k) → (TL.joinL y parts).length ≤ parts.length * (k + y.length)
  | [], _ => Nat.zero_le _
  | [p], h => by
    have := h p (List.mem_singleton.mpr rfl)
    show p.length ≤ 1 * _
    omega
  | p :: q :: r, h => by
    have h1 := h p List.mem_cons_self
    have ih := joinL_len (y := y) (parts := q :: r) fun z hz => h z (List.mem_cons_of_mem _ hz)
    show (p ++ (y ++ TL.joinL y (q :: r))).length ≤ ((q :: r).length + 1) * _
    rw [List.length_append, List.length_append, Nat.succ_mul]
    omega
theorem txt_tl (sep : Str) (ms : List Nat) : TL.tl (txt sep ms) = TL.joinL (TL.tl sep) (ms.map fun n => TL.numL n) := by
  unfold txt
  rw [TL.join_eq, TL.tl_join, List.map_map]
  congr 1
  exact List.map_congr_left fun n _ => nT_tl n
theorem txt_len {sep : Str} {ms : List Nat} {k : Nat} (hk : 0 < k) (h : ∀ m ∈ ms, m < 10 ^ k) : (txt sep ms).length ≤ ms.length * (k + sep.length) := by
  rw [TL.len_tl, txt_tl, TL.len_tl sep]
  have := joinL_len (y := TL.tl sep) (k := k) (parts := ms.map fun n => TL.numL n) fun p hp => by
    obtain ⟨n, hn, rfl⟩ := List.mem_map.mp hp
    exact TL.numL_len hk (h n hn)
  rw [List.length_map] at this
  exact this
theorem txt_cps {sep : Str} {ms : List Nat} (hs : ∀ c ∈ TL.tl sep, c < 16 ^ 8) : ∀ c ∈ (txt sep ms).cps.toList, c < 16 ^ 8 := fun c hc => by
  have hc : c ∈ TL.tl (txt sep ms) := hc
  rw [txt_tl] at hc
  rcases joinL_mem hc with z | ⟨p, hp, z⟩
  · exact hs c z
  · obtain ⟨n, _, rfl⟩ := List.mem_map.mp hp
    have := TL.numL_digits n c z
    have e : (16 : Nat) ^ 8 = 4294967296 := by decide
    omega
end Vg


set_option Elab.async false
set_option linter.all false
set_option maxRecDepth 100000
set_option maxHeartbeats 2000000
namespace Vg
open PySem PySem.Spec PyProof.Rows L2

theorem Led.subl {B H : Hp} {l l' : List (Addr × HO)} (L : Led B H l) (h : l'.Sublist l) : Led B H l' := ⟨L.sm, L.nd.sublist (h.map _), fun e he => L.fr e (h.subset he), fun e he => L.hs e (h.subset he)⟩
/-! ### a program's def by the plain promise; a law's def that calls it -/
theorem Fg.of {P : Program} {w : World} {K : PySem.W.Frag} {mg : Str → Option Value} {bs : Heap} {C : CXT} {n : Nat} {f : Addr} {fd : FuncData} {ps : List Str} {sp : Sp} (F : FnOk P w K mg bs C n f fd ps sp) : Fg P w K mg bs C n f fd ps sp :=
  ⟨F.len, fun A fr s H gs us vs Q E _ r e b v q => F.run A fr s H gs us vs Q E r e b v q⟩
section
variable {σ : L2.St} {H : Hp} {Q : VK} {sp : Sp} {dvs : List V} {E : XK} {t : TA} {ta : TE} {C : Addr} {m : Str}
theorem e_call : tCall sp dvs E t σ H Q = t σ H fun vs H1 => sp (vs ++ dvs) H1 Q E := propext ⟨fun h => h, fun h => h⟩
theorem e_meth : tMeth C m sp dvs E ta t σ H Q ↔ ta σ H fun x H1 => ∃ a, x = .ref a ∧ MtK a C m H1 (t σ H1 fun vs H2 => sp (x :: (vs ++ dvs)) H2 Q E) :=
  Iff.of_eq (congrArg (ta σ H) (funext fun x => funext fun H1 => propext ⟨fun ⟨a, dx, fs, e, r1, r2, r3⟩ => ⟨a, e, dx, fs, r1, r2, r3⟩, fun ⟨a, e, dx, fs, r1, r2, r3⟩ => ⟨a, dx, fs, e, r1, r2, r3⟩⟩))
theorem e_methR : tMethR C m sp E ta t σ H Q ↔ ta σ H fun x H1 => ∃ a, x = .ref a ∧ MtK a C m H1 (t σ H1 fun vs H2 => sp (x :: vs) H2 Q E) :=
  Iff.of_eq (congrArg (ta σ H) (funext fun x => funext fun H1 => propext ⟨fun ⟨a, dx, fs, e, r1, r2, r3⟩ => ⟨a, e, dx, fs, r1, r2, r3⟩, fun ⟨a, e, dx, fs, r1, r2, r3⟩ => ⟨a, dx, fs, e, r1, r2, r3⟩⟩))
theorem e_make : tMake C sp dvs E t σ H Q = t σ H fun vs H1 => MkK C H1 fun x H2 => sp (.ref x :: (vs ++ dvs)) H2 (fun v H3 => v = .non ∧ Q (.ref x) H3) E := propext ⟨fun h => h, fun h => h⟩
/-- o.f, a property -/
def PropK (a C : Addr) (H : Hp) (G : Prop) : Prop := ∃ dx fs, H a = some (.ins C dx fs) ∧ G
theorem e_prop : tProp C sp dvs E ta σ H Q ↔ ta σ H fun x H1 => ∃ a, x = .ref a ∧ PropK a C H1 (sp (.ref a :: dvs) H1 Q E) :=
  Iff.of_eq (congrArg (ta σ H) (funext fun x => funext fun H1 => propext ⟨fun ⟨a, dx, fs, e, r1, r2⟩ => ⟨a, e, dx, fs, r1, r2⟩, fun ⟨a, e, dx, fs, r1, r2⟩ => ⟨a, dx, fs, e, r1, r2⟩⟩))
theorem PropK.of {B : Hp} {l : List (Addr × HO)} {a dx : Addr} {fs : List (Str × V)} {G : Prop} (L : Led B H l) (h : (a, HO.ins C dx fs) ∈ l) (k : G) : PropK a C H G := ⟨dx, fs, L.at h, k⟩
end
/-- a def with *args, called: the first n are named, what is left over is a new tuple -/
def starSp (n : Nat) (sp : Sp) : Sp := fun vs H Q E => ∃ ws rest, vs = ws ++ rest ∧ ws.length = n ∧ rest.length ≤ sizeLine ∧ ∀ p, H p = none → sp (ws ++ [V.ref p]) (upd H p (.tup rest)) Q E
theorem starSp.of {n : Nat} {sp : Sp} {H : Hp} {Q : VK} {E : XK} (ws rest : List V) (h1 : ws.length = n) (h2 : rest.length ≤ sizeLine) (h : NewK (.tup rest) H fun p H1 => sp (ws ++ [V.ref p]) H1 Q E) : starSp n sp (ws ++ rest) H Q E := ⟨ws, rest, rfl, h1, h2, h⟩
theorem nox_of {X : Cx} {b : List Stmt} {D : Ends} {σ : L2.St} {H : Hp} (h : ∃ t, PSs X.nox b t ∧ t D σ H) : ∃ t, PSs X b t ∧ t D σ H := by
  obtain ⟨t, h1, h2⟩ := h
  exact ⟨t, h1.nox, h2⟩
/-- list(x) -/
def ListOfK (K : PySem.W.Frag) (p : Addr) (H : Hp) (G : Addr → Hp → Prop) : Prop := ∃ xs, (SqL K H p xs ∨ SqT K H p xs) ∧ NewK (.lst xs) H G
def rListOf (K : PySem.W.Frag) : List V → Hp → VK → Prop := fun xs H Q => ∃ p, xs = [.ref p] ∧ ListOfK K p H fun l H1 => Q (.ref l) H1
theorem cr_listOf {X : Cx} : CallR X (.type "list") (rListOf X.K) := CallR.as call_list_of fun _ _ _ ⟨p, e, ys, h, q⟩ => ⟨p, ys, e, h, q⟩
theorem x_listOf {K : PySem.W.Frag} {p : Addr} {H : Hp} {Q : VK} : rListOf K [.ref p] H Q ↔ ListOfK K p H fun l H1 => Q (.ref l) H1 := ⟨fun ⟨_, e, q⟩ => by cases e; exact q, fun q => ⟨p, rfl, q⟩⟩
/-! ### len(o), o of an own class with __len__ -/
def rLenO (C : Addr) (sp : Sp) : List V → Hp → VK → Prop := fun xs H Q => ∃ a, xs = [.ref a] ∧ PropK a C H (sp [.ref a] H (fun v H' => ∃ n : Nat, v = .int (n : Int) ∧ n < 2 ^ 62 ∧ Q (.int (n : Int)) H') E0)
theorem cr_lenO {X : Cx} {k : Nat} {C f : Addr} {fd : FuncData} {sp : Sp} (F : FnOk X.prog X.w X.K X.mg X.base CX0 k f fd ["self"] sp) (hr : Room (k + 1) X.A) (hb : Binds X.K fd ["self"] [])
    (hf : PySem.W.findIn X.K (.ref C) "__len__" = some (some (.ref f))) (ht : PySem.W.typeIn X.K (.ref f) = some (.type "function")) : CallR X (.builtin "len") (rLenO C sp) := by
  intro pins s σ H xs us Q I rv h
  obtain ⟨a, rfl, dx, fs, ha, hsp⟩ := h
  obtain ⟨u, rfl, ru⟩ := vals1 rv
  obtain rfl : u = Value.ref a := ru
  obtain ⟨mA, O, _⟩ := ins_get I.hok ha
  obtain ⟨od, J, _⟩ := O.look
  have sp1 : PySem.W.Looks (model X.prog X.w) s.heap (specialOf (.ref a) "__len__") (some (.ref f)) := J.type.andThen (PySem.W.looks_findIn I.kIn hf)
  refine Calls.call_function_entry kind_len plain_len entry_len (args_len1 _) ?_
  unfold Builtin.«len»
  refine wpAny_bind (m := oneArg "len" _) (wpAny_pure ?_)
  refine wpAny_bind (m := callSpecial? (.ref a) (PySem.Str.ofString "__len__")) ?_
  unfold callSpecial?
  refine wpAny_bind (sp1.here ?_)
  refine wpAny_holding (wpAny_bind ((PySem.W.bind_fn I.kIn (.ref a) ht).here (wpAny_bind ?_)))
  have hl : [Value.ref a].length = (["self"] : List Str).length := rfl
  have e1 := I.env0.in1
  refine wpAny_call (codeAny_mono (F.run X.A.in1 X.stack s H ⟨[.ref a], []⟩ [.ref a] [.ref a] _ E0 hr.in1 e1 (by simpa using hb s [.ref a] I.kIn (by simpa using hl)) (.cons rfl .nil) hsp) fun r s' hq => ?_)
  cases r with
  | error er => exact False.elim hq
  | ok fl =>
    cases fl with
    | ret w =>
      obtain ⟨z, H', I', rz, n, ez, hn, q⟩ := I.after hq
      subst ez
      obtain ⟨t, rfl⟩ := rz
      refine wpAny_pure ?_
      refine wpAny_bind (wpAny_holding (wpAny_pure ?_))
      refine wpAny_bind (wpAny_letGo ?_)
      show wpAny _ _ (if ((n : Nat) : Int) < 0 then _ else _) _ _ _
      rw [if_neg (by omega)]
      show wpAny _ _ (if ((n : Nat) : Int) ≥ 2 ^ 63 then _ else _) _ _ _
      rw [if_neg (by omega)]
      exact wpAny_bind (wpAny_mkInt (wpAny_pure ⟨_, rfl, ⟨.int (n : Int), H', I'.tok _, ⟨_, rfl⟩, q⟩⟩))
    | next => exact False.elim hq
    | brk => exact False.elim hq
    | cont => exact False.elim hq
theorem x_lenO {C a : Addr} {sp : Sp} {H : Hp} {Q : VK} : rLenO C sp [.ref a] H Q ↔ PropK a C H (sp [.ref a] H (fun v H' => ∃ n : Nat, v = .int (n : Int) ∧ n < 2 ^ 62 ∧ Q (.int (n : Int)) H') E0) := ⟨fun ⟨_, e, q⟩ => by cases e; exact q, fun q => ⟨a, rfl, q⟩⟩
end Vg


set_option Elab.async false
set_option linter.all false
set_option maxRecDepth 100000
set_option maxHeartbeats 2000000
namespace Vg
open PySem PySem.Spec PyProof.Rows L2

/-! ### what a call lets out -/
theorem passT {X : Cx} {W : WX} {E : XK} (tk : Takes X W) (h : ∀ cls d σ H, E cls d H → W cls d σ H) : Passes (L2.CX X.prog X.w) X E := fun _ σ _ _ _ _ I c => tk _ _ (XE.of_call I (fun cls d H' z => h cls d σ H' z) c)
theorem passLA {X : Cx} {σ : L2.St} : PassesAt (L2.CX X.prog X.w) X σ E0 := fun _ _ _ _ _ _ c => by
  obtain ⟨_, _, _, _, _, _, _, _, _, _, _, _, z⟩ := c
  exact z.elim
/-- o.m() by a positional promise -/
theorem pe_methR0 {X : Cx} {CX : CXT} {k : Nat} {C f : Addr} {m : Str} {sp : Sp} {E : XK} {o : Expr} {ta : TE} {apos pos : Pos} {pl : Sem Bool} (ho : PE X o ta) (c : Cls X.K C) (hm : Meth X.K C m f)
    (F : FnR X.prog X.w X.K X.mg X.base CX k f sp) (r : Room k X.A) (hx : Passes CX X E)
    (ht : eval (.Call (.Attribute o m apos) [] [] pos) X.env = (do
      let ov ← eval o X.env
      standAt apos.atName
      let (f, first) ← holding [ov] (getMethod ov m pl)
      callWith pos f first (backTo pos (starEach [] X.env)) (backToKw pos (keywordEach [] X.env))) := by rfl) :
    PE X (.Call (.Attribute o m apos) [] [] pos) (tMethR C m sp E ta tNil) := by
  refine ⟨fun pins s σ H Q I h => ?_⟩
  refine PySem.W.methodCall_KW (pl := pl) (thn (ho.run pins s σ H _ I h) ?_) ht
  rintro u s1 ⟨y, H1, J, ry, a, dx, fs, ey, ea, l, q⟩
  subst ey
  obtain rfl : u = Value.ref a := ry
  exact getmeth_ok J ea c hm l (PySem.W.callWith_K0 (first := [.ref a]) J.kIn hm.kp (wpAny_call (run_fnR (us := [.ref a]) (vs := [.ref a]) F r hx J (.cons rfl .nil) q)))
/-! ### caught -/
theorem wAs.of {K : PySem.W.Frag} {C c : Addr} {i : Nat} {ts : Addr → Value → Option Addr → TS} {Wout : WX} {D : Ends} {dd : Option Addr} {σ : L2.St} {H : Hp} (e : PySem.W.exmOne K (.ref C) (.ref c) = some true)
    (h : ∀ a, H a = none → ts a (.ref C) dd { nx := fun σ' H' => D.nx (σ'.set i none) H', rt := D.rt, bk := fun σ' H' => D.bk (σ'.set i none) H', ct := fun σ' H' => D.ct (σ'.set i none) H' } (σ.set i (some (.ref a))) H) : wAs K (.ref c) i ts Wout D (.ref C) dd σ H :=
  ⟨true, e, fun _ a ha => h a ha, fun z => Bool.noConfusion z⟩
theorem exm_up {K : PySem.W.Frag} {C D : Addr} (h1 : PySem.W.subIn K (.ref D) (.type "BaseException") = some true) (h2 : PySem.W.hasDictIn K D = true) (h3 : PySem.W.typeIn K (.ref D) = some (.type "type")) (h4 : PySem.W.subIn K (.ref C) (.ref D) = some true) : PySem.W.exmOne K (.ref C) (.ref D) = some true := PySem.W.exm_ref h1 h2 h3 h4
theorem s_par3 {i j k : Nat} {al : TA} {D : Ends} {σ : L2.St} {H : Hp} : tPar3 i j k al D σ H = al σ H fun vs H1 => ∃ u v w, vs = [u, v, w] ∧ D.nx (((σ.set i (some u)).set j (some v)).set k (some w)) H1 := propext ⟨fun h => h, fun h => h⟩
/-! ### constants of a class -/
structure ICon (K : PySem.W.Frag) (C : Addr) (f : Str) (u : Value) : Prop where
  ic : PySem.W.isClsIn K C = true
  pg : PySem.W.plainGet K C Str.empty = true
  fd : PySem.W.findIn K (.ref C) f = some (some u)
  sp : PySem.W.specialIn K u "__get__" = some none
  cp : PySem.W.copiedNames.contains f = false
  hi : PySem.W.handedIn u = true
theorem find_icon {K : PySem.W.Frag} {C : Addr} {f : Str} {u : Value} {od : Obj} (k : ICon K C f u) (hl : PySem.W.lookIn f od = some none) : PySem.W.findObj K C (some od) f = some (.value u) := by
  obtain ⟨cd, hcd⟩ := Option.isSome_iff_exists.mp (show (PySem.W.clsIn K C).isSome = true from k.ic)
  have own0 : PySem.W.ownOf cd (some od) f = some none := by
    unfold PySem.W.ownOf
    split
    · exact hl
    · rfl
  unfold PySem.W.findObj
  rw [hcd, Option.bind_some, k.fd, Option.bind_some]
  simp only [k.sp, Option.bind_some, own0, k.cp, Bool.false_and, Bool.false_eq_true, if_false, k.hi, if_true]
/-- o.f, a constant number of o's class -/
def tIcon (C : Addr) (f : Str) (i : Int) (ta : TE) : TE := fun σ H Q => ta σ H fun x H1 => ∃ a dx fs, x = .ref a ∧ H1 a = some (.ins C dx fs) ∧ fs.lookup f = none ∧ Q (.int i) H1
theorem pe_icon {X : Cx} {C : Addr} {f : Str} {i : Int} {e : Expr} {ta : TE} {pos : Pos} (he : PE X e ta) (k : ∃ t, ICon X.K C f (.int i t)) (hb : attributeBase e f X.env (eval e X.env) = eval e X.env := by rfl) : PE X (.Attribute e f pos) (tIcon C f i ta) := by
  obtain ⟨t, k⟩ := k
  refine ⟨fun pins s σ H Q I h => ?_⟩
  refine attr_of hb (thn (he.run pins s σ H _ I h) ?_)
  rintro u s1 ⟨y, H1, J, ry, a, dx, fs, ey, ea, l, q⟩
  subst ey
  obtain rfl : u = Value.ref a := ry
  obtain ⟨mA, O, rr, _⟩ := ins_get J.hok ea
  obtain ⟨od, I2, hl⟩ := O.look
  have hn : mA f = none := RelO.none_of (by rw [← l]; exact rr f)
  exact PySem.W.get_value J.kIn I2 (PySem.W.plainGet_of k.pg).1 (find_icon k (by rw [hl f, hn])) k.hi ⟨.int i, H1, J.tok _, ⟨t, rfl⟩, q⟩
theorem e_icon {C : Addr} {f : Str} {i : Int} {ta : TE} {σ : L2.St} {H : Hp} {Q : VK} : tIcon C f i ta σ H Q ↔ ta σ H fun x H1 => ∃ a, x = .ref a ∧ MtK a C f H1 (Q (.int i) H1) :=
  Iff.of_eq (congrArg (ta σ H) (funext fun x => funext fun H1 => propext ⟨fun ⟨a, dx, fs, e, r⟩ => ⟨a, e, dx, fs, r⟩, fun ⟨a, e, dx, fs, r⟩ => ⟨a, dx, fs, e, r⟩⟩))
def CValK (K : PySem.W.Frag) (C : Addr) (f : Str) (G : V → Prop) : Prop := ∃ mc v u, ClX.CRead K C mc ∧ ClX.CVal K C mc f v u ∧ G v
theorem e_cval {K : PySem.W.Frag} {f : Str} {ta : TE} {σ : L2.St} {H : Hp} {Q : VK} : ClX.tCVal K ta f σ H Q ↔ ta σ H fun x H1 => ∃ a, x = .ref a ∧ CValK K a f fun v => Q v H1 :=
  Iff.of_eq (congrArg (ta σ H) (funext fun x => funext fun H1 => propext ⟨fun ⟨a, mc, v, u, e, r⟩ => ⟨a, e, mc, v, u, r⟩, fun ⟨a, e, mc, v, u, r⟩ => ⟨a, mc, v, u, e, r⟩⟩))
theorem CValK.of {K : PySem.W.Frag} {C : Addr} {f : Str} {i : Int} {G : V → Prop} (r : ClX.CRead K C (.type "type")) (c : ∃ t, ClX.CVal K C (.type "type") f (.int i) (.int i t)) (g : G (.int i)) : CValK K C f G := let ⟨t, c⟩ := c; ⟨_, _, _, r, c, g⟩
/-! ### f-strings -/
def FmtK (x : V) (G : Str → Prop) : Prop := (∃ y : Str, x = .str y ∧ y.length ≤ sizeLine ∧ G y) ∨ ∃ i : Int, x = .int i ∧ i.natAbs.log2 < 1920 ∧ G (toString i)
theorem e_fmt {te : TE} {σ : L2.St} {H : Hp} {Q : VK} : tFmt te σ H Q = te σ H fun x H1 => FmtK x fun t => Q (.str t) H1 := propext ⟨fun h => h, fun h => h⟩
theorem FmtK.int {i : Int} {G : Str → Prop} (h : i.natAbs < 2 ^ 1900) (g : G (toString i)) : FmtK (.int i) G := Or.inr ⟨i, rfl, by
  by_cases z : i.natAbs = 0
  · rw [z]; decide
  · exact Nat.lt_of_lt_of_le ((Nat.log2_lt z).mpr h) (by decide), g⟩
def JoK (acc : Str) (x : V) (G : Str → Prop) : Prop := ∃ y : Str, x = .str y ∧ (acc ++ y).length ≤ sizeLine ∧ G (acc ++ y)
theorem e_jo {ts : List TE} {te : TE} {acc : Str} {σ : L2.St} {H : Hp} {Q : Str → Hp → Prop} : tJs (te :: ts) acc σ H Q = te σ H fun x H1 => JoK acc x fun t => tJs ts t σ H1 Q := propext ⟨fun h => h, fun h => h⟩
theorem e_jo0 {acc : Str} {σ : L2.St} {H : Hp} {Q : Str → Hp → Prop} : tJs [] acc σ H Q = Q acc H := propext ⟨fun h => h, fun h => h⟩
theorem JoK.of {acc y : Str} {G : Str → Prop} (h : acc.length + y.length ≤ 100000) (g : G (acc ++ y)) : JoK acc (.str y) G := ⟨y, rfl, Nat.le_trans (by rw [strLen_append]; exact h) (by decide), g⟩
end Vg


set_option Elab.async false
set_option linter.all false
set_option maxRecDepth 100000
set_option maxHeartbeats 2000000
namespace Vg
open PySem PySem.Spec PyProof.Rows L2

/-! ### an exception that is kept behind its except suite -/
def ErO (cls : Value) (d : Option Addr) (a : Addr) : HO := .ext fun h => ∃ (oe : Obj) (vs : Array Value), h.get? a = some oe ∧ Zc cls d oe ∧ oe.data = .fields vs
section
variable {X : Cx} {pins : List (Addr × Obj)} {σ : L2.St} {H : Hp} {s : Shared}
theorem Inv.adopt {a : Addr} {oe : Obj} {vs : Array Value} {cls : Value} {d : Option Addr} (J : Inv X pins σ H s) (g : s.heap.get? a = some oe) (z : Zc cls d oe) (hd : oe.data = .fields vs) (na : H a = none) (n0 : X.s_0.heap.get? a = none)
    (nL : a ≠ X.env.locals) (np : ∀ p ∈ X.pn ++ pins, p.1 ≠ a) : Inv X pins σ (upd H a (ErO cls d a)) s := by
  have un1 : Un X.fs X.ex H (upd H a (ErO cls d a)) X.s_0.heap X.s_0.heap := ⟨fun _ _ h _ _ _ => h, fun _ o h _ _ _ => ⟨o.slots, h⟩, fun b o h n _ => by rw [upd_ne (fun e => by rw [e, n0] at h; cases h)]; exact n, fun _ o h _ => ⟨o, h⟩,
    fun b xs h => by rw [upd_ne (fun e => by rw [e, na] at h; cases h)]; exact h, fun b o u h => by rw [upd_ne (fun e => by rw [e, na] at h; cases h)]; exact h, fun b ps h => ⟨#[], by rw [upd_ne (fun e => by rw [e, na] at h; cases h), h]; simp⟩⟩
  have cel : ∀ x c, X.env.cells.lookup x = some c → c ≠ a := fun x c hc e => by
    obtain ⟨v, o, ho, hv⟩ := J.cell x c hc
    rw [e, g] at ho
    cases ho
    rw [hd] at hv
    cases hv
  refine ⟨J.ok, J.os, J.bare, ⟨J.base.keep, J.base.slot, fun b o h n hx => ?_, J.base.there, fun b xs h => ?_, fun b o u h => ?_, fun b ps h => ?_⟩, J.loc, J.cell, ?_, fun x c hc => ?_, fun p hp => ?_, fun b u e => ?_, J.len⟩
  · rw [upd_ne (fun e => by rw [e, n0] at h; cases h)]
    exact J.base.free b o h n hx
  · have h2 := J.base.tups b xs h
    rw [upd_ne (fun e => by rw [e, na] at h2; cases h2)]
    exact h2
  · have h2 := J.base.frzs b o u h
    rw [upd_ne (fun e => by rw [e, na] at h2; cases h2)]
    exact h2
  · obtain ⟨more, h2⟩ := J.base.tbls b ps h
    exact ⟨more, by rw [upd_ne (fun e => by rw [e, na] at h2; cases h2)]; exact h2⟩
  · rw [upd_ne nL.symm]
    exact J.free
  · rw [upd_ne (cel x c hc)]
    exact J.freeC x c hc
  · obtain ⟨p1, p2, p3⟩ := J.pin p hp
    exact ⟨p1, by rw [upd_ne (np p hp)]; exact p2, p3⟩
  · by_cases hb : b = a
    · subst hb
      rw [upd_same] at e
      cases e
      exact ⟨⟨oe, vs, g, z, hd⟩, ⟨oe, g⟩, fun h1 h2 ⟨o, w, k1, k2⟩ hk => ⟨o, w, hk o k1, k2⟩⟩
    · rw [upd_ne hb] at e
      exact (J.hok b u e).stay (fun _ _ _ h => h) (fun c h => by rw [upd_ne (fun e => by rw [e, na] at h; cases h)]; exact h) fun c xs h => by rw [upd_ne (fun e => by rw [e, na] at h; cases h)]; exact h
end
/-- what the clause wishes: behind the suite the exception at a is tracked -/
def wKeep (K : PySem.W.Frag) (c : Value) (i : Nat) (ts : Addr → Value → Option Addr → TS) (Wo : WX) (D : Ends) : WX := fun cls d σ H =>
  ∃ b, PySem.W.exmOne K cls c = some b ∧ (b = true → ∀ a, H a = none → ts a cls d { nx := fun τ G => D.nx (τ.set i none) (upd G a (ErO cls d a)), rt := fun v G => D.rt v (upd G a (ErO cls d a)), bk := fun τ G => D.bk (τ.set i none) (upd G a (ErO cls d a)), ct := fun τ G => D.ct (τ.set i none) (upd G a (ErO cls d a)) } (σ.set i (some (.ref a))) H) ∧
    (b = false → Wo cls d σ H)
section
variable {X : Cx} {x n : Str} {c : Value} {i : Nat} {body more : List Stmt} {b1 : Stmt} {np p1 p2 : Pos} {tb : WX → TS} {ts : Addr → Value → Option Addr → TS} {Wo : WX}
theorem ps_try_keep (hst : X.stack = X.env :: X.outer) (hfr : X.env.frame = some X.env.locals) (nd : X.N.Nodup) (ni : X.N[i]? = some n) (nl : X.env.kindOf n = some .local) (hc : Names X x c) (hex : X.ex = []) (out : Takes X Wo)
    (hb : ∀ (W : WX) (pn : List (Addr × Obj)) (xe : Value → Shared → Prop), Takes (X.tr pn xe) W → PassesOwn (model X.prog X.w) X.A X.env xe → PSs (X.tr pn xe) body (tb W))
    (hs : ∀ (a : Addr) (oe : Obj) (cls : Value) (d : Option Addr) (pn : List (Addr × Obj)), Zc cls d oe → (∃ vs, oe.data = .fields vs) → PSs (X.suite a ((a, oe) :: pn)) (b1 :: more) (ts a cls d)) :
    PS X (.Try body [.ExceptHandler (some (.Name x np)) (some n) (b1 :: more) p2] [] [] p1) (fun D σ H => tb (wKeep X.K c i ts Wo D) D σ H) := by
  refine ⟨fun pins s σ H D J0 h0 => ?_⟩
  have ok := J0.ok
  have fr2 : X.A.frames = some (X.env :: X.outer) := ok.frames.trans (congrArg some hst)
  have loc : Loc X.env.scope n := .inl nl
  let xh : Value → Shared → Prop := fun e t1 => wpAny (model X.prog X.w) X.A (noteFrame e X.env) (fun _ t2 => wpAny (model X.prog X.w) X.A (setFlight e none) (fun _ t3 => wpAny (model X.prog X.w) X.A (handleBy e X.env [.ExceptHandler (some (.Name x np)) (some n) (b1 :: more) p2]) (SP X pins D) X.xe t3) X.xe t2) X.xe t1
  have catch_ : Takes (X.tr (X.pn ++ pins) xh) (wKeep X.K c i ts Wo D) := by
    rintro u t ⟨a, G, t0, pins', τ, H1, cls, d, rfl, J', nb, up, sky, na, os, ag, b, hb1, yes, no⟩
    have J : Inv X pins τ H1 t0 := J'.ofTry ok
    have sky2 : Sky G (X.env :: X.outer) a (Zc cls d) X.env.locals t.heap := hst ▸ sky
    show wpAny _ _ (noteFrame (.ref a) X.env) _ _ t
    refine Sky.land Zc.steady fr2 hfr sky2 fun h3 fl3 up3 => ?_
    have J3 : Inv X pins τ H1 { t with heap := h3 } := J.landed nb fl3.1 (up.trans up3) os ag
    obtain ⟨oe3, vs3, he3, hz3, hd3⟩ := fl3.there
    have aF : a ∉ frs (X.env :: X.outer) := fun hm => by
      obtain ⟨_, o', e', hn⟩ := fl3.2.2.1.mem hm
      rw [he3] at e'
      cases e'
      exact hn _ hd3
    have aL : a ≠ X.env.locals := fun e => aF (List.mem_filterMap.mpr ⟨X.env, List.mem_cons_self, by rw [hfr, e]⟩)
    have aO : a ∉ X.fs := fun hm => by
      obtain ⟨e, he, q⟩ := List.mem_filterMap.mp hm
      exact aF (List.mem_filterMap.mpr ⟨e, List.mem_cons_of_mem _ he, q⟩)
    have a0 : t0.heap.get? a = none := by
      cases e : t0.heap.get? a with
      | none => rfl
      | some o =>
        have k := nb a o e (by rw [hst]; exact aF)
        rw [fl3.2.1] at k
        cases k
    have a1 : X.s_0.heap.get? a = none := by
      cases e : X.s_0.heap.get? a with
      | none => rfl
      | some o =>
        obtain ⟨o', k⟩ := J.base.there a o e (fun hx => by rw [hex] at hx; cases hx)
        rw [a0] at k
        cases k
    have aP : ∀ p ∈ X.pn ++ pins, p.1 ≠ a := fun p hp e => by
      have k := (J.pin p hp).1
      rw [e, a0] at k
      cases k
    have S3 := J3.suite he3 hd3 na aL aO
    refine wpAny_handleBy_cons (codeAny_handlers_test ?_) (by intro q; cases q)
    have l1 : PySem.W.Looks (model X.prog X.w) h3 (typeOf (.ref a)) cls := fun A Q E s k q => wpAny_typeOf_ref (k _ _ he3) (by rw [hz3.1]; exact q)
    have l2 := PySem.W.exm_one (M := model X.prog X.w) J3.kIn l1 hb1
    have tst : ∀ {Q : Value → Shared → Prop} {E : Value → Shared → Prop}, Q c { t with heap := h3 } → wpAny (model X.prog X.w) (X.A.mark (some (.ref a))) (eval (.Name x np) X.env) Q E { t with heap := h3 } := by
      intro Q E q
      obtain ⟨g1, g2, m1 | ⟨m1, m2, m3⟩⟩ := hc
      · exact ld_glob (X := X.suite a ((a, oe3) :: (X.pn ++ pins))) S3 g1 m1 q g2
      · exact ld_blt (X := X.suite a ((a, oe3) :: (X.pn ++ pins))) S3 g1 m1 m2 q m3 g2
    refine tst (l2.here ?_)
    cases b with
    | true =>
      refine codeAny_handlers_suite_as (HandSPX.lands_againZ fl3 fun h4 fl4 up4 => ?_)
      have J4 : Inv X pins τ H1 { t with heap := h4 } := J.landed nb fl4.1 ((up.trans up3).trans up4) os ag
      obtain ⟨oe4, vs4, he4, hz4, hd4⟩ := fl4.there
      have S4 := J4.suite he4 hd4 na aL aO
      refine store_ok (X := X.suite a ((a, oe4) :: (X.pn ++ pins))) (v := .ref a) S4 nd ni loc rfl (fun s5 S5 => ?_) (.inr nl)
      refine wpAny_mono ((hs a oe4 cls d (X.pn ++ pins) hz4 ⟨_, hd4⟩).run [] s5 _ H1 _ S5 (yes rfl a na)) (fun fl s6 q6 => ?_) (fun _ _ z => z.elim)
      have last : ∀ {τ6 : L2.St} {H6 : Hp} {Q : Shared → Prop}, Inv (X.suite a ((a, oe4) :: (X.pn ++ pins))) [] τ6 H6 s6 → (∀ s7, Inv X pins (τ6.set i none) (upd H6 a (ErO cls d a)) s7 → Q s7) →
          wpAny (model X.prog X.w) X.A (do bindName X.env n .none; unbindBehindTheSuite X.env n p2) (fun _ s7 => Q s7) X.xe s6 := by
        intro τ6 H6 Q S6 hq
        obtain ⟨k1, k2, _⟩ := S6.pin (a, oe4) (by simp)
        exact gone_ok (Inv.adopt (S6.unsuite ok) k1 hz4 hd4 k2 a1 aL aP) nd ni nl hq
      cases fl with
      | next => obtain ⟨τ6, H6, S6, q⟩ := q6; exact last S6 fun s7 J7 => ⟨_, _, J7, q⟩
      | brk => obtain ⟨τ6, H6, S6, q⟩ := q6; exact last S6 fun s7 J7 => ⟨_, _, J7, q⟩
      | cont => obtain ⟨τ6, H6, S6, q⟩ := q6; exact last S6 fun s7 J7 => ⟨_, _, J7, q⟩
      | ret w => obtain ⟨v6, τ6, H6, S6, r6, q⟩ := q6; exact last S6 fun s7 J7 => ⟨_, _, _, J7, r6, q⟩
    | false =>
      refine wpAny_handleBy_nil ?_
      obtain ⟨_, _, _, oe, vs, T, oT, ts', he, hz, hd, h1, hr⟩ := id fl3
      unfold PySem.passOn
      refine wpAny_bind (wpAny_field he hd h1 ?_)
      rw [if_neg (show ¬ ((Value.ref T == Value.none) = true) from by simp)]
      have fly : wpAny (model X.prog X.w) X.A (setFlight (.ref a) X.env.frame) (fun _ t4 => wpAny (model X.prog X.w) X.A (throw (.ref a) : Sem Flow) (SP X pins D) X.xe t4) X.xe { t with heap := h3 } := by
        rw [hfr]
        exact HandSPX.setFlight_upZ fl3 fun h4 hh4 up4 => wpAny_throw (out _ _ ⟨a, G, t0, pins, τ, H1, cls, d, rfl, J, nb, (up.trans up3).trans up4, .inr (.inr (hst ▸ hh4)), na, os, ag, no rfl⟩)
      first
        | exact wpAny_bind (wpAny_pure (wpAny_bind fly))
        | exact wpAny_bind fly
  refine wpAny_Try_except (wpAny_mono ((hb (wKeep X.K c i ts Wo D) (X.pn ++ pins) xh catch_ PassesOwn.looking).run [] s σ H D (J0.toTry _) h0) (fun fl s1 q1 => ?_) (fun e s1 he => he))
  cases fl with
  | next => obtain ⟨τ, H1, J1, q⟩ := q1; exact wpAny_execs_nil ⟨τ, H1, J1.ofTry ok, q⟩
  | brk => obtain ⟨τ, H1, J1, q⟩ := q1; exact ⟨τ, H1, J1.ofTry ok, q⟩
  | cont => obtain ⟨τ, H1, J1, q⟩ := q1; exact ⟨τ, H1, J1.ofTry ok, q⟩
  | ret u => obtain ⟨v, τ, H1, J1, r, q⟩ := q1; exact ⟨v, τ, H1, J1.ofTry ok, r, q⟩
end
theorem wKeep.of {K : PySem.W.Frag} {C c : Addr} {i : Nat} {ts : Addr → Value → Option Addr → TS} {Wo : WX} {D : Ends} {dd : Option Addr} {σ : L2.St} {H : Hp} (e : PySem.W.exmOne K (.ref C) (.ref c) = some true)
    (h : ∀ a, H a = none → ts a (.ref C) dd { nx := fun τ G => D.nx (τ.set i none) (upd G a (ErO (.ref C) dd a)), rt := fun v G => D.rt v (upd G a (ErO (.ref C) dd a)), bk := fun τ G => D.bk (τ.set i none) (upd G a (ErO (.ref C) dd a)), ct := fun τ G => D.ct (τ.set i none) (upd G a (ErO (.ref C) dd a)) } (σ.set i (some (.ref a))) H) : wKeep K (.ref c) i ts Wo D (.ref C) dd σ H :=
  ⟨true, e, fun _ a ha => h a ha, fun z => Bool.noConfusion z⟩
/-! ### a list unpacked -/
def UnlK (K : PySem.W.Frag) (p : Addr) (n : Nat) (H : Hp) (G : List V → Prop) : Prop := ∃ xs, SqL K H p xs ∧ xs.length = n ∧ G xs
theorem g_unl {K : PySem.W.Frag} {n : Nat} {gs : TGs} {a : Addr} {σ : L2.St} {H : Hp} {N : L2.St → Hp → Prop} : gUnl K n gs (.ref a) σ H N ↔ UnlK K a n H fun xs => gs xs σ H N := ⟨fun ⟨_, xs, e, h, z, q⟩ => by cases e; exact ⟨xs, h, z, q⟩, fun ⟨xs, h, z, q⟩ => ⟨a, xs, rfl, h, z, q⟩⟩
theorem UnlK.of {K : PySem.W.Frag} {p : Addr} {n : Nat} {H : Hp} {xs : List V} {G : List V → Prop} (h : SqL K H p xs) (e : xs.length = n) (g : G xs) : UnlK K p n H G := ⟨xs, h, e, g⟩
/-! ### classmethods; a class in a local name -/
theorem fnR_of {P : Program} {w : World} {K : PySem.W.Frag} {mg : Str → Option Value} {bs : Heap} {C : CXT} {k : Nat} {f : Addr} {fd : FuncData} {ps : List Str} {sp : Sp} (F : FnOk P w K mg bs C k f fd ps sp) (b : Binds K fd ps []) : FnR P w K mg bs C k f sp := fun A fr s H us vs Q E r e0 v q => by
  have hl : (us ++ []).length = ps.length := by rw [List.append_nil, ← v.length]; exact F.len _ _ _ _ q
  have kx : K.In s.heap := e0.mod.kin.keeps fun c o z => (e0.bs c o z).1
  have h := b s us kx hl
  rw [List.append_nil] at h
  exact F.run A fr s H ⟨us, []⟩ us vs Q E r e0 h v q
theorem e_cmeth {C : Addr} {sp : Sp} {E : XK} {ta : TE} {t : TA} {σ : L2.St} {H : Hp} {Q : VK} : ClX.tCMeth C sp E ta t σ H Q = ta σ H fun x H1 => x = .ref C ∧ t σ H1 fun vs H2 => sp (.ref C :: vs) H2 Q E := propext ⟨fun h => h, fun h => h⟩
def tMakeV (i : Nat) (C : Addr) (sp : Sp) (E : XK) (t : TA) : TE := fun σ H Q => σ[i]? = some (some (.ref C)) ∧ t σ H fun vs H1 => MkK C H1 fun x H2 => sp (.ref x :: vs) H2 (fun v H3 => v = .non ∧ Q (.ref x) H3) E
theorem e_makeV {i : Nat} {C : Addr} {sp : Sp} {E : XK} {t : TA} {σ : L2.St} {H : Hp} {Q : VK} : tMakeV i C sp E t σ H Q = (σ[i]? = some (some (.ref C)) ∧ t σ H fun vs H1 => MkK C H1 fun x H2 => sp (.ref x :: vs) H2 (fun v H3 => v = .non ∧ Q (.ref x) H3) E) := propext ⟨fun h => h, fun h => h⟩
theorem pe_makeV {X : Cx} {CX : CXT} {k i : Nat} {C f : Addr} {fd : FuncData} {ps : List Str} {sp : Sp} {E : XK} {x : Str} {e : Expr} {es : List Expr} {t : TA} {p pos : Pos} (M : Mk X.K C f) (F : FnOk X.prog X.w X.K X.mg X.base CX k f fd ps sp) (r : Room (k + 1) X.A) (b : Binds X.K fd ps []) (hx : Passes CX X E)
    (hN : X.N[i]? = some x) (hv : Vis X.env.scope x) (ha : PA X (e :: es) t) (h1 : (x == ("__debug__" : Str)) = false := by decide) (h2 : (x == ("__classdict__" : Str)) = false := by decide)
    (he : starEach (e :: es) X.env = (false, eval e X.env) :: starEach es X.env := by rfl) (hp : (backTo pos (starEach es X.env)).any (·.1) = false := by rfl) : PE X (.Call (.Name x p) (e :: es) [] pos) (tMakeV i C sp E t) := by
  refine ⟨fun pins s σ H Q J h => ?_⟩
  obtain ⟨hs, h⟩ := h
  refine wpAny_Call_Name_kw (thn ((pe_var (pos := p) (i := i) hN hv h1 h2).run pins s σ H (fun v H1 => v = .ref C ∧ H1 = H) J ⟨.ref C, hs, rfl, rfl⟩) ?_)
  rintro u s1 ⟨v, H1, J1, rv, rfl, rfl⟩
  cases rv
  refine PySem.W.callWith_K (h₀ := X.base) J.ok.mod.kin M.kp (thn (ha.run pos pins s1 σ _ _ J1 h) ?_) he hp
  rintro us s2 ⟨vs, H2, J2, rs, q⟩
  exact ⟨J2.kIn, run_make M F r b .nil hx J2 rs fun y dx n1 n2 n3 => by rw [List.append_nil]; exact q y dx n1 n2 n3⟩
/-! ### isinstance of a kept exception -/
def rIsX (K : PySem.W.Frag) : List V → Hp → VK → Prop := fun xs H Q => ∃ (D a : Addr) (c : V) (cv : Value) (b : Bool), xs = [.ref a, c] ∧ H a = some (ErO (.ref D) none a) ∧ ExcC K D ∧ (∀ u, RelV c u → u = cv) ∧ PySem.W.kitOne K (.ref D) cv = some b ∧ Q (.bl b) H
theorem cr_isX {X : Cx} : CallR X (.builtin "isinstance") (rIsX X.K) := by
  intro pins s σ H xs us Q J r h
  obtain ⟨D, a, c, cv, b, rfl, ha, C, hcv, e, q⟩ := h
  obtain ⟨⟨oe, vs, hg, hz, hd⟩, _, _⟩ := J.hok a _ ha
  cases r with
  | cons rx rr =>
    cases rr with
    | cons rt rr =>
      cases rr
      cases rx
      have ec := hcv _ rt
      subst ec
      have I2 : PySem.W.InstAt s.heap a oe D none := by
        obtain ⟨oc, od, oda, osl⟩ := oe
        obtain ⟨k1, k2⟩ := hz
        dsimp only at k1 k2 hd
        subst k1 k2 hd
        exact ⟨hg, rfl, rfl, trivial⟩
      exact PySem.W.kia_one (PySem.W.handS_kitx_exc C.hg C.hk C.hs C.hd C.ha C.hn C.ht C.hm) J.kIn I2 e (fun z => nomatch z) fun tk => ⟨.bl b, H, J.kept (t' := tk) fun _ _ z => z, rfl, q⟩
/-- of a class of the text, of a built-in one -/
def IsXK (K : PySem.W.Frag) (a : Addr) (c : Value) (H : Hp) (G : Bool → Prop) : Prop := ∃ D b, H a = some (ErO (.ref D) none a) ∧ ExcC K D ∧ PySem.W.kitOne K (.ref D) c = some b ∧ G b
theorem x_isX {K : PySem.W.Frag} {a C : Addr} {H : Hp} {Q : VK} : rIsX K [.ref a, .ref C] H Q ↔ IsXK K a (.ref C) H fun b => Q (.bl b) H :=
  ⟨fun ⟨D, a', c, cv, b, e, h1, h2, h3, h4, q⟩ => by cases e; have e2 := h3 (.ref C) rfl; subst e2; exact ⟨D, b, h1, h2, h4, q⟩, fun ⟨D, b, h1, h2, h4, q⟩ => ⟨D, a, _, _, b, rfl, h1, h2, fun _ z => z, h4, q⟩⟩
theorem x_isXT {K : PySem.W.Frag} {a : Addr} {T : String} {H : Hp} {Q : VK} : rIsX K [.ref a, .ty T] H Q ↔ IsXK K a (.type T) H fun b => Q (.bl b) H :=
  ⟨fun ⟨D, a', c, cv, b, e, h1, h2, h3, h4, q⟩ => by cases e; have e2 := h3 (.type T) rfl; subst e2; exact ⟨D, b, h1, h2, h4, q⟩, fun ⟨D, b, h1, h2, h4, q⟩ => ⟨D, a, _, _, b, rfl, h1, h2, fun _ z => z, h4, q⟩⟩
theorem IsXK.of {K : PySem.W.Frag} {D a : Addr} {c : Value} {b : Bool} {H : Hp} {G : Bool → Prop} (h : H a = some (ErO (.ref D) none a)) (C : ExcC K D) (k : PySem.W.kitOne K (.ref D) c = some b) (g : G b) : IsXK K a c H G := ⟨D, b, h, C, k, g⟩
/-! ### isinstance, worked out -/
theorem kit_sub {K : PySem.W.Frag} {C D : Addr} {b : Bool} (h0 : (Value.ref C == Value.ref D) = false) (h2 : PySem.W.hasDictIn K D = true) (h3 : PySem.W.typeIn K (.ref D) = some (.type "type")) (h4 : PySem.W.subIn K (.ref C) (.ref D) = some b) : PySem.W.kitOne K (.ref C) (.ref D) = some b := by
  unfold PySem.W.kitOne
  rw [if_neg (by rw [h0]; decide)]
  unfold PySem.W.kitCls
  dsimp only
  have hs : (PySem.W.clsIn K D).isSome = true := by
    unfold PySem.W.hasDictIn at h2
    cases e : PySem.W.clsIn K D with
    | none => rw [e] at h2; cases h2
    | some c => rfl
  rw [hs, h3, if_pos (by rfl)]
  exact h4
theorem kit_self {K : PySem.W.Frag} {C : Addr} : PySem.W.kitOne K (.ref C) (.ref C) = some true := by
  unfold PySem.W.kitOne
  rw [if_pos (by simp)]
theorem kit_blt {K : PySem.W.Frag} {C : Addr} {b : Bool} {T : String} (hm : PySem.W.kitMeta T = true) (h4 : PySem.W.subIn K (.ref C) (.type T) = some b) : PySem.W.kitOne K (.ref C) (.type T) = some b := by
  unfold PySem.W.kitOne
  rw [if_neg (show ¬ ((Value.ref C == Value.type T) = true) from by simp)]
  unfold PySem.W.kitCls
  dsimp only
  rw [if_pos hm]
  exact h4
end Vg


set_option Elab.async false
set_option linter.all false
set_option maxRecDepth 100000
namespace Vg
open PySem PySem.Spec PyProof.Rows L2
/-! ### sum of a tuple of two numbers -/
def rSumT (K : PySem.W.Frag) : List V → Hp → VK → Prop := fun vs H Q => ∃ (a : Addr) (i j : Int), vs = [.ref a] ∧ SqT K H a [.int i, .int j] ∧ Q (.int (i + j)) H
theorem sum_two (i j : Int) : PySem.W.Num.sumInts 0 [.int i, .int j] = some (.int (i + j)) := by
  have e : (0 : Int) + i + j = i + j := by omega
  unfold PySem.W.Num.sumInts
  split
  · unfold PySem.W.Num.sumInts
    split
    · unfold PySem.W.Num.sumInts; rw [e]
    · unfold PySem.W.Num.foldFrom; rw [e]
  · rw [← e]; rfl
theorem cr_sumT {X : Cx} (hc : X.calm = true) : CallR X (.builtin "sum") (rSumT X.K) := by
  intro pins s σ H vs us Q I r h
  obtain ⟨a, i, j, rfl, hs, q⟩ := h
  obtain ⟨its, rv, hl, _⟩ := I.tuple hs
  rw [Vals.ref1 r]
  cases rv with
  | cons r1 rr =>
    cases rr with
    | cons r2 rr =>
      cases rr
      obtain ⟨t1, rfl⟩ := r1
      obtain ⟨t2, rfl⟩ := r2
      refine PySem.Flt.call_sum_walkF (sum_two i j) (PySem.W.iter_tupleW (A := X.A.in1) (I.ok.hd hc) hl fun s₂ e W st hfp hw hk => ?_)
      refine ⟨_, _, _, _, _, _, rfl, W, st, hfp, fun k v hv => ?_, fun s' v hn m => ?_⟩
      · match k, hv with
        | 0, hv => cases hv; exact ⟨_, rfl, .int _ _⟩
        | 1, hv => cases hv; exact ⟨_, rfl, .int _ _⟩
      · obtain ⟨h', tk, rfl, hk'⟩ := PySem.W.moved_old e rfl m
        cases hn
        exact ⟨.int _, H, I.kept hk', ⟨_, rfl⟩, q⟩
end Vg


set_option Elab.async false
set_option linter.all false
set_option maxRecDepth 100000
set_option maxHeartbeats 2000000
namespace Vg
open PySem PySem.Spec PyProof.Rows L2
/-! ### == and != by an own __eq__ -/
inductive YTy (H : Hp) : V → Value → Prop
  | ins {a C dx : Addr} {fs : List (Str × V)} (h : H a = some (.ins C dx fs)) : YTy H (.ref a) (.ref C)
  | lst {a : Addr} {xs : List V} (h : H a = some (.lst xs)) : YTy H (.ref a) (.type "list")
  | str (z : Str) : YTy H (.str z) (.type "str")
theorem YTy.looks {X : Cx} {pins : List (Addr × Obj)} {σ : L2.St} {H : Hp} {s : Shared} {y : V} {u tb : Value} (I : Inv X pins σ H s) (r : RelV y u) (h : YTy H y tb) (M : Model) : PySem.W.Looks M s.heap (typeOf u) tb := by
  cases h with
  | ins h =>
    cases (show u = Value.ref _ from r)
    obtain ⟨mA, O, _⟩ := ins_get I.hok h
    obtain ⟨od, J, _⟩ := O.look
    exact J.type
  | lst h =>
    cases (show u = Value.ref _ from r)
    obtain ⟨_, _, n, _, h1⟩ := (show ObjOk X.prog X.w H s.heap _ (.lst _) from I.hok _ _ h)
    exact (PySem.W.Looks.ld h1).andThen .now
  | str z =>
    obtain ⟨t, q⟩ := (show ∃ t, u = Value.str z t from r)
    cases q
    exact PySem.W.Looks.of_pure rfl
structure EqC (K : PySem.W.Frag) (C f : Addr) : Prop where
  eq : PySem.W.findIn K (.ref C) "__eq__" = some (some (.ref f))
  fn : PySem.W.isFn K (.ref f) = true
  ne : PySem.W.findIn K (.ref C) "__ne__" = some (some (.builtin "object.__ne__"))
  hm : PySem.W.mroIn K C (.type "object") = some true
def rOEq (K : PySem.W.Frag) (C : Addr) (sp : Sp) : R2 := fun x y H Q => ∃ a dx fs tb, x = .ref a ∧ H a = some (.ins C dx fs) ∧ YTy H y tb ∧ PySem.W.notFirst K C tb = true ∧ sp [x, y] H Q E0
def rONe (K : PySem.W.Frag) (C : Addr) (sp : Sp) : R2 := fun x y H Q => ∃ a dx fs tb, x = .ref a ∧ H a = some (.ins C dx fs) ∧ YTy H y tb ∧ PySem.W.notFirst K C tb = true ∧ sp [x, y] H (fun v H' => ∃ b, v = .bl b ∧ Q (.bl (!b)) H') E0
theorem ifBound_ne {M : Model} {A : Around} {E : Value → Shared → Prop} {s : Shared} {K : PySem.W.Frag} {x C : Addr} {ox : Obj} {od : Option Obj} {args : List Value} {Q : Option Value → Shared → Prop} (X : K.In s.heap) (I : PySem.W.InstAt s.heap x ox C od) (hs : PySem.W.findIn K (.ref C) "__ne__" = some (some (.builtin "object.__ne__")))
    (h : wpAny M A (call (.builtin "object.__ne__") (.ref x :: args)) (fun v => Q (some v)) E s) : wpAny M A (callSpecialIfBound? (.ref x) "__ne__" args) Q E s := by
  simp only [callSpecialIfBound?, bindSpecialIfBound?]
  refine wpAny_holding (wpAny_bind (wpAny_bind (wpAny_bind (I.type.here ((PySem.W.looks_findIn X hs).here ?_)))))
  refine wpAny_bind (wpAny_askSetting (wpAny_ite ?_))
  have fin : wpAny M A (call (.builtin "object.__ne__") ([.ref x] ++ args) >>= fun v => pure (some v)) Q E s := wpAny_bind (wpAny_mono h (fun v s' h' => wpAny_pure h') fun _ _ h' => h')
  split
  · exact wpAny_bind (wpAny_of_eq (PySem.F.cmp_object.ne.bind _) (wpAny_pure (by exact fin)))
  · exact wpAny_tryCatch (wpAny_bind (wpAny_of_eq (PySem.F.cmp_object.ne.bind _) (wpAny_pure (by exact fin))))
theorem objNe_own {prog : Program} {w : World} {A : Around} {E : Value → Shared → Prop} {s : Shared} {K : PySem.W.Frag} {x C f : Addr} {ox : Obj} {od : Option Obj} {b : Value} {Q : Fin → Shared → Prop} (X : K.In s.heap) (I : PySem.W.InstAt s.heap x ox C od) (hc : EqC K C f) (hu : A.units < cLine)
    (h : wpAny (model prog w) A (call (.ref f) [.ref x, b]) (fun v s' => ∃ r, v = .bool r ∧ Q (.done (.ret (.bool (!r)))) s') E s) : wpAny (model prog w) A (Builtin.«object.__ne__» ⟨[.ref x, b], []⟩) Q E s := by
  unfold Builtin.«object.__ne__»
  repeat (first
    | with_reducible refine wpAny_cRoomFor hu ?_
    | (refine wpAny_bind (m := callSpecialIfBound? (.ref x) (Str.ofString "__eq__") [b])
        (PySem.W.ifBound_K X I hc.eq hc.fn (wpAny_mono h (fun r s' hr => by
          obtain ⟨b, rfl, hq⟩ := hr
          repeat (first | exact hq | exact wpAny_pure hq | exact wpAny_truthy_bool hq | (refine wpAny_bind (m := truthy (.bool _)) (wpAny_truthy_bool ?_)) | wp_step)) fun _ _ e => e)))
    | wp_step)
section
variable {X : Cx} {CX : CXT} {n : Nat} {C f : Addr} {sp : Sp}
theorem op_oeq (c : EqC X.K C f) (F : FnR X.prog X.w X.K X.mg X.base CX n f sp) (hr : Room (n + 1) X.A) (hx : Passes CX X E0) : OpR X (compareOp .Eq) (rOEq X.K C sp) := by
  intro pins s σ H x y v u Q I rx ry h
  obtain ⟨a, dx, fs, tb, rfl, ha, hy, hn, q⟩ := h
  cases (show v = Value.ref a from rx)
  obtain ⟨mA, O, _⟩ := ins_get I.hok ha
  obtain ⟨od, J, _⟩ := O.look
  obtain ⟨m, hF⟩ := I.fr
  show wpAny (model X.prog X.w) X.A (richCompare .Eq (.ref a) u) _ _ _
  refine PySem.W.cmp_K (op := .Eq) (tb := tb) hr.units0 hF I.ok.mod.kin J (hy.looks I ry _) hn c.eq c.fn ?_
  refine wpAny_mono (wpAny_call (run_fnR (us := [.ref a, u]) (vs := [.ref a, y]) F (hr.mono (Nat.le_succ n)) hx I (.cons rfl (.cons ry .nil)) q)) (fun w s' z => ?_) fun _ _ x => x
  obtain ⟨z', H', I', rz, qz⟩ := z
  exact SlX.cmpback rz ⟨z', H', I', rz, qz⟩
theorem op_one (c : EqC X.K C f) (F : FnR X.prog X.w X.K X.mg X.base CX n f sp) (hr : Room (n + 1) X.A) (hx : Passes CX X E0) : OpR X (compareOp .NotEq) (rONe X.K C sp) := by
  intro pins s σ H x y v u Q I rx ry h
  obtain ⟨a, dx, fs, tb, rfl, ha, hy, hn, q⟩ := h
  cases (show v = Value.ref a from rx)
  obtain ⟨mA, O, _⟩ := ins_get I.hok ha
  obtain ⟨od, J, _⟩ := O.look
  have one : wpAny (model X.prog X.w) X.A (tryCompare (.ref a) (cmpInfo .NotEq).2.1 u) (fun r s' => ∃ v, r = some v ∧ EP X pins σ Q v s') X.xe s := by
    unfold tryCompare
    refine wpAny_bind (ifBound_ne I.kIn J c.ne (wpAny_call (codeAny_call_builtin PySem.F.cmp_object.ne.plain PySem.F.cmpEntry_ne (PySem.W.check_slot PySem.F.cmpKind_ne PySem.F.cmpSplit_ne (J.type.andThen (PySem.W.looks_mroIn I.kIn c.hm)) (PySem.F.cmpArgs_ne _ _) ?_))))
    refine objNe_own (A := X.A.in1) I.kIn J c hr.in1.units0 ?_
    refine wpAny_mono (wpAny_call (SlX.run_at (us := [.ref a, u]) (ws := [.ref a, y]) F hr.in1 I.env0.in1 hx I (.cons rfl (.cons ry .nil)) q)) (fun w s' z => ?_) fun _ _ x => x
    obtain ⟨z', H', I', rz, b, rfl, qz⟩ := z
    cases (show w = Value.bool b from rz)
    refine ⟨b, rfl, ?_⟩
    first
      | exact wpAny_pure ⟨_, rfl, ⟨.bl (!b), H', I', rfl, qz⟩⟩
      | exact ⟨_, rfl, ⟨.bl (!b), H', I', rfl, qz⟩⟩
  show wpAny (model X.prog X.w) X.A (richCompare .NotEq (.ref a) u) _ _ _
  unfold richCompare
  simp only [oneThing_ref]
  refine wpAny_holding (wpAny_bind (wpAny_cRoomFor hr.units0 ?_))
  refine wpAny_bind (J.type.here (wpAny_bind ((hy.looks I ry _).here ?_)))
  split
  · rename_i q
    have e : PySem.W.subIn X.K tb (.ref C) = some false := by
      rcases Bool.or_eq_true_iff.mp hn with e | e
      · rw [beq_iff_eq.mp e] at q; simp at q
      · exact beq_iff_eq.mp e
    refine wpAny_bind ((PySem.W.looks_subIn I.kIn e).here ?_)
    simp only [Bool.false_eq_true, if_false]
    refine wpAny_bind (wpAny_mono one (fun r s' z => ?_) fun _ _ e => e)
    obtain ⟨v, rfl, hq⟩ := z
    exact wpAny_pure hq
  · refine wpAny_bind (wpAny_pure ?_)
    simp only [Bool.false_eq_true, if_false]
    refine wpAny_bind (wpAny_mono one (fun r s' z => ?_) fun _ _ e => e)
    obtain ⟨v, rfl, hq⟩ := z
    exact wpAny_pure hq
end
/-- a op b of two objects with an own __eq__ -/
def OEqK (K : PySem.W.Frag) (C a : Addr) (y : V) (sp : Sp) (H : Hp) (Q : VK) : Prop := ∃ dx fs tb, H a = some (.ins C dx fs) ∧ YTy H y tb ∧ PySem.W.notFirst K C tb = true ∧ sp [.ref a, y] H Q E0
section
variable {K : PySem.W.Frag} {C a : Addr} {y : V} {sp : Sp} {H : Hp} {Q : VK}
theorem x_oeq : rOEq K C sp (.ref a) y H Q ↔ OEqK K C a y sp H Q := ⟨fun ⟨_, dx, fs, tb, e, r⟩ => by cases e; exact ⟨dx, fs, tb, r⟩, fun ⟨dx, fs, tb, r⟩ => ⟨a, dx, fs, tb, rfl, r⟩⟩
theorem x_one : rONe K C sp (.ref a) y H Q ↔ OEqK K C a y sp H fun v H' => ∃ b, v = .bl b ∧ Q (.bl (!b)) H' := ⟨fun ⟨_, dx, fs, tb, e, r⟩ => by cases e; exact ⟨dx, fs, tb, r⟩, fun ⟨dx, fs, tb, r⟩ => ⟨a, dx, fs, tb, rfl, r⟩⟩
theorem OEqK.own {dx b dy : Addr} {fs gs : List (Str × V)} (h : H a = some (.ins C dx fs)) (h2 : H b = some (.ins C dy gs)) (q : sp [.ref a, .ref b] H Q E0) : OEqK K C a (.ref b) sp H Q := ⟨dx, fs, _, h, .ins h2, by unfold PySem.W.notFirst; simp, q⟩
theorem notFirst_ty {T : String} (e : (fastBuiltinMro T).map (·.contains (Value.ref C)) = some false) : PySem.W.notFirst K C (.type T) = true := by
  unfold PySem.W.notFirst
  have : PySem.W.subIn K (.type T) (.ref C) = some false := e
  rw [this]
  simp
theorem OEqK.lst {dx b : Addr} {xs : List V} {fs : List (Str × V)} (h : H a = some (.ins C dx fs)) (h2 : H b = some (.lst xs)) (q : sp [.ref a, .ref b] H Q E0) : OEqK K C a (.ref b) sp H Q := ⟨dx, fs, _, h, .lst h2, notFirst_ty (by
  have e : fastBuiltinMro "list" = some [.type "list", .type "object"] := by decide +kernel
  rw [e]
  first | rfl | simp), q⟩
theorem OEqK.str {dx : Addr} {z : Str} {fs : List (Str × V)} (h : H a = some (.ins C dx fs)) (q : sp [.ref a, .str z] H Q E0) : OEqK K C a (.str z) sp H Q := ⟨dx, fs, _, h, .str z, notFirst_ty (by
  have e : fastBuiltinMro "str" = some [.type "str", .type "object"] := by decide +kernel
  rw [e]
  first | rfl | simp), q⟩
end
/-! ### isinstance of an instance -/
structure IsiC (K : PySem.W.Frag) (C : Addr) : Prop where
  cl : Cls K C
  si : SlX.SIsi K C
/-- isinstance(x, c): x of the own class D, or plain -/
def rIsW (K : PySem.W.Frag) : List V → Hp → VK → Prop := fun xs H Q => ∃ (x c : V) (t u : Value) (b : Bool), xs = [x, c] ∧ ClsV c u ∧ TyX K H x t ∧ PySem.W.kitOne K t u = some b ∧ Q (.bl b) H
theorem cr_isW {X : Cx} : CallR X (.builtin "isinstance") (rIsW X.K) := call_isi
def IsWK (K : PySem.W.Frag) (x c : V) (H : Hp) (G : Bool → Prop) : Prop := ∃ (t u : Value) (b : Bool), ClsV c u ∧ TyX K H x t ∧ PySem.W.kitOne K t u = some b ∧ G b
theorem x_isW {K : PySem.W.Frag} {x c : V} {H : Hp} {Q : VK} : rIsW K [x, c] H Q ↔ IsWK K x c H fun b => Q (.bl b) H := ⟨fun ⟨_, _, t, u, b, e, r⟩ => by cases e; exact ⟨t, u, b, r⟩, fun ⟨t, u, b, r⟩ => ⟨x, c, t, u, b, rfl, r⟩⟩
theorem IsWK.own {K : PySem.W.Frag} {C a dx : Addr} {fs : List (Str × V)} {H : Hp} {G : Bool → Prop} (c : IsiC K C) (h : H a = some (.ins C dx fs)) (q : G true) : IsWK K (.ref a) (.ref C) H G :=
  ⟨.ref C, .ref C, true, .own C, .base (.ins h c.cl c.si.ca c.si.cn c.si.ct c.si.cm), kit_self, q⟩
/-! ### int(n), len(d) -/
def rIntI : List V → Hp → VK → Prop := fun xs H Q => ∃ i, xs = [.int i] ∧ Q (.int i) H
theorem cr_intI {X : Cx} : CallR X (.type "int") rIntI := CallR.as call_int1 fun _ _ _ ⟨i, e, q⟩ => Or.inl ⟨i, e, q⟩
theorem x_intI {i : Int} {H : Hp} {Q : VK} : rIntI [.int i] H Q ↔ Q (.int i) H := ⟨fun ⟨_, e, q⟩ => by cases e; exact q, fun q => ⟨i, rfl, q⟩⟩
def LenDK (a : Addr) (H : Hp) (G : Int → Prop) : Prop := ∃ kvs : List (Key × V), H a = some (.dK kvs) ∧ G kvs.length
def rLenD : List V → Hp → VK → Prop := fun xs H Q => ∃ a kvs, xs = [V.ref a] ∧ H a = some (.dK kvs) ∧ Q (.int kvs.length) H
theorem cr_lenD {X : Cx} : CallR X (.builtin "len") rLenD := call_lenD
theorem x_lenD {a : Addr} {H : Hp} {Q : VK} : rLenD [.ref a] H Q ↔ LenDK a H fun i => Q (.int i) H := ⟨fun ⟨_, kvs, e, h, q⟩ => by cases e; exact ⟨kvs, h, q⟩, fun ⟨kvs, h, q⟩ => ⟨a, kvs, rfl, h, q⟩⟩
theorem LenDK.of {B : Hp} {l : List (Addr × HO)} {a : Addr} {kvs : List (Key × V)} {H : Hp} {G : Int → Prop} (L : Led B H l) (m : (a, HO.dK kvs) ∈ l) (q : G kvs.length) : LenDK a H G := ⟨kvs, L.at m, q⟩
end Vg


set_option Elab.async false
set_option linter.all false
set_option maxRecDepth 100000
set_option maxHeartbeats 4000000
namespace Vg
open PySem PySem.Spec PyProof.Rows L2
/-! ### set(xs) of a list of ints -/
abbrev set0 (w : World) : Obj := { cls := .type "set", dict := none, data := .set #[] 0 (.fresh 0 0 (!w.params.followText "set-order")) }
/-- what set(xs) leaves -/
def SetDone (w : World) (s : Shared) (ns : List Int) (s2 : Shared) : Prop := ∃ (g : Heap) (tk c : Nat), s2 = { s with heap := g, toks := tk } ∧ SetR w g s.heap.objs.size (fun j => decide (j ∈ ns)) c ∧ c ≤ ns.length ∧ ∀ b o, s.heap.get? b = some o → g.get? b = some o
theorem set_init_L {P : Program} {w : World} {A : Around} {E : Value → Shared → Prop} {s : Shared} {l : Addr} {items : Array Value} (ns : List Int) (hh : A.handled = none) (hl : s.heap.IsList l items) (hit : IntsAre items.toList ns) (hb : ns.length + 1 < scanBound) :
    codeAny (model P w) A (.call (.builtin "set.__init__") ⟨[.ref s.heap.objs.size, .ref l], []⟩) (wants (fun r s2 => r = .none ∧ SetDone w s ns s2) E) { s with heap := s.heap.push (set0 w) } := by
  have szi : items.size = ns.length := (Array.length_toList (xs := items)).symm.trans (IntsAre.length hit)
  have at0 : (s.heap.push (set0 w)).get? s.heap.objs.size = some (set0 w) := Heap.get?_push_size _ rfl
  have ty0 : Shared.TypeIs { s with heap := s.heap.push (set0 w) } (.ref s.heap.objs.size) "set" := ⟨_, at0, rfl⟩
  refine codeAny_call_builtin F.called_set.init.plain F.entry_set_init (check_set_init_1 ty0 ?_)
  obtain ⟨⟨oc, od, oda, osl⟩, ho, hc, n, hd⟩ := hl
  dsimp only at hc hd
  subst hc hd
  have ho1 : (s.heap.push (set0 w)).get? l = some ⟨.type "list", od, .seq items n, osl⟩ := Heap.get?_push_of_some _ ho
  have is1 : (s.heap.push (set0 w)).IsList l items := ⟨_, ho1, rfl, n, rfl⟩
  have q1 := F.sub_list_set
  have q2 := F.sub_list_frozenset
  have q3 : (Value.type "list" == Value.type "dict") = false := by decide
  have ll : l < s.heap.objs.size := Heap.lt_size ho
  have nI : l ≠ (s.heap.push (set0 w)).objs.size := by rw [Heap.size_push]; exact Nat.ne_of_lt (Nat.lt_succ_of_lt ll)
  have nS : s.heap.objs.size ∉ [(s.heap.push (set0 w)).objs.size, l] := by
    rw [Heap.size_push, List.mem_cons, List.mem_singleton, not_or]
    exact ⟨Nat.ne_of_lt (Nat.lt_succ_self _), Nat.ne_of_gt ll⟩
  have each : ∀ (i : Nat) (v : Value), items[i]? = some v → ∃ k t, ns[i]? = some k ∧ v = .int k t := fun i v hv => by
    have hi : i < ns.length := by rw [← szi]; exact (Array.getElem?_eq_some_iff.mp hv).1
    obtain ⟨t, e⟩ := PyProof.Rows.IntsAre.int_at hit i v (by rw [Array.getElem?_toList]; exact hv)
    rw [List.getD_eq_getElem?_getD, List.getElem?_eq_getElem hi] at e
    exact ⟨_, t, List.getElem?_eq_getElem hi, e⟩
  unfold Builtin.«set.__init__» noKeywords Builtin.Frozenset.updateFrom
  generalize hPI : pyIter = PI
  wp_walk
  subst hPI
  refine wpAny_pyIter_list is1 (wpAny_bind (wpAny_runValue ?_))
  refine set_update_ints (w := w) ((Walks.list (by simp [hh]) _ l nI items).toS) s.heap.objs.size nS ns szi hb each (items.size - 0) 0 _ (by omega) (Nat.zero_le _) ⟨⟨_, Heap.get?_push_size _ rfl, rfl, rfl⟩, (is1.push _)⟩ ⟨0, Nat.le_refl 0, setR_new_at (Heap.get?_push_of_some _ at0)⟩ ?_
  intro s9 c hm hc9 hS9
  obtain ⟨h9, g9, d9, t9, o9⟩ := s9
  have e1 : g9 = s.gens := hm.gens
  have e2 : d9 = s.drawn := hm.drawn
  have e3 : o9 = s.os := hm.os
  subst e1 e2 e3
  rw [szi] at hc9
  refine wpAny_pure (wpAny_pure ⟨rfl, h9, t9, c, rfl, hS9, hc9, fun b o hbo => hm.heap b o ?_ (Heap.get?_push_of_some _ (Heap.get?_push_of_some _ hbo))⟩)
  have hbl := Heap.lt_size hbo
  rw [Heap.size_push, List.mem_cons, List.mem_singleton, not_or]
  exact ⟨Nat.ne_of_lt hbl, Nat.ne_of_lt (Nat.lt_succ_of_lt hbl)⟩
theorem call_set_L {P : Program} {w : World} {A : Around} {E : Value → Shared → Prop} {s : Shared} {l : Addr} {items : Array Value} (ns : List Int) {Q : Value → Shared → Prop} (hh : A.handled = none) (hl : s.heap.IsList l items) (hit : IntsAre items.toList ns) (hb : ns.length + 1 < scanBound)
    (k : ∀ s2, SetDone w s ns s2 → Q (.ref s.heap.objs.size) s2) : wpAny (model P w) A (call (.type "set") [.ref l]) Q E s := by
  obtain ⟨c0, tl, hmro⟩ := F.called_set.mro
  have m1 := F.called_set.made
  have m2 := F.called_set.sub
  have m3 := F.called_set.notType
  have m4 := F.called_set.canCreate
  have m5 := F.typeCall_set_1 (.ref l)
  refine wpAny_call (codeAny_of_tree ?_)
  show wpAny _ _ (callAny (.type "set") _) _ _ _
  refine wpAny_pure ⟨Code.quiet_builtin _ (by decide +kernel), codeAny_builtin F.entry_type_call ?_⟩
  rw [Around.under_plain (weight_type_call_type "set" [.ref l] []) rfl]
  repeat (any_goals (first | assumption | wp_step))
  refine codeAny_mono (code_set_led1 (.ref l) (E := E) (Q₁ := fun obj s1 => obj = .ref s.heap.objs.size ∧ s1 = { s with heap := s.heap.push (set0 w) }) ⟨rfl, rfl⟩) fun r s1 hr => ?_
  match r, hr with
  | .error e, hr => exact hr
  | .ok (.ret obj), hr =>
    obtain ⟨rfl, rfl⟩ := hr
    have n1 := F.called_set.init.lookup
    have n2 := F.called_set.init.bind (.ref s.heap.objs.size)
    have ty0 : Shared.TypeIs { s with heap := s.heap.push (set0 w) } (.ref s.heap.objs.size) "set" := ⟨_, Heap.get?_push_size _ rfl, rfl⟩
    repeat (any_goals (first | assumption | wp_step))
    refine codeAny_mono (set_init_L (E := E) ns (by simpa using hh) hl hit hb) fun r2 s2 hr2 => ?_
    match r2, hr2 with
    | .error e, hr2 => exact hr2
    | .ok (.ret r), hr2 =>
      obtain ⟨rfl, D⟩ := hr2
      repeat (any_goals (first | assumption | wp_step))
      exact k _ D
/-- set(xs), sorted(set(xs)) -/
def rSetL (K : PySem.W.Frag) (w : World) : List V → Hp → VK → Prop := fun xs H Q => ∃ (l : Addr) (ns : List Int), xs = [.ref l] ∧ SqL K H l (ns.map V.int) ∧ ns.length ≤ 4000 ∧ ∀ p c, H p = none → c ≤ ns.length → Q (.ref p) (upd H p (SetO w p (fun k => decide (k ∈ ns)) c))
theorem cr_setL {X : Cx} (hc : X.calm = true) : CallR X (.type "set") (rSetL X.K X.w) := by
  intro pins s σ H xs us Q I r h
  obtain ⟨l, ns, rfl, hs, hn, q⟩ := h
  rw [Vals.ref1 r]
  obtain ⟨its, rv, pl, hz⟩ := I.list hs
  refine call_set_L ns (I.ok.hd hc) pl.isList (by simpa using ints_of_vals rv) (by unfold scanBound; omega) fun s2 D => ?_
  obtain ⟨g, tk, c, rfl, R, hc', hk⟩ := D
  have hp : H s.heap.objs.size = none := I.hok.fresh (Nat.le_refl _)
  exact ⟨.ref s.heap.objs.size, _, I.laid (t' := tk) hk (Nat.le_refl _) (setO_new R), rfl, q _ c hp hc'⟩
def SetLK (K : PySem.W.Frag) (w : World) (l : Addr) (H : Hp) (G : Addr → Hp → Prop) : Prop := ∃ ns : List Int, SqL K H l (ns.map V.int) ∧ ns.length ≤ 4000 ∧ ∀ p c, H p = none → c ≤ ns.length → G p (upd H p (SetO w p (fun k => decide (k ∈ ns)) c))
theorem x_mkset {K : PySem.W.Frag} {w : World} {l : Addr} {H : Hp} {Q : VK} : rSetL K w [.ref l] H Q ↔ SetLK K w l H fun p H1 => Q (.ref p) H1 := ⟨fun ⟨_, ns, e, r⟩ => by cases e; exact ⟨ns, r⟩, fun ⟨ns, r⟩ => ⟨l, ns, rfl, r⟩⟩
theorem SetLK.of {K : PySem.W.Frag} {w : World} {B H : Hp} {lg : List (Addr × HO)} {l : Addr} {ns : List Int} {G : Addr → Hp → Prop} (L : Led B H lg) (h : SqL K H l (ns.map V.int)) (hn : ns.length ≤ 4000) (k : ∀ p c H1, c ≤ ns.length → Led B H1 ((p, SetO w p (fun k => decide (k ∈ ns)) c) :: lg) → G p H1) : SetLK K w l H G :=
  ⟨ns, h, hn, fun p c hp hc => k p c _ hc (L.new hp)⟩
/-- sorted(a set of ints) -/
def SrtSK (w : World) (a : Addr) (H : Hp) (G : Addr → Hp → Prop) : Prop := ∃ (S : Int → Bool) (n : Nat), H a = some (SetO w a S n) ∧ n < 64 ∧ ∀ ns : List Int, ns.Pairwise (· < ·) → (∀ k : Int, k ∈ ns ↔ S k = true) → ns.length = n → NewK (.lst (ns.map V.int)) H G
theorem x_srtS {w : World} {a : Addr} {H : Hp} {Q : VK} : rSortedSet w [.ref a] H Q ↔ SrtSK w a H fun p H1 => Q (.ref p) H1 := ⟨fun ⟨_, S, n, e, h1, h2, q⟩ => by cases e; exact ⟨S, n, h1, h2, fun ns a b c p hp => q ns p a b c hp⟩, fun ⟨S, n, h1, h2, q⟩ => ⟨a, S, n, rfl, h1, h2, fun ns p a b c hp => q ns a b c p hp⟩⟩
theorem SrtSK.of {w : World} {B H : Hp} {lg : List (Addr × HO)} {a : Addr} {xs : List Int} {c : Nat} {G : Addr → Hp → Prop} (L : Led B H ((a, SetO w a (fun k => decide (k ∈ xs)) c) :: lg)) (hc : c < 64) (k : ∀ (ns : List Int) (p : Addr) (H1 : Hp), ns.Pairwise (· < ·) → (∀ k : Int, k ∈ ns ↔ k ∈ xs) → Led B H1 ((p, .lst (ns.map V.int)) :: lg) → G p H1) : SrtSK w a H G :=
  ⟨_, c, L.at List.mem_cons_self, hc, fun ns h1 h2 _ => NewK.of L fun p H1 L => k ns p H1 h1 (fun k => (h2 k).trans decide_eq_true_iff) (L.sel (.cons .hd (.skip .all)))⟩
/-! ### loops over more than lists -/
section
variable {K : PySem.W.Frag} {g : TG} {tb : TS} {D : Ends} {σ : L2.St} {H : Hp} {a b : Addr} {xs ys : List V}
theorem loop_gen {J : It} (n : Nat) (Pv : Nat → L2.St → Hp → Prop) (h0 : Pv 0 σ H)
    (hn : ∀ σ' H', Pv n σ' H' → J.stop n H' ∧ D.nx σ' H')
    (hs : ∀ i σ' H', i < n → Pv i σ' H' → J.go i H' ∧ ∀ x H2, J.yld i H' x H2 → g x σ' H2 fun σ2 H3 => tb { D with nx := fun s h => Pv (i + 1) s h, ct := fun s h => Pv (i + 1) s h, bk := D.nx } σ2 H3) : LoopK J g tb D σ H := by
  refine ⟨fun i m σ' H' => m = n - i ∧ i ≤ n ∧ Pv i σ' H', ⟨n, rfl, Nat.zero_le _, h0⟩, ?_⟩
  rintro i m σ' H' ⟨rfl, hi, r⟩
  by_cases c : i < n
  · obtain ⟨r1, r2⟩ := hs i σ' H' c r
    exact Or.inr ⟨r1, fun σ2 H'' => Pv (i + 1) σ2 H'', fun σ2 H'' z => ⟨n - (i + 1), by omega, rfl, c, z⟩, fun x H2 y => r2 x H2 y⟩
  · have e : i = n := by omega
    subst e
    exact Or.inl (hn σ' H' r)
theorem loop_zip (hl : xs.length = ys.length) (Pv : Nat → L2.St → Hp → Prop) (h0 : Pv 0 σ H) (hq : ∀ i σ' H', Pv i σ' H' → SqL K H' a xs ∧ SqL K H' b ys)
    (hs : ∀ i x y σ' H' (N : L2.St → Hp → Prop), xs[i]? = some x → ys[i]? = some y → Pv i σ' H' → (∀ σ2 H2, Pv (i + 1) σ2 H2 → N σ2 H2) → NewK (.tup [x, y]) H' fun t H2 => g (.ref t) σ' H2 fun σ2 H3 => tb { D with nx := N, ct := N, bk := D.nx } σ2 H3)
    (hd : ∀ σ' H', Pv xs.length σ' H' → D.nx σ' H') : LoopK (Itz K a b) g tb D σ H := by
  refine loop_gen xs.length Pv h0 (fun σ' H' r => ⟨?_, hd σ' H' r⟩) fun i σ' H' hi r => ?_
  · obtain ⟨q1, q2⟩ := hq _ _ _ r
    exact ⟨xs, ys, q1, q2, Or.inl (Nat.le_refl _)⟩
  · obtain ⟨q1, q2⟩ := hq _ _ _ r
    have hi2 : i < ys.length := by omega
    refine ⟨⟨xs, ys, _, _, q1, q2, List.getElem?_eq_getElem hi, List.getElem?_eq_getElem hi2⟩, ?_⟩
    rintro v H2 ⟨T, x, y, rfl, hT, rfl, f1, f2⟩
    exact hs i x y σ' _ _ (f1 xs q1) (f2 ys q2) r (fun σ2 H3 z => z) T hT
theorem loop_enum (Pv : Nat → L2.St → Hp → Prop) (h0 : Pv 0 σ H) (hq : ∀ i σ' H', Pv i σ' H' → SqL K H' a xs)
    (hs : ∀ i x σ' H' (N : L2.St → Hp → Prop), xs[i]? = some x → Pv i σ' H' → (∀ σ2 H2, Pv (i + 1) σ2 H2 → N σ2 H2) → NewK (.tup [.int (i : Nat), x]) H' fun t H2 => g (.ref t) σ' H2 fun σ2 H3 => tb { D with nx := N, ct := N, bk := D.nx } σ2 H3)
    (hd : ∀ σ' H', Pv xs.length σ' H' → D.nx σ' H') : LoopK (Ite K a) g tb D σ H := by
  refine loop_gen xs.length Pv h0 (fun σ' H' r => ⟨⟨xs, hq _ _ _ r, Nat.le_refl _⟩, hd σ' H' r⟩) fun i σ' H' hi r => ?_
  refine ⟨⟨xs, xs[i], hq _ _ _ r, List.getElem?_eq_getElem hi⟩, ?_⟩
  rintro v H2 ⟨t, x, rfl, ht, rfl, hx⟩
  exact hs i x σ' _ _ (hx xs (hq _ _ _ r)) r (fun σ2 H3 z => z) t ht
end
theorem k_cxw {C : CXT} {P : Program} {w : World} {K : PySem.W.Frag} {mg : Str → Option Value} {bs : Heap} {N : List Str} {qual : Str} {sc : Scope} {f : Addr} {cd : Value} {A : Around} {fr : List Env} {s : Shared} {H : Hp} {E : XK} :
    (cxOf C P w K mg bs N qual sc f cd A fr s H E).w = w := rfl
end Vg


set_option Elab.async false
set_option linter.all false
set_option maxRecDepth 100000
set_option maxHeartbeats 2000000
namespace Vg
open PySem PySem.Spec PyProof.Rows L2
/-! ### {(..): v} -/
def tD1T (tk tv : TE) : TE := fun σ H Q => ∀ p, H p = none → tk σ (upd H p (.dT [])) fun y H1 => tv σ H1 fun v H2 => ∃ (k : List Key) (b : Addr), y = .ref b ∧ H2 p = some (.dT []) ∧ H2 b = some (.tup (k.map kV)) ∧ Q (.ref p) (upd H2 p (.dT [(k, v)]))
theorem pe_d1T {X : Cx} {pos : Pos} {k e : Expr} {tk tv : TE} (hu : X.A.units + 1 < cLine) (hk : PE X k tk) (he : PE X e tv) : PE X (.Dict [some k] [e] pos) (tD1T tk tv) := by
  refine ⟨fun pins s σ H Q I q => ?_⟩
  have hn := I.hok.fresh (Nat.le_refl s.heap.objs.size)
  have I1 := I.laid (a := s.heap.objs.size) (o := .dT []) (h' := s.heap.push { cls := .type "dict", data := .dict #[] }) (t' := s.toks) (fun _ _ q => Heap.get?_push_of_some _ q) (Nat.le_refl _) (dt_empty s.heap I.big)
  refine wpAny_Dict_any rfl rfl (fun z => by cases z) (show 1 ≤ 15 by decide) (pairTrees_cons_walk (thn (hk.run pins _ σ _ _ I1 (q _ hn)) fun u s1 ⟨y, H1, I2, ry, q1⟩ =>
    thn (he.run pins s1 σ H1 _ I2 q1) fun w2 s2 ⟨v, H2, I3, rv, kk, b, ey, e1, e2, q2⟩ => pairTrees_nil_walk ?_))
  subst ey
  cases (show u = Value.ref b from ry)
  obtain ⟨z, hd, xs, rel, dd⟩ := dt_of I3.hok e1
  cases rel
  unfold storeAll
  rw [List.forIn_cons]
  refine wpAny_bind (wpAny_bind (wpAny_dictSet_heap (hsz := by decide) (knd := tupleKind (mixKind X.prog X.w)) (by show X.A.units < cLine; omega) (key_of I3.hok e2) dd fun h' dd' hs => wpAny_pure ?_))
  dsimp only
  rw [List.forIn_nil]
  refine wpAny_pure ⟨.ref s.heap.objs.size, _, ?_, rfl, q2⟩
  obtain ⟨o, es, ep, hq, h2, h3, h4, _, h5⟩ := dd'
  refine d_write I3 (by rw [e1]; exact True.intro) hs ⟨o, hq⟩ ⟨show 1 ≤ sizeLine by decide, hd, _, ((KT.put (kvs := []) (xs := []) (y := v) .nil kk e2 rv).keeps fun c ys ec => ?_), o, es, ep, hq, h2, h3, h4, h5⟩
  rw [upd_ne (ne_of ec e1 (fun z => nomatch z))]
  exact ec
/-! ### for k, v in d.items(), the keys tuples: the dict stays locked behind -/
section
variable {X : Cx} {pins : List (Addr × Obj)} {σ : L2.St} {H : Hp} {s : Shared} {d : Addr} {o : Obj}
theorem Inv.frzTv {kvs : List (List Key × V)} (I : L2.Inv X pins σ H s) (h : H d = some (.frz o (.dT kvs))) :
    (d == sysModules) = false ∧ s.heap.get? d = some o ∧ o.ExactDict ∧ ∃ (es : Array DictEntry) (ep : Nat), o.data = .dict es ep ∧ es.size = kvs.length ∧
      ∀ (i : Nat) (k : List Key) (v : V), kvs[i]? = some (k, v) → ∃ (en : DictEntry) (q : Addr), es[i]? = some en ∧ en.key = .ref q ∧ RelV v en.val ∧ H q = some (.tup (k.map kV)) := by
  obtain ⟨hd, z, hs, xs, pr, o', es, ep, ho, hx, hdt, he, _⟩ := I.hok d _ h
  rw [hd] at ho
  cases ho
  refine ⟨hs, hd, hx, es, ep, hdt, ?_, fun i k v e => ?_⟩
  · have l1 : es.size = xs.length := size_of_entries he
    have l2 : kvs.length = xs.length := Paired.length pr
    omega
  · obtain ⟨b, hb, e1, e2, e3⟩ := paired_get pr e
    have q := entry_at he i
    rw [hb] at q
    exact ⟨_, b.2.1, q, rfl, e3, e2⟩
end
/-- the pairs, each a new tuple over the key's own tuple -/
def Itit (d : Addr) (o : Obj) (kvs : List (List Key × V)) : It :=
  ⟨fun i H => H d = some (.frz o (.dT kvs)) ∧ i < kvs.length, fun i H x H' => ∃ T k v q, kvs[i]? = some (k, v) ∧ x = .ref T ∧ H T = none ∧ H q = some (.tup (k.map kV)) ∧ H' = upd H T (.tup [.ref q, v]), fun i H => H d = some (.frz o (.dT kvs)) ∧ kvs.length ≤ i⟩
theorem turn_itemsT {P : Program} {w : World} {K : PySem.W.Frag} {d : Addr} {o : Obj} {es : Array DictEntry} {ep : Nat} {kvs : List (List Key × V)} {elts : List Expr} {kk : Nat} {tpos : Pos} (it : Addr) (hod : o.data = .dict es ep) :
    Turn P w K (.Tuple elts kk tpos) (Itit d o kvs) [it] it (fun i h => ∃ ok ov, IsItemIter h it d i kvs.length ep ok ov) where
  mem := by simp
  obj := fun i h st b hb => by
    have e : b = it := by simpa using hb
    subst e
    obtain ⟨ok, ov, e⟩ := st
    exact ⟨_, e, fun v z => nomatch z⟩
  keep := fun i h h' st k => let ⟨ok, ov, e⟩ := st; ⟨ok, ov, k it (by simp) _ e⟩
  item := by
    intro X hP hw hK hc i pins s σ H E I hf st hg
    subst hP hw hK
    obtain ⟨hd, hi⟩ := hg
    obtain ⟨hs, hgd, hx, es', ep', hdt, hsz, ent⟩ := Inv.frzTv I hd
    obtain ⟨rfl, rfl⟩ := dict_ep hod hdt
    obtain ⟨⟨k, v⟩, hkv⟩ : ∃ p, kvs[i]? = some p := ⟨kvs[i], List.getElem?_eq_getElem hi⟩
    obtain ⟨en, q, hen, hkey, hval, hq⟩ := ent i k v hkv
    obtain ⟨ok, ov, he⟩ := st
    rw [← hsz] at he
    have hlt : it < s.heap.objs.size := Heap.lt_size he
    have hi2 : i < es'.size := by omega
    have een : es'[i] = en := by rw [Array.getElem?_eq_getElem hi2] at hen; exact Option.some.inj hen
    refine DT.nextI he ⟨_, hgd, hx, hdt⟩ hi2 fun h' ho hT hz hk => ?_
    rw [een, hkey] at ho hT
    refine ⟨_, rfl, wpAny_letOwnedTupleGo_items (s := { s with heap := h' }) ho fun h'' he' sb => ?_⟩
    have hT2 : h''.get? s.heap.objs.size = some { cls := .type "tuple", data := .seq #[.ref q, en.val] } := (sb.2 _ (Nat.ne_of_gt hlt)).trans hT
    have new : ObjOk X.prog X.w (upd H s.heap.objs.size (.tup [.ref q, v])) h'' s.heap.objs.size (.tup [.ref q, v]) :=
      ⟨by show 2 ≤ sizeLine; decide, [.ref q, en.val], .cons rfl (.cons hval .nil), ⟨_, hT2, rfl, _, rfl⟩⟩
    have I1 : L2.Inv X pins σ (upd H s.heap.objs.size (.tup [.ref q, v])) { s with heap := h'' } :=
      I.turnedNew (t' := s.toks) (ch := [it]) (fun b ob hb e => (sb.2 b (by simpa using hb)).trans (hk b ob (by simpa using hb) e)) hf (Nat.le_refl _) new
    refine ⟨.ref s.heap.objs.size, _, I1, rfl, ⟨_, k, v, q, hkv, rfl, I.hok.fresh (Nat.le_refl _), hq, rfl⟩, ⟨.ref q, en.val, ?_⟩, fun b hb => ?_⟩
    · rw [← hsz]; exact he'
    · have e : b = it := by simpa using hb
      rw [e, upd_ne (Nat.ne_of_lt hlt)]
      exact (hf it (by simp)).1
  done := by
    intro X hP hw hK hc i pins s σ H E I hf st hg
    subst hP hw hK
    obtain ⟨hd, hi⟩ := hg
    obtain ⟨f0, f1, f2, f3, f4, f5⟩ := hf it (by simp)
    obtain ⟨hs, hgd, hx, es', ep', hdt, hsz, ent⟩ := Inv.frzTv I hd
    obtain ⟨rfl, rfl⟩ := dict_ep hod hdt
    obtain ⟨ok, ov, he⟩ := st
    rw [← hsz] at he
    exact DT.endI (I.ok.hd hc) he ⟨_, hgd, hx, hdt⟩ (by omega) fun h' eb => ⟨rfl, I.turned (t' := s.toks) (fun b ob hb e => eb b ob hb e) f0 f1 f3 f4 f5⟩
  self := fun A i s Q E st h => let ⟨_, _, e⟩ := st; PySem.W.kcp_self e h
def iItemsN (td : TE) : TI := fun σ H R => td σ H fun x H1 => ∃ d kvs, x = .ref d ∧ H1 d = some (.dT kvs) ∧ ∀ o, R (Itit d o kvs) (upd H1 d (.frz o (.dT kvs)))
theorem pi_itemsN {X : Cx} {e : Expr} {td : TE} {apos cpos : Pos} {elts : List Expr} {kk : Nat} {tpos : Pos} (he : PE X e td) (hbase : attributeBase e "items" X.env (eval e X.env) = eval e X.env := by rfl) (hline : (apos.endLine == cpos.line) = true := by rfl) :
    PI X (.Tuple elts kk tpos) (.Call (.Attribute e "items" apos) [] [] cpos) (iItemsN td) := by
  refine ⟨fun pins s σ H R I h => ?_⟩
  refine wpAny_Call_method (T := "dict") (id := "dict.items") hbase rfl hline F.plainAttrs_dict F.slot_dict_items F.type_dict_items (thn (he.run pins s σ H _ I h) fun u s1 ⟨x, H1, I1, rx, d, kvs, ex, hd, q⟩ => ?_)
  subst ex
  obtain rfl : u = Value.ref d := rx
  obtain ⟨od, I2⟩ := I1.lock hd True.intro
  have q := q od
  have hfd : (upd H1 d (.frz od (.dT kvs))) d = some (.frz od (.dT kvs)) := upd_same
  obtain ⟨hs, hgd, hx, es, ep, hdt, hsz, ent⟩ := Inv.frzTv I2 hfd
  have hm : DT.Raw s1.heap d es ep := ⟨_, hgd, hx, hdt⟩
  refine ⟨hm.typeIs, fun a e => by cases e; exact ⟨_, hgd, hx.2.1⟩, ?_⟩
  have I3 : L2.Inv X pins σ (upd H1 d (.frz od (.dT kvs))) { s1 with heap := s1.heap.push { cls := .type "dict_items", data := .fields #[.ref d] } } := I2.kept (t' := s1.toks) fun b ob q => Heap.get?_push_of_some _ q
  have fin : wpAny (model X.prog X.w) X.A (pyIter (.ref s1.heap.objs.size)) (PIE X pins σ (.Tuple elts kk tpos) R) X.xe { s1 with heap := s1.heap.push { cls := .type "dict_items", data := .fields #[.ref d] } } := by
    refine DT.iterI (d := d) ⟨_, Heap.get?_push_size _ rfl, rfl, rfl⟩ (hm.push _) (pi_one (tk := s1.toks) I3 _ (turn_itemsT _ hdt) ⟨.none, .none, ?_⟩ q)
    rw [← hsz]
    exact Heap.get?_push_size _ rfl
  show wpAny _ _ (callWith cpos (.builtin "dict.items") [.ref d] [] []) _ X.xe s1
  exact method_meetsIn F.slot_dict_items F.entry_dict_items rfl (PySem.evalArgs_none ⟨rfl, hm.typeIs, F.args_dict_items_1 _, _, DT.meetsItems hs, ⟨hm, fin⟩⟩)
/-- for k in d, the dict locked behind -/
def iKeysN (td : TE) : TI := fun σ H R => td σ H fun x H1 => ∃ d kvs, x = .ref d ∧ H1 d = some (.dT kvs) ∧ ∀ o, R (Itkt d o kvs) (upd H1 d (.frz o (.dT kvs)))
theorem pi_keysN {X : Cx} {tg e : Expr} {td : TE} (he : PE X e td) : PI X tg e (iKeysN td) := by
  refine ⟨fun pins s σ H R I h => ?_⟩
  refine thn (he.run pins s σ H _ I h) fun u s1 ⟨x, H1, I1, rx, d, kvs, ex, hd, q⟩ => ?_
  subst ex
  obtain rfl : u = Value.ref d := rx
  obtain ⟨od, I2⟩ := I1.lock hd True.intro
  have q := q od
  have hfd : (upd H1 d (.frz od (.dT kvs))) d = some (.frz od (.dT kvs)) := upd_same
  obtain ⟨hs, hgd, hx, es, ep, hdt, hsz, ent⟩ := I2.frzT hfd
  refine iter_keys hs hgd hx hdt (pi_one (tk := s1.toks) I2 _ (turn_keysT _ hdt) ⟨_, Heap.get?_push_size _ rfl, rfl, ?_⟩ q)
  rw [hsz] <;> rfl
section
variable {B H : Hp} {l l' : List (Addr × HO)} {p d : Addr} {o : HO} {od : Obj} {kvs : List (List Key × V)} {σ : L2.St} {td : TE} {R : It → Hp → Prop}
/-- walked dicts of the ledger -/
def WlkK (d : Addr) (H : Hp) (G : List (List Key × V) → Obj → Hp → Prop) : Prop := ∃ kvs, H d = some (.dT kvs) ∧ ∀ o, G kvs o (upd H d (.frz o (.dT kvs)))
theorem i_itemsN : iItemsN td σ H R = td σ H fun x H1 => ∃ d, x = .ref d ∧ WlkK d H1 fun kvs o H2 => R (Itit d o kvs) H2 := propext (by
  unfold iItemsN WlkK
  exact Iff.of_eq (congrArg (td σ H) (funext fun x => funext fun H1 => propext ⟨fun ⟨d, kvs, e, h⟩ => ⟨d, e, kvs, h⟩, fun ⟨d, e, kvs, h⟩ => ⟨d, kvs, e, h⟩⟩)))
theorem i_keysN : iKeysN td σ H R = td σ H fun x H1 => ∃ d, x = .ref d ∧ WlkK d H1 fun kvs o H2 => R (Itkt d o kvs) H2 := propext (by
  unfold iKeysN WlkK
  exact Iff.of_eq (congrArg (td σ H) (funext fun x => funext fun H1 => propext ⟨fun ⟨d, kvs, e, h⟩ => ⟨d, e, kvs, h⟩, fun ⟨d, e, kvs, h⟩ => ⟨d, kvs, e, h⟩⟩)))
theorem WlkK.of {G : List (List Key × V) → Obj → Hp → Prop} {l'' : Obj → List (Addr × HO)} (L : Led B H l) (m : (d, HO.dT kvs) ∈ l) (t : ∀ o, Put l d (.frz o (.dT kvs)) (l'' o)) (k : ∀ o H1, Led B H1 (l'' o) → G kvs o H1) : WlkK d H G :=
  ⟨kvs, L.at m, fun o => k o _ (L.put (t o))⟩
/-- a tuple that stands joins what is kept -/
theorem Led.grab {xs : List V} (L : Led B H l) (h : H p = some (.tup xs)) (hl : ∀ e ∈ l, ∀ ys, e.2 ≠ .tup ys) : ∃ B', Same B B' ∧ B' p = some (.tup xs) ∧ Led B' H l := by
  have ne : ∀ e ∈ l, e.1 ≠ p := fun e he z => by
    have h2 := L.hs e he
    rw [z, h] at h2
    exact hl e he xs (Option.some.inj h2).symm
  refine ⟨upd B p (.tup xs), fun a o z => ?_, upd_same, ⟨fun a o z => ?_, L.nd, fun e he => ?_, L.hs⟩⟩
  · by_cases c : a = p
    · subst c
      rw [upd_same]
      have := L.sm _ _ z
      rw [h] at this
      exact this
    · rw [upd_ne c]; exact z
  · by_cases c : a = p
    · subst c
      rw [upd_same] at z
      rw [← z]; exact h
    · rw [upd_ne c] at z
      exact L.sm _ _ z
  · rw [upd_ne (ne e he)]; exact L.fr e he
end
section
variable {K : PySem.W.Frag} {g : TG} {tb : TS} {D : Ends} {σ : L2.St} {H : Hp} {d : Addr} {o : Obj} {kvs : List (List Key × V)}
theorem loop_itemsT (Pv : Nat → L2.St → Hp → Prop) (h0 : Pv 0 σ H) (hq : ∀ i σ' H', Pv i σ' H' → H' d = some (.frz o (.dT kvs)))
    (hs : ∀ i k v q σ' H' (N : L2.St → Hp → Prop), kvs[i]? = some (k, v) → Pv i σ' H' → H' q = some (.tup (k.map kV)) → (∀ σ2 H2, Pv (i + 1) σ2 H2 → N σ2 H2) → NewK (.tup [.ref q, v]) H' fun t H2 => g (.ref t) σ' H2 fun σ2 H3 => tb { D with nx := N, ct := N, bk := D.nx } σ2 H3)
    (hd : ∀ σ' H', Pv kvs.length σ' H' → D.nx σ' H') : LoopK (Itit d o kvs) g tb D σ H := by
  refine loop_gen kvs.length Pv h0 (fun σ' H' r => ⟨⟨hq _ _ _ r, Nat.le_refl _⟩, hd σ' H' r⟩) fun i σ' H' hi r => ⟨⟨hq _ _ _ r, hi⟩, ?_⟩
  rintro x H2 ⟨T, k, v, q, hkv, rfl, hT, hqq, rfl⟩
  exact hs i k v q σ' _ _ hkv r hqq (fun σ2 H3 z => z) T hT
theorem loop_keysT (Pv : Nat → L2.St → Hp → Prop) (h0 : Pv 0 σ H) (hq : ∀ i σ' H', Pv i σ' H' → H' d = some (.frz o (.dT kvs)))
    (hs : ∀ i k v q σ' H' (N : L2.St → Hp → Prop), kvs[i]? = some (k, v) → Pv i σ' H' → H' q = some (.tup (k.map kV)) → (∀ σ2 H2, Pv (i + 1) σ2 H2 → N σ2 H2) → g (.ref q) σ' H' fun σ2 H3 => tb { D with nx := N, ct := N, bk := D.nx } σ2 H3)
    (hd : ∀ σ' H', Pv kvs.length σ' H' → D.nx σ' H') : LoopK (Itkt d o kvs) g tb D σ H := by
  refine loop_gen kvs.length Pv h0 (fun σ' H' r => ⟨⟨hq _ _ _ r, Nat.le_refl _⟩, hd σ' H' r⟩) fun i σ' H' hi r => ⟨⟨hq _ _ _ r, hi⟩, ?_⟩
  rintro x H2 ⟨rfl, k, v, q, hkv, rfl, hqq⟩
  exact hs i k v q σ' _ _ hkv r hqq (fun σ2 H3 z => z)
end
/-! ### zip of a tuple and a list -/
def ItzTL (K : PySem.W.Frag) (a b : Addr) : It :=
  ⟨fun i H => ∃ (xs ys : List V) (x y : V), SqT K H a xs ∧ SqL K H b ys ∧ xs[i]? = some x ∧ ys[i]? = some y,
    fun i H v H' => ∃ T x y, v = .ref T ∧ H T = none ∧ H' = upd H T (.tup [x, y]) ∧ (∀ xs, SqT K H a xs → xs[i]? = some x) ∧ ∀ ys, SqL K H b ys → ys[i]? = some y,
    fun i H => ∃ xs ys : List V, SqT K H a xs ∧ SqL K H b ys ∧ i = min xs.length ys.length⟩
theorem turn_zipTL {P : Program} {w : World} {K : PySem.W.Frag} {elts : List Expr} {kk : Nat} {tpos : Pos} {a b z TI TO i1 i2 : Addr} (D : ZipSep2 z TI TO i1 i2 [i1, a] [i2, b]) (ha : a ≠ i1) (hb : b ≠ i2) :
    Turn P w K (.Tuple elts kk tpos) (ItzTL K a b) [z, TI, TO, i1, i2] z (fun i h => IsZip h z TI TO .none ∧ IsTupOf2 h TI (.ref i1) (.ref i2) ∧ (∃ x y, IsTupOf2 h TO x y) ∧ h.IsTupleIter i1 a i ∧ h.IsListIter i2 b i) where
  mem := by simp
  obj := fun i h st c hc => by
    obtain ⟨hz, hTI, ⟨x, y, hTO⟩, ⟨o1, e1, _, d1⟩, ⟨o2, e2, _, d2⟩⟩ := st
    have e' : c = z ∨ c = TI ∨ c = TO ∨ c = i1 ∨ c = i2 := by simpa using hc
    rcases e' with q | q | q | q | q
    · rw [q]; exact ⟨_, hz, fun v q => nomatch q⟩
    · rw [q]; exact ⟨_, hTI, fun v q => nomatch q⟩
    · rw [q]; exact ⟨_, hTO, fun v q => nomatch q⟩
    · rw [q]; exact ⟨o1, e1, fun v q => by rw [d1] at q; cases q⟩
    · rw [q]; exact ⟨o2, e2, fun v q => by rw [d2] at q; cases q⟩
  keep := fun i h h' st k => by
    obtain ⟨hz, hTI, ⟨x, y, hTO⟩, h1, h2⟩ := st
    exact ⟨k z (by simp) _ hz, k TI (by simp) _ hTI, ⟨x, y, k TO (by simp) _ hTO⟩, h1.at fun o q => k i1 (by simp) o q, h2.at fun o q => k i2 (by simp) o q⟩
  item := by
    intro X hP hw hK hc i pins s σ H E I hf st hg
    subst hP hw hK
    obtain ⟨hz, hTI, ⟨x0, y0, hTO⟩, h1, h2⟩ := st
    obtain ⟨xs, ys, x, y, hqx, hqy, hx, hy⟩ := hg
    obtain ⟨its, rv, p, _⟩ := I.tuple hqx
    obtain ⟨its2, rv2, p2, _⟩ := I.list hqy
    obtain ⟨u, hu, ru⟩ := rv.get hx
    obtain ⟨u2, hu2, ru2⟩ := rv2.get hy
    have hzl : z < s.heap.objs.size := Heap.lt_size hz
    have hh : X.A.in1.handled = none := I.ok.hd hc
    have st1 : s.heap.IsTupleIter i1 a i ∧ s.heap.IsTuple a its.toArray := ⟨h1, p⟩
    have st2 : s.heap.IsListIter i2 b i ∧ s.heap.IsList b its2.toArray := ⟨h2, p2.isList⟩
    have n1 : i < its.toArray.size := by have := (List.getElem?_eq_some_iff.mp hu).1; simpa using this
    have n2 : i < its2.toArray.size := by have := (List.getElem?_eq_some_iff.mp hu2).1; simpa using this
    refine wpAny_pyNext_zipD2_item D (Draws.tuple hh i1 a ha its.toArray) (Draws.list hh i2 b hb its2.toArray) hz hTI hTO st1 st2 n1 n2 fun x1 x2 h' tk e1 e2 z' TO' s1' s2' hT hsz hk => ?_
    obtain rfl : x1 = u := by
      have e1 : its.toArray[i]? = some x1 := e1
      rw [List.getElem?_toArray, hu] at e1
      exact (Option.some.inj e1).symm
    obtain rfl : x2 = u2 := by
      have e2 : its2.toArray[i]? = some x2 := e2
      rw [List.getElem?_toArray, hu2] at e2
      exact (Option.some.inj e2).symm
    refine ⟨_, rfl, wpAny_letOwnedTupleGo_zip (s := { s with heap := h', toks := tk }) z' fun h'' z'' sb => ?_⟩
    have hT2 : h''.get? s.heap.objs.size = some { cls := .type "tuple", data := .seq #[x1, x2] } := (sb.2 _ (Nat.ne_of_gt hzl)).trans hT
    have new : ObjOk X.prog X.w (upd H s.heap.objs.size (.tup [x, y])) h'' s.heap.objs.size (.tup [x, y]) :=
      ⟨by show 2 ≤ sizeLine; decide, [x1, x2], .cons ru (.cons ru2 .nil), ⟨_, hT2, rfl, _, rfl⟩⟩
    have I1 : L2.Inv X pins σ (upd H s.heap.objs.size (.tup [x, y])) { s with heap := h'', toks := tk } :=
      I.turnedNew (t' := tk) (ch := [z, TI, TO, i1, i2]) (fun c o hb q => (sb.2 c (fun q' => hb (by simp [q']))).trans (hk c o (fun q' => hb (by simp [q'])) (fun q' => hb (by simp [q'])) (fun q' => hb (by simp [q'])) (fun q' => hb (by simp [q'])) q)) hf (Nat.le_refl _) new
    refine ⟨.ref s.heap.objs.size, _, I1, rfl, ⟨_, x, y, rfl, I.hok.fresh (Nat.le_refl _), rfl, fun l hl => by rw [I.tuple_inj hl hqx]; exact hx, fun l hl => by rw [I.list_inj hl hqy]; exact hy⟩, ⟨z'', ?_, ⟨x1, x2, ?_⟩, ?_, ?_⟩, fun c hcm => ?_⟩
    · exact (sb.2 _ D.TIz).trans (hk _ _ D.TIz D.TITO D.TIi1 D.TIi2 hTI)
    · exact (sb.2 _ D.TOz).trans TO'
    · exact s1'.1.at fun o q => (sb.2 _ (Ne.symm D.zi1)).trans q
    · exact s2'.1.at fun o q => (sb.2 _ (Ne.symm D.zi2)).trans q
    · have hlt : c < s.heap.objs.size := by
        have e' : c = z ∨ c = TI ∨ c = TO ∨ c = i1 ∨ c = i2 := by simpa using hcm
        rcases e' with q | q | q | q | q
        · rw [q]; exact hzl
        · rw [q]; exact Heap.lt_size hTI
        · rw [q]; exact Heap.lt_size hTO
        · rw [q]; obtain ⟨_, e1, _⟩ := h1; exact Heap.lt_size e1
        · rw [q]; obtain ⟨_, e2, _⟩ := h2; exact Heap.lt_size e2
      rw [upd_ne (Nat.ne_of_lt hlt)]
      exact (hf c hcm).1
  done := by
    intro X hP hw hK hc i pins s σ H E I hf st hg
    subst hP hw hK
    obtain ⟨hz, hTI, ⟨x0, y0, hTO⟩, h1, h2⟩ := st
    obtain ⟨xs, ys, hqx, hqy, hend⟩ := hg
    obtain ⟨its, rv, p, _⟩ := I.tuple hqx
    obtain ⟨its2, rv2, p2, _⟩ := I.list hqy
    have l1 := rv.length
    have l2 := rv2.length
    have hh : X.A.in1.handled = none := I.ok.hd hc
    have st1 : s.heap.IsTupleIter i1 a i ∧ s.heap.IsTuple a its.toArray := ⟨h1, p⟩
    have st2 : s.heap.IsListIter i2 b i ∧ s.heap.IsList b its2.toArray := ⟨h2, p2.isList⟩
    exact wpAny_pyNext_zipD2_end D (Draws.tuple hh i1 a ha its.toArray) (Draws.list hh i2 b hb its2.toArray) hz hTI hTO st1 st2 (by simp; omega) (by simp; omega) (by simp; omega) fun h' tk hk => ⟨rfl, I.turnedL (t' := tk) (ch := [z, TI, TO, i1, i2]) (fun c o hb q =>
      hk c o (fun q' => hb (by simp [q'])) (fun q' => hb (by simp [q'])) (fun q' => hb (by simp [q'])) (fun q' => hb (by simp [q'])) q) hf⟩
  self := fun A i s Q E st h => wpAny_pyIter_zip st.1 h
def iZipTL (K : PySem.W.Frag) (ta : TA) : TI := fun σ H R => ta σ H fun vs H1 => ∃ a b xs ys, vs = [.ref a, .ref b] ∧ SqT K H1 a xs ∧ SqL K H1 b ys ∧ R (ItzTL K a b) H1
theorem pi_zipTL {X : Cx} {e e2 : Expr} {ta : TA} {p pos tpos : Pos} {elts : List Expr} {kk : Nat} (hg : Gl X "zip") (hm : X.mg "zip" = none) (ha : PA X [e, e2] ta)
    (hs : starEach [e, e2] X.env = (false, eval e X.env) :: starEach [e2] X.env := by rfl) (hpl : (backTo pos (starEach [e2] X.env)).any (·.1) = false := by rfl) :
    PI X (.Tuple elts kk tpos) (.Call (.Name "zip" p) [e, e2] [] pos) (iZipTL X.K ta) := by
  refine ⟨fun pins s σ H R I h => ?_⟩
  refine Call_ (ld_blt I hg hm PyProof.Rows.boot_zip (PyProof.Rows.callWith_type1 (thn (ha.run pos pins s σ H _ I h) fun us s1 ⟨vs, H1, I1, r1, q1⟩ => ?_) hs hpl))
  obtain ⟨a, b, xs, ys, ex, hqx, hqy, q⟩ := q1
  subst ex
  cases r1 with
  | cons r rr =>
    cases rr with
    | cons r' rr =>
      cases rr
      cases r
      cases r'
      obtain ⟨its, rv, p1, _⟩ := I1.tuple hqx
      obtain ⟨its2, rv2, p2, _⟩ := I1.list hqy
      have la : a < s1.heap.objs.size := p1.lt
      have lb : b < s1.heap.objs.size := p2.lt
      refine zip_begins2 (begins_tuple a its.toArray) (begins_list b its2.toArray) p1 p2.isList fun h' hz hTI hTO h1 h2 hsz hk => wpAny_pyIter_zip hz ?_
      have I2 : L2.Inv X pins σ H1 { s1 with heap := h' } := I1.kept (t' := s1.toks) hk
      refine ⟨s1.heap.objs.size + 4, [s1.heap.objs.size + 4, s1.heap.objs.size + 2, s1.heap.objs.size + 3, s1.heap.objs.size, s1.heap.objs.size + 1], _, _, H1, rfl, I2, turn_zipTL (zip_sep2 (fun c hc => by rw [List.mem_singleton.mp hc]; exact la) (fun c hc => by rw [List.mem_singleton.mp hc]; exact lb)) (Nat.ne_of_lt la) (Nat.ne_of_lt (Nat.lt_succ_of_lt lb)), ⟨hz, hTI, ⟨_, _, hTO⟩, ⟨_, h1, rfl, rfl⟩, ⟨_, h2, rfl, rfl⟩⟩, fun c hcm => ?_, q⟩
      have e' : c = s1.heap.objs.size + 4 ∨ c = s1.heap.objs.size + 2 ∨ c = s1.heap.objs.size + 3 ∨ c = s1.heap.objs.size ∨ c = s1.heap.objs.size + 1 := by simpa using hcm
      have hle : s1.heap.objs.size ≤ c := by
        rcases e' with z | z | z | z | z
        · rw [z]; exact Nat.le_add_right _ _
        · rw [z]; exact Nat.le_add_right _ _
        · rw [z]; exact Nat.le_add_right _ _
        · rw [z]; exact Nat.le_refl _
        · rw [z]; exact Nat.le_add_right _ _
      exact I1.fpOk hle (I1.hok.fresh hle)
section
variable {K : PySem.W.Frag} {g : TG} {tb : TS} {D : Ends} {σ : L2.St} {H : Hp} {a b : Addr} {xs ys : List V} {ta : TA} {R : It → Hp → Prop}
theorem i_zipTL : iZipTL K ta σ H R = ta σ H fun vs H1 => ∃ a b, vs = [.ref a, .ref b] ∧ (∃ xs, SqT K H1 a xs) ∧ (∃ ys, SqL K H1 b ys) ∧ R (ItzTL K a b) H1 := propext (by
  unfold iZipTL
  exact Iff.of_eq (congrArg (ta σ H) (funext fun x => funext fun H1 => propext ⟨fun ⟨a, b, xs, ys, e, h1, h2, h3⟩ => ⟨a, b, e, ⟨xs, h1⟩, ⟨ys, h2⟩, h3⟩, fun ⟨a, b, e, ⟨xs, h1⟩, ⟨ys, h2⟩, h3⟩ => ⟨a, b, xs, ys, e, h1, h2, h3⟩⟩)))
theorem loop_zipTL (hl : xs.length = ys.length) (Pv : Nat → L2.St → Hp → Prop) (h0 : Pv 0 σ H) (hq : ∀ i σ' H', Pv i σ' H' → SqT K H' a xs ∧ SqL K H' b ys)
    (hs : ∀ i x y σ' H' (N : L2.St → Hp → Prop), xs[i]? = some x → ys[i]? = some y → Pv i σ' H' → (∀ σ2 H2, Pv (i + 1) σ2 H2 → N σ2 H2) → NewK (.tup [x, y]) H' fun t H2 => g (.ref t) σ' H2 fun σ2 H3 => tb { D with nx := N, ct := N, bk := D.nx } σ2 H3)
    (hd : ∀ σ' H', Pv xs.length σ' H' → D.nx σ' H') : LoopK (ItzTL K a b) g tb D σ H := by
  refine loop_gen xs.length Pv h0 (fun σ' H' r => ⟨?_, hd σ' H' r⟩) fun i σ' H' hi r => ?_
  · obtain ⟨q1, q2⟩ := hq _ _ _ r
    exact ⟨xs, ys, q1, q2, by omega⟩
  · obtain ⟨q1, q2⟩ := hq _ _ _ r
    have hi2 : i < ys.length := by omega
    refine ⟨⟨xs, ys, _, _, q1, q2, List.getElem?_eq_getElem hi, List.getElem?_eq_getElem hi2⟩, ?_⟩
    rintro v H2 ⟨T, x, y, rfl, hT, rfl, f1, f2⟩
    exact hs i x y σ' _ _ (f1 xs q1) (f2 ys q2) r (fun σ2 H3 z => z) T hT
end
/-! ### enumerate of a tuple -/
set_option maxHeartbeats 4000000 in
theorem meets_enumerate_newB1 {v : Value} {o : Obj} {H : Heap → Prop} (B : Begins v o H) :
    Meets (Builtin.«enumerate.__new__» ⟨[.type "enumerate", v], []⟩) (fun _ R s => H s.heap ∧
      R (.ok (.ret (.ref (s.heap.push o).objs.size))) { s with heap := (s.heap.push o).push { cls := .type "enumerate", data := .fields #[.none, .bool false, .ref s.heap.objs.size, rawInt 0, .none, .none] } }) :=
  .of_wp fun prog w A R s h => by
    obtain ⟨hp, g, d, tk, os⟩ := s; obtain ⟨h1, h⟩ := h
    have hsub := sub_enumerate
    have q1 : ∀ {A' : Around} {E : Value → Shared → Prop} {Q : Value → Shared → Prop}, Q (.ref hp.objs.size) ⟨hp.push o, g, d, tk, os⟩ → wpAny (model prog w) A' (pyIter v) Q E ⟨hp, g, d, tk, os⟩ :=
      fun q => B.iter prog w _ _ ⟨hp, g, d, tk, os⟩ _ h1 q
    wp_walk using q1
    refine wpAny_stack_any fun st => wpAny_pure ?_
    split
    · rename_i c _ _ _ _ _
      cases (c == Value.type "enumerate")
      · wp_walk using q1
        exact ⟨_, rfl, h⟩
      · wp_walk using q1
        exact ⟨_, rfl, h⟩
    · wp_walk using q1
      exact ⟨_, rfl, h⟩
theorem enum_begins1 {prog : Program} {w : World} {A : Around} {E : Value → Shared → Prop} {s : Shared} {v : Value} {o : Obj} {H : Heap → Prop} {Q : Value → Shared → Prop} (B : Begins v o H) (h1 : H s.heap)
    (h : ∀ h', IsEnum h' (s.heap.objs.size + 1) s.heap.objs.size 0 .none → h'.get? s.heap.objs.size = some o → h'.objs.size = s.heap.objs.size + 2 →
      (∀ b o, s.heap.get? b = some o → h'.get? b = some o) → Q (.ref (s.heap.objs.size + 1)) { s with heap := h' }) :
    wpAny (model prog w) A (call (.type "enumerate") [v]) Q E s := by
  refine callType_new F.called_enumerate (by decide) (F.typeCall_enumerate_1 _) (F.newCall_enumerate_1 _) (fun obj => F.args_object_init_2 obj _) F.entry_enumerate_new
    (meets_enumerate_newB1 B) ⟨h1, ?_⟩
  have hz : (s.heap.push o).objs.size = s.heap.objs.size + 1 := Heap.size_push ..
  show _ ∧ _
  rw [hz]
  have he : IsEnum ((s.heap.push o).push { cls := .type "enumerate", data := .fields #[.none, .bool false, .ref s.heap.objs.size, rawInt 0, .none, .none] }) (s.heap.objs.size + 1) s.heap.objs.size 0 .none := by
    have := Heap.get?_push_size (s.heap.push o) (o := { cls := .type "enumerate", data := .fields #[.none, .bool false, .ref s.heap.objs.size, rawInt 0, .none, .none] }) rfl
    rw [hz] at this; exact this
  refine ⟨⟨_, he, rfl⟩, h _ he (Heap.get?_push_of_some _ (Heap.get?_push_size _ B.free)) (by rw [Heap.size_push, hz]) fun b o x => Heap.get?_push_of_some _ (Heap.get?_push_of_some _ x)⟩
def IteT (K : PySem.W.Frag) (a : Addr) : It :=
  ⟨fun i H => ∃ (xs : List V) (x : V), SqT K H a xs ∧ xs[i]? = some x, fun i H v H' => ∃ T x, v = .ref T ∧ H T = none ∧ H' = upd H T (.tup [.int (i : Nat), x]) ∧ ∀ xs, SqT K H a xs → xs[i]? = some x, fun i H => ∃ xs : List V, SqT K H a xs ∧ i = xs.length⟩
theorem turn_enumT {P : Program} {w : World} {K : PySem.W.Frag} {elts : List Expr} {kk : Nat} {tpos : Pos} (a e it : Addr) (ha : a ≠ it) (hea : e ≠ a) :
    Turn P w K (.Tuple elts kk tpos) (IteT K a) [e, it] e (fun i h => (∃ old, IsEnum h e it ((i : Nat) : Int) old) ∧ h.IsTupleIter it a i ∧ e ≠ it) where
  mem := by simp
  obj := fun i h st b hb => by
    obtain ⟨⟨old, he⟩, ⟨o, ho, hc, hd⟩, _⟩ := st
    have e' : b = e ∨ b = it := by simpa using hb
    rcases e' with z | z
    · rw [z]; exact ⟨_, he, fun v q => nomatch q⟩
    · rw [z]; exact ⟨o, ho, fun v q => by rw [hd] at q; cases q⟩
  keep := fun i h h' st k => let ⟨⟨old, he⟩, hi, hne⟩ := st; ⟨⟨old, k e (by simp) _ he⟩, hi.at fun o q => k it (by simp) o q, hne⟩
  item := by
    intro X hP hw hK hc i pins s σ H E I hf st hg
    subst hP hw hK
    obtain ⟨⟨old, he⟩, hit, hne⟩ := st
    obtain ⟨xs, x, hq, hx⟩ := hg
    obtain ⟨its, rv, p, hz⟩ := I.tuple hq
    obtain ⟨u, hu, ru⟩ := rv.get hx
    have hel : e < s.heap.objs.size := Heap.lt_size he
    have hil : it < s.heap.objs.size := by obtain ⟨_, q, _⟩ := hit; exact Heap.lt_size q
    have hh : X.A.in1.handled = none := I.ok.hd hc
    have st1 : s.heap.IsTupleIter it a i ∧ s.heap.IsTuple a its.toArray := ⟨hit, p⟩
    have n1 : i < its.toArray.size := by have := (List.getElem?_eq_some_iff.mp hu).1; simpa using this
    refine wpAny_pyNext_enum_itemC (Draws.tuple hh it a ha its.toArray) he st1 n1 hne (by simp [hne, hea]) fun x1 h' tk e1 ho s1' hT hsz hk => ?_
    obtain rfl : x1 = u := by
      have e1 : its.toArray[i]? = some x1 := e1
      rw [List.getElem?_toArray, hu] at e1
      exact (Option.some.inj e1).symm
    refine ⟨_, rfl, wpAny_letOwnedTupleGo_enum (s := { s with heap := h', toks := tk + 1 }) ho fun h'' he' sb => ?_⟩
    have hT2 : h''.get? s.heap.objs.size = some { cls := .type "tuple", data := .seq #[.int i tk, x1] } := (sb.2 _ (Nat.ne_of_gt hel)).trans hT
    have new : ObjOk X.prog X.w (upd H s.heap.objs.size (.tup [.int (i : Nat), x])) h'' s.heap.objs.size (.tup [.int (i : Nat), x]) :=
      ⟨by show 2 ≤ sizeLine; decide, [.int i tk, x1], .cons ⟨_, rfl⟩ (.cons ru .nil), ⟨_, hT2, rfl, _, rfl⟩⟩
    have I1 : L2.Inv X pins σ (upd H s.heap.objs.size (.tup [.int (i : Nat), x])) { s with heap := h'', toks := tk + 1 } :=
      I.turnedNew (ch := [e, it]) (fun b ob hb q => (sb.2 b (fun z => hb (by simp [z]))).trans (hk b ob (fun z => hb (by simp [z])) (fun z => hb (by simp [z])) q)) hf (Nat.le_refl _) new
    refine ⟨.ref s.heap.objs.size, _, I1, rfl, ⟨_, x, rfl, I.hok.fresh (Nat.le_refl _), rfl, fun ys hy => by rw [I.tuple_inj hy hq]; exact hx⟩, ⟨⟨x1, ?_⟩, s1'.1.at fun o q => (sb.2 it (Ne.symm hne)).trans q, hne⟩, fun b hb => ?_⟩
    · have e1 : ((i + 1 : Nat) : Int) = (i : Int) + 1 := by omega
      rw [e1]; exact he'
    · have hb' : b < s.heap.objs.size := by
        have e' : b = e ∨ b = it := by simpa using hb
        rcases e' with z | z
        · rw [z]; exact hel
        · rw [z]; exact hil
      rw [upd_ne (Nat.ne_of_lt hb')]
      exact (hf b hb).1
  done := by
    intro X hP hw hK hc i pins s σ H E I hf st hg
    subst hP hw hK
    obtain ⟨⟨old, he⟩, hit, hne⟩ := st
    obtain ⟨xs, hq, hx⟩ := hg
    obtain ⟨its, rv, p, hz⟩ := I.tuple hq
    obtain ⟨f0, f1, f2, f3, f4, f5⟩ := hf it (by simp)
    have hl := rv.length
    have hh : X.A.in1.handled = none := I.ok.hd hc
    have st1 : s.heap.IsTupleIter it a its.toArray.size ∧ s.heap.IsTuple a its.toArray := ⟨by rw [show its.toArray.size = i by simp; omega]; exact hit, p⟩
    exact wpAny_pyNext_enum_endD (Draws.tuple hh it a ha its.toArray) he st1 fun h' eb => ⟨rfl, I.turned (t' := s.toks) (fun b o hb q => eb b o hb q) f0 f1 f3 f4 f5⟩
  self := fun A i s Q E st h => let ⟨⟨_, he⟩, _⟩ := st; wpAny_pyIter_enum he h
def iEnumT (K : PySem.W.Frag) (ta : TA) : TI := fun σ H R => ta σ H fun vs H1 => ∃ a xs, vs = [.ref a] ∧ SqT K H1 a xs ∧ R (IteT K a) H1
theorem pi_enumT {X : Cx} {e : Expr} {ta : TA} {p pos tpos : Pos} {elts : List Expr} {kk : Nat} (hg : Gl X "enumerate") (hm : X.mg "enumerate" = none) (ha : PA X [e] ta) (hs : starEach [e] X.env = [(false, eval e X.env)] := by rfl) :
    PI X (.Tuple elts kk tpos) (.Call (.Name "enumerate" p) [e] [] pos) (iEnumT X.K ta) := by
  refine ⟨fun pins s σ H R I h => ?_⟩
  refine Call_ (ld_blt I hg hm boot_enumerate (PyProof.Rows.callWith_type1 (thn (ha.run pos pins s σ H _ I h) fun us s1 ⟨vs, H1, I1, r1, q1⟩ => ?_) hs rfl))
  obtain ⟨a, xs, ex, hq, q⟩ := q1
  subst ex
  cases r1 with
  | cons r rr =>
    cases rr
    cases r
    obtain ⟨its, rv, p', hz⟩ := I1.tuple hq
    have la : a < s1.heap.objs.size := p'.lt
    refine enum_begins1 (begins_tuple a its.toArray) p' fun h' he hit hsz hk => wpAny_pyIter_enum he ?_
    have I2 : L2.Inv X pins σ H1 { s1 with heap := h' } := I1.kept (t' := s1.toks) hk
    refine ⟨s1.heap.objs.size + 1, [s1.heap.objs.size + 1, s1.heap.objs.size], _, _, H1, rfl, I2, turn_enumT a (s1.heap.objs.size + 1) s1.heap.objs.size (Nat.ne_of_lt la) (Nat.ne_of_gt (Nat.lt_succ_of_lt la)), ⟨⟨.none, he⟩, ⟨_, hit, rfl, rfl⟩, Nat.succ_ne_self _⟩, fun b hb => ?_, q⟩
    have e' : b = s1.heap.objs.size + 1 ∨ b = s1.heap.objs.size := by simpa using hb
    have hle : s1.heap.objs.size ≤ b := by
      rcases e' with z | z
      · rw [z]; exact Nat.le_add_right _ _
      · rw [z]; exact Nat.le_refl _
    exact I1.fpOk hle (I1.hok.fresh hle)
section
variable {K : PySem.W.Frag} {g : TG} {tb : TS} {D : Ends} {σ : L2.St} {H : Hp} {a : Addr} {xs : List V} {ta : TA} {R : It → Hp → Prop}
theorem i_enumT : iEnumT K ta σ H R = ta σ H fun vs H1 => ∃ a xs, vs = [.ref a] ∧ SqT K H1 a xs ∧ R (IteT K a) H1 := propext ⟨fun h => h, fun h => h⟩
theorem loop_enumT (Pv : Nat → L2.St → Hp → Prop) (h0 : Pv 0 σ H) (hq : ∀ i σ' H', Pv i σ' H' → SqT K H' a xs)
    (hs : ∀ i x σ' H' (N : L2.St → Hp → Prop), xs[i]? = some x → Pv i σ' H' → (∀ σ2 H2, Pv (i + 1) σ2 H2 → N σ2 H2) → NewK (.tup [.int (i : Nat), x]) H' fun t H2 => g (.ref t) σ' H2 fun σ2 H3 => tb { D with nx := N, ct := N, bk := D.nx } σ2 H3)
    (hd : ∀ σ' H', Pv xs.length σ' H' → D.nx σ' H') : LoopK (IteT K a) g tb D σ H := by
  refine loop_gen xs.length Pv h0 (fun σ' H' r => ⟨⟨xs, hq _ _ _ r, rfl⟩, hd σ' H' r⟩) fun i σ' H' hi r => ?_
  refine ⟨⟨xs, xs[i], hq _ _ _ r, List.getElem?_eq_getElem hi⟩, ?_⟩
  rintro v H2 ⟨t, x, rfl, ht, rfl, hx⟩
  exact hs i x σ' _ _ (hx xs (hq _ _ _ r)) r (fun σ2 H3 z => z) t ht
end
/-! ### a dict == an empty one -/
theorem samePairs0 {prog : Program} {w : World} {A : Around} {E : Value → Shared → Prop} {s : Shared} {nm : String} {a b : Addr} {es : Array DictEntry} {ep ep' : Nat} {Q : Bool → Shared → Prop} (ha : (a == sysModules) = false) (hb : (b == sysModules) = false)
    (da : DT.Raw s.heap a es ep) (db : DT.Raw s.heap b #[] ep') (h : Q (es.size == 0) s) : wpAny (model prog w) A (Builtin.Dict.samePairs nm a b) Q E s := by
  obtain ⟨oa, hoa, _, hda⟩ := da
  obtain ⟨ob, hob, _, hdb⟩ := db
  unfold Builtin.Dict.samePairs Builtin.Dict.showsAll
  rw [if_neg (show ¬ (a == sysModules) = true by rw [ha]; exact Bool.false_ne_true), if_neg (show ¬ (b == sysModules) = true by rw [hb]; exact Bool.false_ne_true)]
  refine wpAny_bind (wpAny_pure (wpAny_bind (wpAny_pure ?_)))
  refine wpAny_bind (wpAny_dictEntries hoa hda ?_)
  dsimp only
  refine wpAny_bind (wpAny_dictEntries hob hdb ?_)
  by_cases hsz : es.size = 0
  case neg =>
    rw [if_pos (by simpa using hsz)]
    have hbf : (es.size == 0) = false := by simpa using hsz
    rw [hbf] at h
    exact wpAny_bind (wpAny_rule (wpAny_pure h))
  case pos =>
    rw [hsz] at h
    rw [if_neg (by rw [hsz]; simp)]
    refine wpAny_bind (wpAny_dictEpoch hoa hda ?_)
    refine wpAny_bind ?_
    rw [Std.Legacy.Range.forIn_eq_forIn_range']
    simp only [Std.Legacy.Range.size, Nat.sub_zero, Nat.add_sub_cancel, Nat.div_one, hsz, List.range'_zero]
    rw [List.forIn_nil]
    exact wpAny_pure (wpAny_pure h)
theorem rc_empty {prog : Program} {w : World} {A : Around} {E : Value → Shared → Prop} {s : Shared} {a b : Addr} {es : Array DictEntry} {ep ep' : Nat} {Q : Value → Shared → Prop} (ha : (a == sysModules) = false) (hb : (b == sysModules) = false)
    (da : DT.Raw s.heap a es ep) (db : DT.Raw s.heap b #[] ep') (hu : A.units < cLine) (h : Q (.bool (es.size == 0)) s) : wpAny (model prog w) A (richCompare .Eq (.ref a) (.ref b)) Q E s := by
  refine wpAny_richCompare_same_room (op := .Eq) da.typeIs db.typeIs PySem.F.slot_dict_eq (wpAny_call_entry PySem.F.slot_dict_eq da.typeIs PySem.F.entry_dict_eq ?_ (PySem.F.args_dict_eq_2 _ _)) hu
  show wpAny _ _ (Builtin.Dict.dictSlotArgs "__eq__" ⟨[.ref a, .ref b], []⟩ >>= _) _ _ s
  refine wpAny_bind ?_
  unfold Builtin.Dict.dictSlotArgs
  refine wpAny_bind (wpAny_notOrdered_dict da.typeIs ?_)
  show wpAny _ _ (pure (Value.ref a, Value.ref b)) _ _ s
  refine wpAny_pure ?_
  refine wpAny_bind (wpAny_isInstance (T := "dict") db.typeIs PySem.F.sub_dict_dict ?_)
  simp only [Bool.not_true, Bool.false_eq_true, if_false]
  refine wpAny_bind (wpAny_pure (wpAny_bind (wpAny_pure ?_)))
  refine wpAny_bind (samePairs0 ha hb da db ?_)
  refine wpAny_pure ⟨_, rfl, ?_, ?_⟩
  · exact fun x => nomatch x
  · simpa using h
theorem dictOf_raw {prog : Program} {w : World} {κ : Type} [DecidableEq κ] {knd : KeyKind prog w κ} {h : Heap} {a : Addr} {kvs : List (κ × Value)} (d : h.DictOf knd a kvs) : ∃ es ep, DT.Raw h a es ep ∧ es.size = kvs.length := by
  obtain ⟨o, es, ep, h1, h2, h3, h4, h5, _⟩ := d
  exact ⟨es, ep, ⟨o, h1, h2, h3⟩, by rw [← h5.length]; exact Array.length_toList.symm⟩
/-- the dict at a has n items -/
def DLen (H : Hp) (a : Addr) (n : Nat) : Prop := (∃ kvs, Rd H a (.dT kvs) ∧ n = kvs.length) ∨ ∃ kvs, Rd H a (.dK kvs) ∧ n = kvs.length
theorem DLen.raw {X : Cx} {pins : List (Addr × Obj)} {σ : L2.St} {H : Hp} {s : Shared} {a : Addr} {n : Nat} (I : L2.Inv X pins σ H s) (d : DLen H a n) : (a == sysModules) = false ∧ ∃ es ep, DT.Raw s.heap a es ep ∧ es.size = n := by
  rcases d with ⟨kvs, hr, rfl⟩ | ⟨kvs, hr, rfl⟩
  · obtain ⟨z, hd, xs, pr, o, es, ep, ho, hx, hdt, he, hn⟩ := (show ObjOk X.prog X.w H s.heap a (.dT kvs) from hr.ok I.hok)
    have l1 : es.size = xs.length := size_of_entries he
    have l2 : kvs.length = xs.length := Paired.length pr
    exact ⟨hd, es, ep, ⟨o, ho, hx, hdt⟩, by omega⟩
  · obtain ⟨z, hd, vs, rel, dd⟩ := dk_rd I.hok hr
    obtain ⟨es, ep, r, e⟩ := dictOf_raw dd
    exact ⟨hd, es, ep, r, by rw [e, ← rel.length]⟩
def rEqE : R2 := fun x y H Q => ∃ a b n, x = .ref a ∧ y = .ref b ∧ DLen H a n ∧ DLen H b 0 ∧ Q (.bl (n == 0)) H
theorem op_eqE {X : Cx} (hu : X.A.units + 64 < cLine) : OpR X (compareOp .Eq) rEqE := by
  intro pins s σ H x y v u Q I rx ry h
  obtain ⟨a, b, n, rfl, rfl, da, db, q⟩ := h
  cases (show v = Value.ref a from rx)
  cases (show u = Value.ref b from ry)
  obtain ⟨h1, es, ep, r1, e1⟩ := da.raw I
  obtain ⟨h2, es2, ep2, r2, e2⟩ := db.raw I
  cases Array.size_eq_zero_iff.mp e2
  show wpAny (model X.prog X.w) X.A (richCompare .Eq (.ref a) (.ref b)) _ _ _
  refine rc_empty h1 h2 r1 r2 (by omega) ⟨.bl (n == 0), H, I, by rw [e1]; rfl, q⟩
def EqEK (a b : Addr) (H : Hp) (G : Bool → Prop) : Prop := ∃ n, DLen H a n ∧ DLen H b 0 ∧ G (n == 0)
theorem x_eqE {a b : Addr} {H : Hp} {Q : VK} : rEqE (.ref a) (.ref b) H Q ↔ EqEK a b H fun c => Q (.bl c) H := ⟨fun ⟨_, _, n, e1, e2, d1, d2, q⟩ => by cases e1; cases e2; exact ⟨n, d1, d2, q⟩, fun ⟨n, d1, d2, q⟩ => ⟨a, b, n, rfl, rfl, d1, d2, q⟩⟩
theorem EqEK.t {B H : Hp} {l : List (Addr × HO)} {a b : Addr} {kvs : List (List Key × V)} {G : Bool → Prop} (h1 : H a = some (.dT kvs)) (h2 : H b = some (.dT [])) (q : G kvs.isEmpty) : EqEK a b H G :=
  ⟨kvs.length, .inl ⟨kvs, .inl h1, rfl⟩, .inl ⟨[], .inl h2, rfl⟩, by rw [show (kvs.length == 0) = kvs.isEmpty by cases kvs <;> rfl]; exact q⟩
/-! ### x is True, x is False -/
theorem x_isB {a b : Bool} {H : Hp} {Q : VK} : rIsB (.bl a) (.bl b) H Q ↔ Q (.bl (decide (a = b))) H := ⟨fun ⟨_, _, e1, e2, q⟩ => by cases e1; cases e2; exact q, fun q => ⟨a, b, rfl, rfl, q⟩⟩
theorem x_notB {a b : Bool} {H : Hp} {Q : VK} : rNotB (.bl a) (.bl b) H Q ↔ Q (.bl (!decide (a = b))) H := ⟨fun ⟨_, _, e1, e2, q⟩ => by cases e1; cases e2; exact q, fun q => ⟨a, b, rfl, rfl, q⟩⟩
/-! ### list(d) -/
def rLstD : List V → Hp → VK → Prop := fun xs H Q => ∃ d kvs, xs = [V.ref d] ∧ Rd H d (.dT kvs) ∧ ∀ p bs, H p = none → IsKeys H kvs bs → Q (.ref p) (upd H p (.lst (bs.map V.ref)))
theorem cr_lstD {X : Cx} (hc : X.calm = true) : CallR X (.type "list") rLstD := call_list_dT hc
def LstDK (d : Addr) (H : Hp) (G : Addr → Hp → Prop) : Prop := ∃ kvs, Rd H d (.dT kvs) ∧ ∀ bs, IsKeys H kvs bs → NewK (.lst (bs.map V.ref)) H G
theorem x_lstD {d : Addr} {H : Hp} {Q : VK} : rLstD [.ref d] H Q ↔ LstDK d H fun p H1 => Q (.ref p) H1 := ⟨fun ⟨_, kvs, e, h, q⟩ => by cases e; exact ⟨kvs, h, fun bs hk p hp => q p bs hp hk⟩, fun ⟨kvs, h, q⟩ => ⟨d, kvs, rfl, h, fun p bs hp hk => q bs hk p hp⟩⟩
/-! ### sum of a tuple of ints -/
theorem fold_ints : ∀ (ns : List Int) (a : Int), PySem.W.Num.foldFrom PySem.W.Num.add (.int a) (ns.map .int) = some (.int (a + ns.sum))
  | [], a => by rw [List.map_nil, List.sum_nil, Int.add_zero]; rfl
  | b :: r, a => by
    rw [List.map_cons, List.sum_cons, ← Int.add_assoc, ← fold_ints r (a + b)]
    rfl
theorem sum_ints : ∀ (ns : List Int) (a : Int), PySem.W.Num.sumInts a (ns.map .int) = some (.int (a + ns.sum))
  | [], a => by rw [List.map_nil, List.sum_nil, Int.add_zero]; rfl
  | b :: r, a => by
    rw [List.map_cons, List.sum_cons, ← Int.add_assoc]
    unfold PySem.W.Num.sumInts
    split
    · exact sum_ints r (a + b)
    · exact fold_ints r (a + b)
def rSumN (K : PySem.W.Frag) : List V → Hp → VK → Prop := fun vs H Q => ∃ (a : Addr) (ns : List Int), vs = [.ref a] ∧ SqT K H a (ns.map V.int) ∧ Q (.int ns.sum) H
theorem ints_vals : ∀ {ns : List Int} {its : List Value}, Vals (ns.map V.int) its → ∀ (k : Nat) (v : Value), its[k]? = some v → ∃ i t, ns[k]? = some i ∧ v = .int i t
  | [], _, .nil, k, v, h => by simp at h
  | n :: r, _, .cons ⟨t, e⟩ rr, 0, v, h => by cases h; exact ⟨n, t, rfl, e⟩
  | n :: r, _, .cons _ rr, k + 1, v, h => ints_vals (ns := r) rr k v h
theorem cr_sumN {X : Cx} (hc : X.calm = true) : CallR X (.builtin "sum") (rSumN X.K) := by
  intro pins s σ H vs us Q I r h
  obtain ⟨a, ns, rfl, hs, q⟩ := h
  obtain ⟨its, rv, hl, _⟩ := I.tuple hs
  rw [Vals.ref1 r]
  refine PySem.Flt.call_sum_walkF (sum_ints ns 0) (PySem.W.iter_tupleW (A := X.A.in1) (I.ok.hd hc) hl fun s₂ e W st hfp hw hk => ?_)
  have e0 : its.toArray.size = (ns.map PySem.W.WData.int).length := by rw [List.length_map, List.size_toArray, ← rv.length, List.length_map]
  rw [e0] at W
  refine ⟨_, _, _, _, _, _, rfl, W, st, hfp, fun k v hv => ?_, fun s' v hn m => ?_⟩
  · obtain ⟨i, t, hi, rfl⟩ := ints_vals rv k v (by simpa using hv)
    exact ⟨.int i, by rw [List.getElem?_map, hi]; rfl, .int _ _⟩
  · obtain ⟨h', tk, rfl, hk'⟩ := PySem.W.moved_old e rfl m
    cases hn
    exact ⟨.int _, H, I.kept hk', ⟨_, by rw [Int.zero_add]⟩, q⟩
def SumNK (K : PySem.W.Frag) (a : Addr) (H : Hp) (G : Int → Prop) : Prop := ∃ ns : List Int, SqT K H a (ns.map V.int) ∧ G ns.sum
theorem x_sumN {K : PySem.W.Frag} {a : Addr} {H : Hp} {Q : VK} : rSumN K [.ref a] H Q ↔ SumNK K a H fun n => Q (.int n) H := ⟨fun ⟨_, ns, e, h⟩ => by cases e; exact ⟨ns, h⟩, fun ⟨ns, h⟩ => ⟨a, ns, rfl, h⟩⟩
/-! ### the rest, for the ledger -/
section
variable {K : PySem.W.Frag} {B H : Hp} {l : List (Addr × HO)} {a b : Addr} {xs ys : List V} {σ : L2.St} {Q : VK}
def D1TK (tk tv : TE) (σ : L2.St) (H : Hp) (G : Addr → Hp → Prop) : Prop := NewK (.dT []) H fun p H1 => tk σ H1 fun y H2 => tv σ H2 fun v H3 => ∃ (k : List Key) (b : Addr), y = .ref b ∧ H3 p = some (.dT []) ∧ H3 b = some (.tup (k.map kV)) ∧ G p (upd H3 p (.dT [(k, v)]))
theorem e_d1T {tk tv : TE} : tD1T tk tv σ H Q = NewK (.dT []) H fun p H1 => tk σ H1 fun y H2 => tv σ H2 fun v H3 => ∃ b, y = .ref b ∧ ∃ (k : List Key), H3 p = some (.dT []) ∧ H3 b = some (.tup (k.map kV)) ∧ Q (.ref p) (upd H3 p (.dT [(k, v)])) := propext (by
  unfold tD1T NewK
  exact forall_congr' fun p => forall_congr' fun hp => Iff.of_eq (congrArg (tk σ _) (funext fun y => funext fun H2 => congrArg (tv σ H2) (funext fun v => funext fun H3 => propext ⟨fun ⟨k, b, e, r⟩ => ⟨b, e, k, r⟩, fun ⟨b, e, k, r⟩ => ⟨k, b, e, r⟩⟩))))
theorem e_callL {i : Nat} {f : Addr} {sp : Sp} {dvs : List V} {E : XK} {t : TA} : tCallL i f sp dvs E t σ H Q = (σ[i]? = some (some (.ref f)) ∧ t σ H fun vs H1 => sp (vs ++ dvs) H1 Q E) := propext ⟨fun h => h, fun h => h⟩
/-- t + u of tuples that are kept -/
def CatTK (K : PySem.W.Frag) (a b : Addr) (H : Hp) (G : Addr → Hp → Prop) : Prop := ∃ xs ys, SqT K H a xs ∧ SqT K H b ys ∧ xs.length + ys.length ≤ sizeLine ∧ (xs = [] → G b H) ∧ (xs ≠ [] → ys = [] → G a H) ∧ (xs ≠ [] → ys ≠ [] → NewK (.tup (xs ++ ys)) H G)
theorem x_catA : rCatA K (.ref a) (.ref b) H Q ↔ CatTK K a b H fun p H1 => Q (.ref p) H1 := ⟨fun ⟨_, _, xs, ys, e1, e2, r⟩ => by cases e1; cases e2; exact ⟨xs, ys, r⟩, fun ⟨xs, ys, r⟩ => ⟨a, b, xs, ys, rfl, rfl, r⟩⟩
theorem CatTK.of {G : Addr → Hp → Prop} (L : Led B H l) (h1 : B a = some (.tup xs)) (h2 : B b = some (.tup ys)) (hz : xs.length + ys.length ≤ sizeLine) (k : ∀ r B' H1, Same B B' → B' r = some (.tup (xs ++ ys)) → Led B' H1 l → G r H1) : CatTK K a b H G := by
  refine ⟨xs, ys, .inl (.inl (L.sm _ _ h1)), .inl (.inl (L.sm _ _ h2)), hz, fun e => ?_, fun _ e => ?_, fun _ _ => NewK.of L fun p H1 L1 => ?_⟩
  · subst e; exact k b B H (Same.refl B) h2 L
  · subst e; exact k a B H (Same.refl B) (by rw [List.append_nil]; exact h1) L
  · obtain ⟨B', s, h, L2⟩ := L1.sink
    exact k p B' H1 s h L2
def SlTK (K : PySem.W.Frag) (a : Addr) (lo hi : Option Int) (H : Hp) (G : Addr → Hp → Prop) : Prop := ∃ xs, SqT K H a xs ∧ (HT.sIx xs.length 0 lo = 0 ∧ HT.sIx xs.length xs.length hi = xs.length → G a H) ∧ (¬ (HT.sIx xs.length 0 lo = 0 ∧ HT.sIx xs.length xs.length hi = xs.length) → NewK (.tup (cutV xs lo hi)) H G)
theorem x_slA {lo hi : Option Int} : rSlA K (.ref a) lo hi H Q ↔ SlTK K a lo hi H fun p H1 => Q (.ref p) H1 := ⟨fun ⟨_, xs, e, r⟩ => by cases e; exact ⟨xs, r⟩, fun ⟨xs, r⟩ => ⟨a, xs, rfl, r⟩⟩
theorem SlTK.of {lo hi : Option Int} {G : Addr → Hp → Prop} (L : Led B H l) (h1 : B a = some (.tup xs)) (k : ∀ r B' H1, Same B B' → B' r = some (.tup (cutV xs lo hi)) → Led B' H1 l → G r H1) : SlTK K a lo hi H G := by
  refine ⟨xs, .inl (.inl (L.sm _ _ h1)), fun e => ?_, fun _ => NewK.of L fun p H1 L1 => ?_⟩
  · refine k a B H (Same.refl B) ?_ L
    rw [h1]
    unfold cutV
    rw [e.1, e.2, List.drop_zero, Nat.sub_zero, List.take_length]
  · obtain ⟨B', s, h, L2⟩ := L1.sink
    exact k p B' H1 s h L2
end
/-- a callee that kept more: what stood besides stays owned -/
theorem Led.over {B H B' H' : Hp} {l m : List (Addr × HO)} (L : Led B H l) (s : Same H B') (M : Led B' H' m) : ∃ B2, Same B B2 ∧ Led B2 H' (m ++ l) ∧ ∀ q o, B' q = some o → (∀ e ∈ l, e.2 ≠ o) → B2 q = some o := by
  have hin : ∀ e ∈ l, B' e.1 = some e.2 := fun e he => s _ _ (L.hs e he)
  refine ⟨less B' (l.map (·.1)), fun a o z => ?_, ⟨fun a o z => ?_, ?_, fun e he => ?_, fun e he => ?_⟩, fun q o hq hn => ?_⟩
  · unfold less
    rw [if_neg]
    · exact s _ _ (L.sm _ _ z)
    · intro hm
      obtain ⟨e, he, rfl⟩ := List.mem_map.mp hm
      rw [L.fr e he] at z
      cases z
  · unfold less at z
    split at z
    · cases z
    · exact M.sm _ _ z
  · rw [List.map_append]
    refine List.nodup_append.mpr ⟨M.nd, L.nd, fun a ha b hb z => ?_⟩
    obtain ⟨e, he, e1⟩ := List.mem_map.mp ha
    obtain ⟨d, hd, d1⟩ := List.mem_map.mp hb
    have h1 := M.fr e he
    have h2 := hin d hd
    rw [e1, z] at h1
    rw [d1, h1] at h2
    cases h2
  · unfold less
    rcases List.mem_append.mp he with z | z
    · split
      · rfl
      · exact M.fr e z
    · rw [if_pos (List.mem_map.mpr ⟨e, z, rfl⟩)]
  · rcases List.mem_append.mp he with z | z
    · exact M.hs e z
    · exact M.sm _ _ (hin e z)
  · unfold less
    rw [if_neg]
    · exact hq
    · intro hm
      obtain ⟨e, he, rfl⟩ := List.mem_map.mp hm
      rw [hin e he] at hq
      exact hn e he (Option.some.inj hq)
/-- the keys' tuples join what is kept -/
theorem Led.grabs {B H : Hp} {l : List (Addr × HO)} (hl : ∀ e ∈ l, ∀ ys, e.2 ≠ .tup ys) : ∀ {kvs : List (List Key × V)} {bs : List Addr}, IsKeys H kvs bs → ∀ {B : Hp}, Led B H l → ∃ B', Same B B' ∧ IsKeys B' kvs bs ∧ Led B' H l
  | _, _, .nil, B, L => ⟨B, Same.refl B, .nil, L⟩
  | _, _, .cons h r, B, L => by
    obtain ⟨B1, s1, h1, L1⟩ := L.grab h hl
    obtain ⟨B2, s2, h2, L2⟩ := Led.grabs (B := B) hl r L1
    exact ⟨B2, s1.trans s2, .cons (s2 _ _ h1) h2, L2⟩
theorem LstDK.of {B H : Hp} {l : List (Addr × HO)} {d : Addr} {kvs : List (List Key × V)} {G : Addr → Hp → Prop} (L : Led B H l) (h : H d = some (.dT kvs)) (hl : ∀ e ∈ l, ∀ ys, e.2 ≠ .tup ys) (k : ∀ p bs B' H1, Same B B' → IsKeys B' kvs bs → Led B' H1 ((p, .lst (bs.map V.ref)) :: l) → G p H1) : LstDK d H G := by
  refine ⟨kvs, .inl h, fun bs hk => ?_⟩
  obtain ⟨B1, s1, h1, L1⟩ := Led.grabs (B := B) hl hk L
  exact NewK.of L1 fun p H1 L2 => k p bs B1 H1 s1 h1 L2
end Vg


set_option Elab.async false
set_option linter.all false
set_option maxRecDepth 100000
set_option maxHeartbeats 2000000
namespace Vg
open PySem PySem.Spec PyProof.Rows L2
/-! ### a dict of defs that the module holds -/
structure KD (K : PySem.W.Frag) (w : World) (d : Addr) (ps : List (Str × Addr)) : Prop where
  ex : ∃ es n, KDict K w d es n
  yes : ∀ z f, ps.lookup z = some f → PySem.W.nsIn K d z = some (some (.ref f))
  no : ∀ z, ps.lookup z = none → PySem.W.nsIn K d z = some none
def kdEs (P : Params) (l : List (Str × Tok × Addr)) : List DictEntry := l.map fun e => ⟨PyData.keyHash P e.1, .str e.1 e.2.1, .ref e.2.2⟩
def kdPs (l : List (Str × Tok × Addr)) : List (Str × Addr) := l.map fun e => (e.1, e.2.2)
theorem kd_find (P : Params) (z : Str) : ∀ l, ((kdEs P l).find? fun e => e.key.isStr z).map (·.val) = ((kdPs l).lookup z).map Value.ref
  | [] => rfl
  | e :: r => by
    unfold kdEs kdPs
    rw [List.map_cons, List.map_cons, List.find?_cons, List.lookup_cons]
    have h : (Value.str e.1 e.2.1).isStr z = (z == e.1) := by
      show (e.1 == z) = (z == e.1)
      exact Bool.eq_iff_iff.mpr (by rw [beq_iff_eq, beq_iff_eq]; exact ⟨Eq.symm, Eq.symm⟩)
    dsimp only
    rw [h]
    cases z == e.1 with
    | true => rfl
    | false => exact kd_find P z r
theorem kd_noref (P : Params) : ∀ l, ((kdEs P l).any fun e => e.refKey) = false
  | [] => rfl
  | e :: r => by
    unfold kdEs
    rw [List.map_cons, List.any_cons]
    have := kd_noref P r
    unfold kdEs at this
    rw [this]
    rfl
theorem kd_lit (P : Params) : ∀ l, PySem.W.KeysLit P (kdEs P l)
  | [] => trivial
  | e :: r => ⟨⟨_, _, rfl, rfl⟩, kd_lit P r⟩
theorem KD.mk' {K : PySem.W.Frag} {w : World} {d : Addr} {n : Nat} {l : List (Str × Tok × Addr)} (low : (d == sysModules) = false) (h : K.lookup d = some ⟨.type "dict", none, .dict (kdEs w.params l).toArray n, #[]⟩) : KD K w d (kdPs l) := by
  have key : ∀ z, PySem.W.nsIn K d z = some (((kdPs l).lookup z).map Value.ref) := fun z => by
    unfold PySem.W.nsIn
    rw [h]
    dsimp only
    have f := kd_find w.params z l
    cases e : (kdEs w.params l).find? fun e => e.key.isStr z with
    | some x =>
      rw [e] at f
      rw [← f]
      rfl
    | none =>
      rw [e] at f
      rw [← f, kd_noref]
      rfl
  exact ⟨⟨_, n, h, kd_lit _ _, low⟩, fun z f e => by rw [key, e]; rfl, fun z e => by rw [key, e]; rfl⟩
def rInKd (ps : List (Str × Addr)) (d : Addr) : R2 := fun x y H Q => ∃ z, x = .str z ∧ y = .ref d ∧ Q (.bl (ps.lookup z).isSome) H
theorem op_inKd {X : Cx} {d : Addr} {ps : List (Str × Addr)} (D : KD X.K X.w d ps) : OpR X (compareOp .In) (rInKd ps d) := by
  intro pins s σ H x y v u Q I rx ry h
  obtain ⟨z, rfl, rfl, q⟩ := h
  obtain ⟨es, n, D2⟩ := D.ex
  cases e : ps.lookup z with
  | none =>
    rw [e] at q
    exact op_in_kd D2 pins s σ H (.str z) (.ref d) v u Q I rx ry ⟨z, none, rfl, rfl, D.no z e, q⟩
  | some f =>
    rw [e] at q
    exact op_in_kd D2 pins s σ H (.str z) (.ref d) v u Q I rx ry ⟨z, some (.ref f), rfl, rfl, D.yes z f e, q⟩
theorem x_inKd {ps : List (Str × Addr)} {d : Addr} {z : Str} {H : Hp} {Q : VK} : rInKd ps d (.str z) (.ref d) H Q ↔ Q (.bl (ps.lookup z).isSome) H := ⟨fun ⟨_, e1, _, q⟩ => by cases e1; exact q, fun q => ⟨z, rfl, rfl, q⟩⟩
def rIxKd (ps : List (Str × Addr)) (d : Addr) : R2 := fun x y H Q => ∃ z f, x = .ref d ∧ y = .str z ∧ ps.lookup z = some f ∧ Q (.ref f) H
theorem ix_kd {X : Cx} {d : Addr} {ps : List (Str × Addr)} (D : KD X.K X.w d ps) : IxR X (rIxKd ps d) := by
  intro value slice pins s σ H x y v u Q I rx ry h hs
  obtain ⟨z, f, rfl, rfl, e, q⟩ := h
  obtain ⟨es, n, D2⟩ := D.ex
  cases rx
  obtain ⟨t, rfl⟩ := ry
  refine tail_any (kd_type D2 I) PySem.F.slot_dict_getitem.lookup ?_ hs
  exact wpAny_getItem_of (PySem.strKind_is X.prog X.w z t) (PySem.W.mapOf_K (prog := X.prog) I.kIn D2.at_ D2.lit) (PySem.W.find_K D2.at_ (D.yes z f e)) ⟨.ref f, H, I.tok _, rfl, q⟩
def IxKdK (ps : List (Str × Addr)) (z : Str) (G : Addr → Prop) : Prop := ∃ f, ps.lookup z = some f ∧ G f
theorem x_ixKd {ps : List (Str × Addr)} {d : Addr} {z : Str} {H : Hp} {Q : VK} : rIxKd ps d (.ref d) (.str z) H Q ↔ IxKdK ps z fun f => Q (.ref f) H := ⟨fun ⟨_, f, _, e2, e, q⟩ => by cases e2; exact ⟨f, e, q⟩, fun ⟨f, e, q⟩ => ⟨z, f, rfl, rfl, e, q⟩⟩
/-! ### a name that holds one of several defs -/
def tCallX (i : Nat) (cs : List (Addr × Sp)) (t : TA) : TE := fun σ H Q => ∃ f sp, σ[i]? = some (some (.ref f)) ∧ (f, sp) ∈ cs ∧ t σ H fun vs H1 => sp vs H1 Q (fun _ _ _ => False)
theorem pe_callX {X : Cx} {k i : Nat} {x : Str} {p pos : Pos} {e : Expr} {es : List Expr} {t : TA} {cs : List (Addr × Sp)} (A : ∀ q ∈ cs, Held X.prog X.w X.K X.mg X.base k q.1 q.2) (hr : Room k X.A) (hN : X.N[i]? = some x) (hv : Vis X.env.scope x) (ha : PA X (e :: es) t)
    (hdb : (x == ("__debug__" : Str)) = false := by decide) (hcd : (x == ("__classdict__" : Str)) = false := by decide)
    (he : starEach (e :: es) X.env = (false, eval e X.env) :: starEach es X.env := by rfl) (hpl : (backTo pos (starEach es X.env)).any (·.1) = false := by rfl) : PE X (.Call (.Name x p) (e :: es) [] pos) (tCallX i cs t) := by
  refine ⟨fun pins s σ H Q I h => ?_⟩
  obtain ⟨f, sp, hs, hS, ht⟩ := h
  refine (pe_callA (S := fun g => if g = f then some sp else none) (fun g sq hq => ?_) hr hN hv ha hdb hcd he hpl).run pins s σ H Q I ⟨f, sp, hs, if_pos rfl, ht⟩
  split at hq
  · rename_i c
    cases hq
    rw [c]
    exact A _ hS
  · cases hq
theorem e_callX {i : Nat} {cs : List (Addr × Sp)} {t : TA} {σ : L2.St} {H : Hp} {Q : VK} {f : Addr} {sp : Sp} (h : σ[i]? = some (some (.ref f))) (hm : (f, sp) ∈ cs) (q : t σ H fun vs H1 => sp vs H1 Q (fun _ _ _ => False)) : tCallX i cs t σ H Q := ⟨f, sp, h, hm, q⟩
/-! ### partition -/
def rPart : V → List V → Hp → VK → Prop := fun x xs H Q => ∃ a b, x = .str a ∧ xs = [.str b] ∧ (b.length == 0) = false ∧ a.length ≤ sizeLine ∧ ∀ p, H p = none → Q (.ref p) (upd H p (.tup [.str (Txt.partition a b).1, .str (Txt.partition a b).2.1, .str (Txt.partition a b).2.2]))
theorem mt_partS {X : Cx} : MtR X "str.partition" rPart := mt_partition
def PartK (a b : Str) (H : Hp) (G : Addr → Hp → Prop) : Prop := (b.length == 0) = false ∧ a.length ≤ sizeLine ∧ NewK (.tup [.str (Txt.partition a b).1, .str (Txt.partition a b).2.1, .str (Txt.partition a b).2.2]) H G
theorem x_partS {a b : Str} {H : Hp} {Q : VK} : rPart (.str a) [.str b] H Q ↔ PartK a b H fun p H1 => Q (.ref p) H1 := ⟨fun ⟨_, _, e1, e2, h1, h2, q⟩ => by cases e1; cases e2; exact ⟨h1, h2, q⟩, fun ⟨h1, h2, q⟩ => ⟨a, b, rfl, rfl, h1, h2, q⟩⟩
end Vg


set_option Elab.async false
set_option linter.all false
set_option maxRecDepth 100000
set_option maxHeartbeats 2000000
namespace Vg
open PySem PySem.Spec PyProof.Rows L2
/-! ### ' '.join(xs).replace(y, z): behind the written receiver a token is out -/
/-- an expression behind which a token is out -/
def PE1 (X : Cx) (e : Expr) (te : TE) : Prop :=
  ∀ (pins : List (Addr × Obj)) (s : Shared) (σ : L2.St) (H : Hp) (Q : VK), Inv X pins σ H s → te σ H Q → wpAny (model X.prog X.w) X.A (eval e X.env) (fun v s1 => 1 ≤ s1.toks ∧ EP X pins σ Q v s1) X.xe s
section
variable {X : Cx} {e : Expr} {es : List Expr} {c y z : Str} {t : TA} {to : TE} {o : Expr} {name id : String} {r : V → List V → Hp → VK → Prop} {j k : Nat} {cp c0 c1 apos cpos pos : Pos}
/-- a method of a written text -/
theorem pe1_bm (pa : PlainAttrs "str") (slot : Slot "str" name id) (hty : typeOf (.builtin id) = pure (.type "method_descriptor")) (hm : MtR X id r) (ha : PA X (e :: es) t)
    (hbase : attributeBase (.Constant (.str c) j cp) name X.env (eval (.Constant (.str c) j cp) X.env) = eval (.Constant (.str c) j cp) X.env := by rfl)
    (hfew : ((backTo cpos (starEach (e :: es) X.env)).all (fun x => !x.1) && (backToKw cpos (keywordEach [] X.env)).all (fun x => x.1.isSome)
      && decide ((e :: es).length + ([] : List Keyword).length + (if ([] : List Keyword).isEmpty then 0 else 1) < 30)) = true := by rfl)
    (hline : (apos.endLine == cpos.line) = true := by rfl) (hs : starEach (e :: es) X.env = (false, eval e X.env) :: starEach es X.env := by rfl) (hplain : (backTo cpos (starEach es X.env)).any (·.1) = false := by rfl) :
    PE1 X (.Call (.Attribute (.Constant (.str c) j cp) name apos) (e :: es) [] cpos) (tBM X.K "str" r (tC (.str c)) t) := by
  intro pins s σ H Q I h
  refine wpAny_Call_method_late hbase hfew hline rfl (Calls.Constant_str ?_)
  obtain ⟨ty, q1⟩ := h
  have I1 : Inv X pins σ H { s with toks := s.toks + 1 } := I.tok _
  have r1 : RelV (.str c) (Value.str c s.toks) := ⟨_, rfl⟩
  obtain ⟨h1, h2⟩ := tyV_is I1 r1 ty
  refine ⟨"str", id, pa, slot, hty, h1, h2, ?_⟩
  have hA := ha.run cpos pins _ σ H _ I1 q1
  rw [hs] at hA ⊢
  refine Calls.callWith_builtin (by show (false || (backTo cpos (starEach es X.env)).any (·.1)) = false; rw [hplain] <;> rfl) (Calls.evalArgs_plain ?_)
  refine wpAny_mono (PySem.wpAny_toks hA) (fun us s2 q => ?_) fun _ _ x => x.2
  obtain ⟨hk, vs, H2, I2, r2, q2⟩ := q
  have hk : s.toks + 1 ≤ s2.toks := hk
  refine wpAny_mono (PySem.wpAny_toks (hm pins s2 σ H2 _ vs _ us Q I2 r1 r2 q2)) (fun v s3 q => ?_) fun _ _ x => x.2
  exact ⟨Nat.le_trans (by omega) q.1, q.2⟩
/-- e.replace(y, z) of two written texts, behind such an e -/
theorem pe_repl1 (ho : PE1 X o to) (hyz : (y == z) = false := by decide)
    (hst : starEach [.Constant (.str y) j c0, .Constant (.str z) k c1] X.env = [(false, eval (.Constant (.str y) j c0) X.env), (false, eval (.Constant (.str z) k c1) X.env)] := by rfl)
    (hbase : attributeBase o "replace" X.env (eval o X.env) = eval o X.env := by rfl) (hline : (apos.endLine == pos.line) = true := by rfl) :
    PE X (.Call (.Attribute o "replace" apos) [.Constant (.str y) j c0, .Constant (.str z) k c1] [] pos) (CwR.tReplC to y z) := by
  refine ⟨fun pins s σ H Q I h => ?_⟩
  refine PySem.Call_method2 hbase hst hline (wpAny_mono (ho pins s σ H _ I h) (fun v s1 q => ?_) fun _ _ z => z)
  obtain ⟨hk, v', H1, I1, r1, x, e1, hb, q⟩ := q
  subst e1
  obtain ⟨tx, e2⟩ := r1
  subst e2
  refine ⟨"str", _, PySem.F.plainAttrs_str, PySem.F.slot_str_replace, PySem.F.type_str_replace, typeIs_str _ _ _, (fun _ e => nomatch e), Calls.callWith_builtin rfl (Calls.evalArgs_plain (Calls.spliced_cons ?_))⟩
  refine Calls.Constant_str (Calls.spliced_cons (Calls.Constant_str (Calls.spliced_nil ?_)))
  exact PySem.SC.replace (by show s1.toks ≠ 0; omega) (by show s1.toks + 1 ≠ 0; omega) (by show s1.toks ≠ s1.toks + 1; omega) hyz hb fun t' k => ⟨.str (Txt.replace x y z), H1, I1.tok k, ⟨t', rfl⟩, q⟩
theorem e_repl {σ : L2.St} {H : Hp} {Q : VK} : CwR.tReplC to y z σ H Q ↔ to σ H fun v H1 => ∃ x, v = .str x ∧ x.length + (x.length + 1) * z.length ≤ 16777216 ∧ Q (.str (Txt.replace x y z)) H1 := Iff.rfl
end
/-! ### None in a row of words, written as a line -/
theorem repl_free {h : Nat} {t z rest : List Nat} : ∀ {w : List Nat}, h ∉ w → StrLaws.replL (h :: t) z (w ++ rest) = w ++ StrLaws.replL (h :: t) z rest
  | [], _ => rfl
  | c :: w, hw => by
    have hc : ¬ h = c := fun e => hw (by rw [e]; exact List.mem_cons_self)
    show StrLaws.replL (h :: t) z (c :: (w ++ rest)) = _
    rw [StrLaws.replL_miss (fun e => hc (by
      rw [List.length_cons, List.take_succ_cons] at e
      injection e with a _
      exact a.symm)), repl_free (fun x => hw (List.mem_cons_of_mem _ x))]
    rfl
theorem repl_word {h : Nat} {t z rest : List Nat} : StrLaws.replL (h :: t) z ((h :: t) ++ rest) = z ++ StrLaws.replL (h :: t) z rest := by
  show StrLaws.replL (h :: t) z (h :: (t ++ rest)) = _
  rw [StrLaws.replL_hit (by simp) (by show ((h :: t) ++ rest).take (h :: t).length = _; exact List.take_left ..)]
  show z ++ StrLaws.replL (h :: t) z (((h :: t) ++ rest).drop (h :: t).length) = _
  rw [List.drop_left]
/-- words: y itself becomes z, the others do not hold y's first sign -/
theorem repl_joinL {h : Nat} {t z sep : List Nat} (hs : h ∉ sep) : ∀ {ws : List (List Nat)}, (∀ w ∈ ws, w = h :: t ∨ h ∉ w) → StrLaws.replL (h :: t) z (TL.joinL sep ws) = TL.joinL sep (ws.map fun w => if w = h :: t then z else w)
  | [], _ => StrLaws.replL_nil
  | [w], hw => by
    show StrLaws.replL (h :: t) z w = (if w = h :: t then z else w)
    rcases hw w List.mem_cons_self with e | e
    · have := repl_word (h := h) (t := t) (z := z) (rest := [])
      rw [List.append_nil, StrLaws.replL_nil, List.append_nil] at this
      rw [if_pos e, e, this]
    · have := repl_free (h := h) (t := t) (z := z) (rest := []) e
      rw [List.append_nil, StrLaws.replL_nil, List.append_nil] at this
      rw [if_neg (fun q => e (by rw [q]; exact List.mem_cons_self)), this]
  | w :: v :: r, hw => by
    have ih := repl_joinL (z := z) hs (ws := v :: r) fun x hx => hw x (List.mem_cons_of_mem _ hx)
    have e1 : TL.joinL sep (w :: v :: r) = w ++ (sep ++ TL.joinL sep (v :: r)) := rfl
    have e2 : ∀ f : List Nat → List Nat, TL.joinL sep ((w :: v :: r).map f) = f w ++ (sep ++ TL.joinL sep ((v :: r).map f)) := fun _ => rfl
    rw [e1, e2, ← ih, ← repl_free hs]
    rcases hw w List.mem_cons_self with e | e
    · show StrLaws.replL (h :: t) z (w ++ (sep ++ TL.joinL sep (v :: r))) = (if w = h :: t then z else w) ++ _
      rw [if_pos e, e, repl_word]
    · show StrLaws.replL (h :: t) z (w ++ (sep ++ TL.joinL sep (v :: r))) = (if w = h :: t then z else w) ++ _
      rw [if_neg (fun q => e (by rw [q]; exact List.mem_cons_self)), repl_free e]
/-- a number or a text in its place -/
def numE (e : Str) : Option Nat → Str
  | none => e
  | some k => nT k
theorem tl_inj {a b : Str} (h : TL.tl a = TL.tl b) : a = b := by
  cases a
  cases b
  congr 1
  exact Array.toList_inj.mp h
/-- ' '.join(..).replace('None', '-') -/
theorem none_to_dash (os : List (Option Nat)) : Txt.replace (Txt.join " " (os.map (numE "None"))) "None" "-" = Txt.join " " (os.map (numE "-")) := by
  refine tl_inj ?_
  have e : TL.tl (Txt.replace (Txt.join " " (os.map (numE "None"))) "None" "-") = StrLaws.replL (TL.tl "None") (TL.tl "-") (TL.tl (Txt.join " " (os.map (numE "None")))) := StrLaws.replace_list (by decide +kernel)
  have j1 : ∀ ps : List Str, TL.tl (Txt.join " " ps) = TL.joinL [32] (ps.map TL.tl) := fun ps => by
    rw [TL.join_eq, TL.tl_join]
    congr 1
  have t1 : TL.tl ("None" : Str) = 78 :: [111, 110, 101] := by decide +kernel
  have t2 : TL.tl ("-" : Str) = [45] := by decide +kernel
  rw [e, j1, j1, t1, t2, repl_joinL (by decide)]
  · rw [List.map_map, List.map_map, List.map_map]
    congr 1
    refine List.map_congr_left fun o _ => ?_
    cases o with
    | none =>
      show (if TL.tl ("None" : Str) = 78 :: [111, 110, 101] then [45] else TL.tl ("None" : Str)) = TL.tl ("-" : Str)
      rw [if_pos t1, t2]
    | some k =>
      show (if TL.tl (nT k) = 78 :: [111, 110, 101] then [45] else TL.tl (nT k)) = TL.tl (nT k)
      rw [if_neg fun q => by
        have := nT_digits k 78 (by rw [q]; exact List.mem_cons_self)
        omega]
  · intro w hw
    obtain ⟨x, hx, rfl⟩ := List.mem_map.mp hw
    obtain ⟨o, _, rfl⟩ := List.mem_map.mp hx
    cases o with
    | none => exact .inl t1
    | some k =>
      refine .inr fun hc => ?_
      have := nT_digits k 78 hc
      omega
/-! ### str of a number or of None -/
def rStrO : List V → Hp → VK → Prop := fun xs H Q => ∃ o : Option Nat, xs = [(match o with | none => V.non | some k => V.int (k : Int))] ∧ (∀ k, o = some k → k < 2 ^ 1000) ∧ Q (.str (numE "None" o)) H
theorem cr_strO {X : Cx} : CallR X (.type "str") rStrO := by
  intro pins s σ H xs us Q I r h
  obtain ⟨o, rfl, hb, q⟩ := h
  cases o with
  | none =>
    obtain ⟨u, rfl, r1⟩ := vals1 r
    cases r1
    exact PySem.P.str_of_none ⟨.str _, H, I.tok _, ⟨_, rfl⟩, q⟩
  | some k =>
    obtain ⟨u, rfl, t, rfl⟩ := vals1 r
    have hz : (k : Int).natAbs.log2 < 1920 := by
      rw [Int.natAbs_natCast]
      exact Nat.lt_of_lt_of_le (PySem.Flt.log2_lt_of (k := 1000) (by decide) (hb k rfl)) (by decide)
    exact PySem.P.str_of_int hz ⟨.str _, H, I.tok _, ⟨_, rfl⟩, q⟩
end Vg


set_option Elab.async false
set_option linter.all false
set_option maxRecDepth 100000
set_option maxHeartbeats 2000000
namespace Vg
open PySem PySem.Spec PyProof.Rows L2 PySem.Calls PyProof.V PySem.W
/-! ### list(enumerate(xs)) -/
/-- the pairs (number, item) that stand at out -/
structure Enp (its : Array Value) (low : Addr) (hp : Heap) (out : List Addr) : Prop where
  up : out.Pairwise (· < ·)
  hi : ∀ a ∈ out, low < a
  pr : ∀ (j : Nat) (a : Addr), out[j]? = some a → ∃ t x, its[j]? = some x ∧ hp.get? a = some { cls := .type "tuple", data := .seq #[.int j t, x] }
theorem Enp.lt {its : Array Value} {low : Addr} {hp : Heap} {out : List Addr} (g : Enp its low hp out) {a : Addr} (ha : a ∈ out) : a < hp.objs.size := by
  obtain ⟨j, hj⟩ := List.mem_iff_getElem?.mp ha
  obtain ⟨_, _, _, e⟩ := g.pr j a hj
  exact Heap.lt_size e
/-- an enumerate over a list, before its item i -/
def EnSt (hp : Heap) (en it S : Addr) (i : Nat) : Prop := (i = 0 ∧ IsEnum hp en it 0 .none) ∨ ∃ T f old oT, IsEnumHeld hp en it (i : Int) old T f ∧ hp.get? T = some oT ∧ T ≠ en ∧ T ≠ it ∧ T ≠ S
section
variable {prog : Program} {w : World} {A : Around} {E : Value → Shared → Prop} {s : Shared}
theorem EnSt.type {en it S : Addr} {i : Nat} (h : EnSt s.heap en it S i) : s.TypeIs (.ref en) "enumerate" := by
  rcases h with ⟨_, h⟩ | ⟨_, _, _, _, h, _⟩ <;> exact ⟨_, h, rfl⟩
theorem en_item {en it l S : Addr} {i : Nat} {items : Array Value} {x : Value} {Q : Option Value → Shared → Prop} (st : EnSt s.heap en it S i) (hS : S < s.heap.objs.size) (hit : s.heap.IsListIter it l i) (hl : s.heap.IsList l items) (hx : items[i]? = some x) (ne : en ≠ it)
    (q : ∀ h', EnSt h' en it S (i + 1) → h'.IsListIter it l (i + 1) → h'.get? s.heap.objs.size = some { cls := .type "tuple", data := .seq #[.int i s.toks, x] } → h'.objs.size = s.heap.objs.size + 1 → (∀ b o, b ≠ en → b ≠ it → s.heap.get? b = some o → h'.get? b = some o) → Q (some (.ref s.heap.objs.size)) { s with heap := h', toks := s.toks + 1 }) : wpAny (model prog w) A (pyNext (.ref en)) Q E s := by
  have hi2 : it < s.heap.objs.size := by obtain ⟨o, ho, _⟩ := hit; exact Heap.lt_size ho
  rcases st with ⟨rfl, he⟩ | ⟨T, f, old, oT, he, hT, h1, h2, h3⟩
  · exact wpAny_pyNext_enum_item he hit hl hx ne fun h' a b c d k => q h' (.inr ⟨_, false, _, _, a, c, Nat.ne_of_gt (Heap.lt_size he), Nat.ne_of_gt hi2, Nat.ne_of_gt hS⟩) b c d k
  · exact wpAny_pyNext_enum_item_held he hT h1 h2 hit hl hx ne fun h' a b c d k => q h' (.inr ⟨T, true, _, _, a, k T _ h1 h2 hT, h1, h2, h3⟩) b c d k
theorem en_done {en it l S : Addr} {i : Nat} {items : Array Value} {Q : Option Value → Shared → Prop} (hh : A.handled = none) (st : EnSt s.heap en it S i) (hit : s.heap.IsListIter it l i) (hl : s.heap.IsList l items) (hx : items[i]? = none) (q : ∀ h', Heap.ExtBut it s.heap h' → Q none { s with heap := h' }) : wpAny (model prog w) A (pyNext (.ref en)) Q E s := by
  rcases st with ⟨rfl, he⟩ | ⟨T, f, old, oT, he, hT, _, _, _⟩
  · exact wpAny_pyNext_enum_end hh he hit hl hx q
  · exact wpAny_pyNext_enum_end_held hh he hit hl hx q
theorem EnSt.up {hp hq : Heap} {en it S : Addr} {i : Nat} (h : EnSt hp en it S i) (k : ∀ b o, b ≠ S → hp.get? b = some o → hq.get? b = some o) (ne : en ≠ S) : EnSt hq en it S i := by
  rcases h with ⟨e, h⟩ | ⟨T, f, old, oT, h, hT, a, b, c⟩
  · exact .inl ⟨e, k _ _ ne h⟩
  · exact .inr ⟨T, f, old, oT, k _ _ ne h, k _ _ c hT, a, b, c⟩
theorem list_up {hp hq : Heap} {l S : Addr} {items : Array Value} (h : hp.IsList l items) (k : ∀ b o, b ≠ S → hp.get? b = some o → hq.get? b = some o) (ne : l ≠ S) : hq.IsList l items := by
  obtain ⟨o, ho, r⟩ := h
  exact ⟨o, k _ _ ne ho, r⟩
theorem list_up2 {hp hq : Heap} {l en it : Addr} {items : Array Value} (h : hp.IsList l items) (k : ∀ b o, b ≠ en → b ≠ it → hp.get? b = some o → hq.get? b = some o) (n1 : l ≠ en) (n2 : l ≠ it) : hq.IsList l items := by
  obtain ⟨o, ho, r⟩ := h
  exact ⟨o, k _ _ n1 n2 ho, r⟩
theorem iter_up {hp hq : Heap} {it l S : Addr} {i : Nat} (h : hp.IsListIter it l i) (k : ∀ b o, b ≠ S → hp.get? b = some o → hq.get? b = some o) (ne : it ≠ S) : hq.IsListIter it l i := by
  obtain ⟨o, ho, r⟩ := h
  exact ⟨o, k _ _ ne ho, r⟩
end
section
variable {prog : Program} {w : World} {A : Around} {s : Shared} {R : Result → Shared → Prop} {its : Array Value}
theorem en_loop {S en it l : Addr} (hh : A.handled = none) (n1 : en < S) (n2 : it < S) (n3 : l < S) (ne : en ≠ it) (n4 : l ≠ en) (n5 : l ≠ it) (hn : its.size ≤ sizeLine) (res : Value) {h₁ : Heap}
    (last : ∀ h' tk acc c out, (∀ b o, b ≠ S → b ≠ en → b ≠ it → h₁.get? b = some o → h'.get? b = some o) → h'.get? S = some { cls := .type "list", dict := none, data := .seq acc c, slots := #[] } → out.length = its.size → Enp its S h' out → acc.toList = out.map Value.ref → R (.ok (.ret res)) { s with heap := h', toks := tk }) :
    ∀ (k i : Nat) (h : Heap) (tk c : Nat) (acc : Array Value) (out : List Addr), its.size - i = k → i ≤ its.size → EnSt h en it S i → h.IsListIter it l i → h.IsList l its → (∀ b o, b ≠ S → b ≠ en → b ≠ it → h₁.get? b = some o → h.get? b = some o) → h.get? S = some { cls := .type "list", dict := none, data := .seq acc c, slots := #[] } →
      acc.toList = out.map Value.ref → out.length = i → Enp its S h out → codeAny (model prog w) A (.builtin "list.extend.loop" ⟨[.ref S, .ref en, res], []⟩) R { s with heap := h, toks := tk } := by
  intro k
  induction k with
  | zero =>
    intro i h tk c acc out hk hi st hit hl keep hS hacc hlen g
    have hx : its[i]? = none := Array.getElem?_eq_none (by omega)
    refine codeAny_builtin PySem.F.entry_extend_loop ?_
    rw [Around.under_plainId PySem.F.plain_extend_loop _]
    show wpAny _ A.in1 (pyNext (.ref en) >>= _) _ _ _
    refine wpAny_bind (en_done (s := { s with heap := h, toks := tk }) (A := A.in1) hh st hit hl hx fun h' hb => ?_)
    have hb : ∀ b o, b ≠ it → h.get? b = some o → h'.get? b = some o := hb
    refine wpAny_pure (last h' tk acc c out (fun b o q1 q2 q3 e => hb b o q3 (keep b o q1 q2 q3 e)) (hb S _ (Nat.ne_of_gt n2) hS) (by omega) ⟨g.up, g.hi, fun j a hj => ?_⟩ hacc)
    obtain ⟨t, x, hx1, hx2⟩ := g.pr j a hj
    exact ⟨t, x, hx1, hb a _ (Nat.ne_of_gt (Nat.lt_trans n2 (g.hi a (List.mem_of_getElem? hj)))) hx2⟩
  | succ k ih =>
    intro i h tk c acc out hk hi st hit hl keep hS hacc hlen g
    have hlt : i < its.size := by omega
    have hsz : acc.size = i := by rw [← Array.length_toList, hacc, List.length_map, hlen]
    obtain ⟨x, hx⟩ : ∃ x, its[i]? = some x := ⟨_, Array.getElem?_eq_getElem hlt⟩
    have hSl : S < h.objs.size := Heap.lt_size hS
    refine codeAny_builtin PySem.F.entry_extend_loop ?_
    rw [Around.under_plainId PySem.F.plain_extend_loop _]
    show wpAny _ A.in1 (pyNext (.ref en) >>= _) _ _ _
    refine wpAny_bind (en_item (s := { s with heap := h, toks := tk }) (S := S) (A := A.in1) st hSl hit hl hx ne fun h' st2 hit2 ht hz hk2 => ?_)
    dsimp only at ht hz hk2 ⊢
    have hS2 := hk2 S _ (Nat.ne_of_gt n1) (Nat.ne_of_gt n2) hS
    obtain ⟨hu, ehu⟩ : ∃ hu, hu = h'.update S (Obj.mapSeq (·.push (Value.ref h.objs.size))) := ⟨_, rfl⟩
    have up : ∀ b o, b ≠ S → h'.get? b = some o → hu.get? b = some o := fun b o hb e => by rw [ehu]; exact (Heap.get?_update_other _ _ (Ne.symm hb)).trans e
    have ht2 : hu.get? h.objs.size = _ := up _ _ (Nat.ne_of_gt hSl) ht
    show wpAny _ A.in1 (updateSeq S (·.push (Value.ref h.objs.size)) >>= _) _ _ _
    refine wpAny_bind ?_
    refine wpAny_updateSeq hS2 rfl (wpAny_pure ⟨plainId_quiet PySem.F.plain_extend_loop _, ?_⟩) (by rw [hsz]; omega) (by show (acc.push (Value.ref h.objs.size)).size ≤ sizeLine + 1; rw [Array.size_push, hsz]; omega)
    show codeAny _ A _ R { s with heap := h'.update S (Obj.mapSeq (·.push (Value.ref h.objs.size))), toks := tk + 1 }
    rw [← ehu]
    refine ih (i + 1) hu (tk + 1) _ (acc.push (Value.ref h.objs.size)) (out ++ [h.objs.size]) (by omega) hlt (st2.up up (Nat.ne_of_lt n1)) (iter_up hit2 up (Nat.ne_of_lt n2)) (list_up (list_up2 hl hk2 n4 n5) up (Nat.ne_of_lt n3)) (fun b o q1 q2 q3 e => up b o q1 (hk2 b o q2 q3 (keep b o q1 q2 q3 e))) (by rw [ehu]; first | exact Heap.get?_update_self (Obj.mapSeq (·.push (Value.ref h.objs.size))) hS2 rfl | rfl) (by rw [Array.toList_push, hacc, List.map_append]; rfl) (by rw [List.length_append, hlen]; rfl) ⟨?_, ?_, ?_⟩
    · refine List.pairwise_append.mpr ⟨g.up, List.pairwise_singleton _ _, fun a ha b hb => ?_⟩
      rw [List.mem_singleton.mp hb]
      exact g.lt ha
    · intro a ha
      rcases List.mem_append.mp ha with z | z
      · exact g.hi a z
      · rw [List.mem_singleton.mp z]; exact hSl
    · intro j b hj
      by_cases hjl : j < out.length
      · rw [List.getElem?_append_left hjl] at hj
        obtain ⟨t, y, e1, e2⟩ := g.pr j b hj
        have hb := g.hi b (List.mem_of_getElem? hj)
        exact ⟨t, y, e1, up b _ (Nat.ne_of_gt hb) (hk2 b _ (Nat.ne_of_gt (Nat.lt_trans n1 hb)) (Nat.ne_of_gt (Nat.lt_trans n2 hb)) e2)⟩
      · rw [List.getElem?_append_right (by omega)] at hj
        have hj0 : j - out.length = 0 := by
          cases z : j - out.length with
          | zero => rfl
          | succ m => rw [z] at hj; cases hj
        rw [hj0] at hj
        cases hj
        have ej : j = i := by omega
        subst ej
        exact ⟨tk, x, hx, ht2⟩
end
theorem enum_no_len : typeLookup (.type "enumerate") "__len__" = pure none := by rw [typeLookup_type, builtinLookup_eq_fast]; kernel_rfl
theorem enum_no_hint : typeLookup (.type "enumerate") "__length_hint__" = pure none := by rw [typeLookup_type, builtinLookup_eq_fast]; kernel_rfl
section
variable {prog : Program} {w : World} {A : Around} {E : Value → Shared → Prop} {s : Shared} {its : Array Value} {en it l : Addr}
theorem en_extend {R : Result → Shared → Prop} {S c0 : Addr} (hh : A.handled = none) (n1 : en < S) (n2 : it < S) (n3 : l < S) (ne : en ≠ it) (n4 : l ≠ en) (n5 : l ≠ it) (hn : its.size ≤ sizeLine) (res : Value) (he : IsEnum s.heap en it 0 .none) (hit : s.heap.IsListIter it l 0) (hl : s.heap.IsList l its) (hS : s.heap.get? S = some { cls := .type "list", data := .seq #[] c0 })
    (last : ∀ h' tk acc c out, (∀ b o, b ≠ S → b ≠ en → b ≠ it → s.heap.get? b = some o → h'.get? b = some o) → h'.get? S = some { cls := .type "list", dict := none, data := .seq acc c, slots := #[] } → out.length = its.size → Enp its S h' out → acc.toList = out.map Value.ref → R (.ok (.ret res)) { s with heap := h', toks := tk }) :
    wpAny (model prog w) A.in1 (Builtin.List.listExtendWith (.ref S) (.ref en) res) (fun fin s' => match fin with | .done f => R (.ok f) s' | .again c' => c'.quiet = true ∧ codeAny (model prog w) A c' R s') (fun e s' => R (.error e) s') s := by
  have ty : s.TypeIs (.ref en) "enumerate" := ⟨_, he, rfl⟩
  unfold Builtin.List.listExtendWith
  refine wpAny_bind (wpAny_typeOf ty ?_)
  have c1 : Builtin.List.listSameRef (.ref S) (.ref en) = false := by simp [Builtin.List.listSameRef, Nat.ne_of_gt n1]
  have c2 : (Value.type "enumerate" == Value.type "list") = false := by decide
  have c3 : (Value.type "enumerate" == Value.type "tuple") = false := by decide
  simp only [c1, c2, c3, Bool.or_false, Bool.false_eq_true, if_false]
  refine wpAny_bind (wpAny_pyIter_enum he (wpAny_bind (wpAny_holding ?_)))
  unfold Builtin.List.listLengthHint
  refine wpAny_bind (wpAny_specialOf ty enum_no_len ?_)
  show wpAny _ A.in1 (specialOf (Value.ref en) (Str.ofString "__length_hint__") >>= _) _ _ _
  refine wpAny_bind (wpAny_specialOf ty enum_no_hint (wpAny_pure ?_))
  show wpAny _ A.in1 (rule "list.extend.makes-room" >>= fun _ => Builtin.List.listTouch (.ref S) >>= fun _ => again (.builtin "list.extend.loop" ⟨[.ref S, .ref en, res], []⟩)) _ _ _
  refine wpAny_bind (wpAny_rule (wpAny_bind ?_))
  show wpAny _ A.in1 (updateSeq S (·.push .none) >>= fun _ => updateSeq S (·.pop)) _ _ _
  refine wpAny_bind (wpAny_updateSeq hS rfl ?_)
  obtain ⟨h2, e2⟩ : ∃ h2, h2 = s.heap.update S (Obj.mapSeq (·.push Value.none)) := ⟨_, rfl⟩
  have hS2 := Heap.get?_update_self (Obj.mapSeq (·.push Value.none)) hS rfl
  rw [← e2] at hS2 ⊢
  refine wpAny_updateSeq (hz := by seq_fits) hS2 rfl ?_
  obtain ⟨h3, e3⟩ : ∃ h3, h3 = h2.update S (Obj.mapSeq (·.pop)) := ⟨_, rfl⟩
  have hS3 := Heap.get?_update_self (Obj.mapSeq (·.pop)) hS2 rfl
  rw [← e3] at hS3
  have k3 : ∀ b o, b ≠ S → s.heap.get? b = some o → h3.get? b = some o := fun b o hb e => by rw [e3, e2]; exact (Heap.get?_update_other _ _ (Ne.symm hb)).trans ((Heap.get?_update_other _ _ (Ne.symm hb)).trans e)
  rw [← e3]
  exact wpAny_pure ⟨plainId_quiet PySem.F.plain_extend_loop _, en_loop (s := s) (h₁ := s.heap) hh n1 n2 n3 ne n4 n5 hn res last its.size 0 h3 _ _ #[] [] (Nat.sub_zero _) (Nat.zero_le _) (.inl ⟨rfl, k3 _ _ (Nat.ne_of_lt n1) he⟩) (iter_up hit k3 (Nat.ne_of_lt n2)) (list_up hl k3 (Nat.ne_of_lt n3)) (fun b o q1 _ _ e => k3 b o q1 e) hS3 rfl rfl ⟨List.Pairwise.nil, (fun _ z => nomatch z), (fun j a z => by simp at z)⟩⟩
theorem en_call {Q : Value → Shared → Prop} (hh : A.handled = none) (ne : en ≠ it) (n4 : l ≠ en) (n5 : l ≠ it) (hn : its.size ≤ sizeLine) (he : IsEnum s.heap en it 0 .none) (hit : s.heap.IsListIter it l 0) (hl : s.heap.IsList l its)
    (q : ∀ h' tk acc c out, (∀ b o, b ≠ en → b ≠ it → s.heap.get? b = some o → h'.get? b = some o) → h'.get? s.heap.objs.size = some { cls := .type "list", dict := none, data := .seq acc c, slots := #[] } → out.length = its.size → Enp its s.heap.objs.size h' out → acc.toList = out.map Value.ref → Q (.ref s.heap.objs.size) { s with heap := h', toks := tk }) :
    wpAny (model prog w) A (call (.type "list") [.ref en]) Q E s := by
  have n1 : en < s.heap.objs.size := Heap.lt_size he
  have n2 : it < s.heap.objs.size := by obtain ⟨o, ho, _⟩ := hit; exact Heap.lt_size ho
  have n3 : l < s.heap.objs.size := by obtain ⟨o, ho, _⟩ := hl; exact Heap.lt_size ho
  refine callType_codes (Q₁ := fun obj s₁ => obj = .ref s.heap.objs.size ∧ s₁ = { s with heap := s.heap.push { cls := .type "list", data := .seq #[] } }) PySem.F.called_list (PySem.F.typeCall_list_1 _) PySem.F.entry_list_init (code_list_new _ ⟨rfl, rfl⟩) fun obj s₁ hq => ?_
  obtain ⟨rfl, rfl⟩ := hq
  obtain ⟨h1, e1⟩ : ∃ h1, h1 = s.heap.push { cls := .type "list", data := .seq #[] } := ⟨_, rfl⟩
  have hS : h1.get? s.heap.objs.size = some { cls := .type "list", data := .seq #[] } := by rw [e1]; exact Heap.get?_push_size _ rfl
  have k1 : ∀ b o, s.heap.get? b = some o → h1.get? b = some o := fun b o e => by rw [e1]; exact Heap.get?_push_of_some _ e
  rw [← e1]
  refine ⟨⟨_, hS, rfl⟩, PySem.F.args_list_init_2 _ _, ?_⟩
  show wpAny _ A.in1.in1 (do let old ← Builtin.List.listItems (.ref s.heap.objs.size); Builtin.List.listUpdate (.ref s.heap.objs.size) (fun _ => #[]); letGo old.toList.reverse; Builtin.List.listExtendWith (.ref s.heap.objs.size) (.ref en) .none) _ _ _
  refine wpAny_bind ?_
  unfold Builtin.List.listItems
  refine wpAny_bind (wpAny_seqItems hS rfl (wpAny_pure ?_))
  show wpAny _ A.in1.in1 (updateSeq s.heap.objs.size (fun _ => #[]) >>= fun _ => letGo (#[] : Array Value).toList.reverse >>= fun _ => Builtin.List.listExtendWith (.ref s.heap.objs.size) (.ref en) .none) _ _ _
  refine wpAny_bind (wpAny_updateSeq hS rfl ?_)
  obtain ⟨h2, e2⟩ : ∃ h2, h2 = h1.update s.heap.objs.size (Obj.mapSeq (fun _ => (#[] : Array Value))) := ⟨_, rfl⟩
  have hS2 := Heap.get?_update_self (Obj.mapSeq (fun _ => (#[] : Array Value))) hS rfl
  rw [← e2] at hS2
  have k2 : ∀ b o, b ≠ s.heap.objs.size → s.heap.get? b = some o → h2.get? b = some o := fun b o hb e => by rw [e2]; exact (Heap.get?_update_other _ _ (Ne.symm hb)).trans (k1 b o e)
  rw [← e2]
  refine wpAny_bind (wpAny_letGo ?_)
  refine en_extend (s := { s with heap := h2 }) (A := A.in1) hh n1 n2 n3 ne n4 n5 hn .none (k2 _ _ (Nat.ne_of_lt n1) he) (iter_up hit k2 (Nat.ne_of_lt n2)) (list_up hl k2 (Nat.ne_of_lt n3)) hS2 fun h' tk acc c out keep hS' hlen g hacc => ?_
  exact ⟨rfl, q h' tk acc c out (fun b o q1 q2 e => by
    have hb : b ≠ s.heap.objs.size := Nat.ne_of_lt (Heap.lt_size e)
    exact keep b o hb q1 q2 (k2 b o hb e)) hS' hlen g hacc⟩
end
/-- several new tuples, tracked -/
def layT (H : Hp) (out : List Addr) (f : Addr → HO) : Hp := fun b => if b ∈ out then some (f b) else H b
section
variable {H : Hp} {out : List Addr} {f : Addr → HO} {h h' : Heap}
theorem layT_in {b : Addr} (hb : b ∈ out) : layT H out f b = some (f b) := if_pos hb
theorem layT_out {b : Addr} (hb : b ∉ out) : layT H out f b = H b := if_neg hb
theorem un_layT {fs ex : List Addr} (k : ∀ b u, h.get? b = some u → h'.get? b = some u) (hp : ∀ a ∈ out, h.objs.size ≤ a) (hn : ∀ a ∈ out, H a = none) : Un fs ex H (layT H out f) h h' where
  keep := fun b u q _ _ _ => k b u q
  slot := fun b u q _ _ _ => ⟨u.slots, k b u q⟩
  free := fun b u q n _ => by rw [layT_out fun z => absurd (Nat.lt_of_lt_of_le (Heap.lt_size q) (hp b z)) (Nat.lt_irrefl _)]; exact n
  there := fun b u q _ => ⟨u, k b u q⟩
  tups := fun b xs q => by rw [layT_out fun z => by rw [hn b z] at q; cases q]; exact q
  frzs := fun b u xs q => by rw [layT_out fun z => by rw [hn b z] at q; cases q]; exact q
  tbls := fun b ps q => ⟨#[], by rw [layT_out (fun z => by rw [hn b z] at q; cases q), q]; simp⟩
theorem hok_layT {P : Program} {w : World} (x : HOk P w H h) (k : ∀ b u, h.get? b = some u → h'.get? b = some u) (hn : ∀ a ∈ out, H a = none) (new : ∀ a ∈ out, ObjOk P w (layT H out f) h' a (f a)) : HOk P w (layT H out f) h' := fun b u e => by
  by_cases hb : b ∈ out
  · rw [layT_in hb] at e
    cases e
    exact new b hb
  · rw [layT_out hb] at e
    exact (x b u e).stay (fun c v _ q => k c v q) (fun c q => by rw [layT_out fun z => by rw [hn c z] at q; cases q]; exact q) fun c xs q => by rw [layT_out fun z => by rw [hn c z] at q; cases q]; exact q
end
/-- list(enumerate(e)), e a list: new pairs in a new list -/
def tListEnum (K : PySem.W.Frag) (te : TE) : TE := fun σ H Q => te σ H fun v H1 => ∃ (a : Addr) (xs : List V), v = .ref a ∧ SqL K H1 a xs ∧
  ∀ (out : List Addr) (p : Addr) (B' : Hp), out.Nodup → (∀ t ∈ out, H1 t = none) → H1 p = none → p ∉ out → out.length = xs.length → (∀ b, b ∉ out → B' b = H1 b) → (∀ (j : Nat) (t : Addr) (x : V), out[j]? = some t → xs[j]? = some x → B' t = some (.tup [.int (j : Int), x])) → Q (.ref p) (upd B' p (.lst (out.map V.ref)))
section
variable {X : Cx}
theorem pe_listEnum {e : Expr} {te : TE} {p p2 pos pos2 : Pos} (hc : X.calm = true) (hg : Gl X "list") (hm : X.mg "list" = none) (hg2 : Gl X "enumerate") (hm2 : X.mg "enumerate" = none) (he : PE X e te)
    (hs : starEach [e] X.env = (false, eval e X.env) :: starEach [] X.env := by rfl)
    (hs2 : starEach [.Call (.Name "enumerate" p2) [e] [] pos2] X.env = (false, eval (.Call (.Name "enumerate" p2) [e] [] pos2) X.env) :: starEach [] X.env := by rfl) :
    PE X (.Call (.Name "list" p) [.Call (.Name "enumerate" p2) [e] [] pos2] [] pos) (tListEnum X.K te) := by
  refine ⟨fun pins s σ H Q I h => ?_⟩
  refine Call_ (ld_blt I hg hm PyProof.Rows.boot_list (PyProof.Rows.callWith_type1 (args_cons (Call_ (ld_blt I hg2 hm2 PyProof.Rows.boot_enumerate (PyProof.Rows.callWith_type1 (args_cons (thn (he.run pins s σ H _ I h) fun u s1 ⟨v, H1, I1, r1, q1⟩ => args_nil ?_) hs) hs rfl))) hs2) hs2 rfl))
  obtain ⟨a, xs, ev, hq, q⟩ := q1
  subst ev
  obtain rfl : u = Value.ref a := r1
  obtain ⟨its, rv, p', hz⟩ := I1.list hq
  have hl := p'.isList
  have ha : a < s1.heap.objs.size := by obtain ⟨ol, hol, _⟩ := id hl; exact Heap.lt_size hol
  refine call_enumerate_list hl fun h2 hen hit hsz k2 => args_nil ?_
  have hn : its.toArray.size ≤ sizeLine := by rw [List.size_toArray, ← rv.length]; exact hz
  have hl2 : h2.IsList a its.toArray := by obtain ⟨o, ho, r⟩ := hl; exact ⟨o, k2 _ _ ho, r⟩
  refine en_call (s := { s1 with heap := h2 }) (I1.ok.hd hc) (Nat.succ_ne_self _) (Nat.ne_of_lt (Nat.lt_succ_of_lt ha)) (Nat.ne_of_lt ha) hn hen hit hl2 fun h' tk acc c out keep hS hlen g hacc => ?_
  dsimp only at keep hS g ⊢
  have kk : ∀ b o, s1.heap.get? b = some o → h'.get? b = some o := fun b o e => by
    have hb := Heap.lt_size e
    exact keep b o (Nat.ne_of_lt (Nat.lt_succ_of_lt hb)) (Nat.ne_of_lt hb) (k2 b o e)
  have hge : ∀ t ∈ out, s1.heap.objs.size ≤ t := fun t ht => by
    have h9 : h2.objs.size < t := g.hi t ht
    omega
  have hSge : s1.heap.objs.size ≤ h2.objs.size := by omega
  have hSo : h2.objs.size ∉ out := fun z => Nat.lt_irrefl _ (g.hi _ z)
  have hnd : out.Nodup := g.up.imp fun {a b} z => Nat.ne_of_lt z
  have hxl : xs.length = out.length := by rw [rv.length, hlen, List.size_toArray]
  obtain ⟨f, hf⟩ : ∃ f : Addr → HO, f = fun b => if b ∈ out then .tup [.int ((out.idxOf b : Nat) : Int), xs.getD (out.idxOf b) .non] else .lst (out.map V.ref) := ⟨_, rfl⟩
  have hft : ∀ (j : Nat) (t : Addr) (x : V), out[j]? = some t → xs[j]? = some x → f t = .tup [.int (j : Int), x] := fun j t x e1 e2 => by
    have hj : j < out.length := (List.getElem?_eq_some_iff.mp e1).1
    have hte : out[j] = t := (List.getElem?_eq_some_iff.mp e1).2
    have hid : out.idxOf t = j := by rw [← hte]; exact hnd.idxOf_getElem j hj
    rw [hf]
    dsimp only
    rw [if_pos (List.mem_of_getElem? e1), hid, List.getD_eq_getElem?_getD, e2]
    rfl
  have hfS : f h2.objs.size = .lst (out.map V.ref) := by rw [hf]; exact if_neg hSo
  have hnone : ∀ t ∈ h2.objs.size :: out, H1 t = none := fun t ht => by
    rcases List.mem_cons.mp ht with z | z
    · rw [z]; exact I1.hok.fresh hSge
    · exact I1.hok.fresh (hge t z)
  have I2 : Inv X pins σ (layT H1 (h2.objs.size :: out) f) { s1 with heap := h', toks := tk } := by
    refine I1.un (t' := tk) (un_layT kk (fun t ht => ?_) hnone) (hok_layT I1.hok kk hnone fun t ht => ?_)
    · rcases List.mem_cons.mp ht with z | z
      · rw [z]; exact hSge
      · exact hge t z
    · rcases List.mem_cons.mp ht with z | z
      · subst z
        rw [hfS]
        refine ⟨by rw [List.length_map, ← hxl]; exact hz, acc.toList, c, ?_, by rw [hS, Array.toArray_toList]⟩
        rw [hacc]
        have : ∀ l : List Addr, Vals (l.map V.ref) (l.map Value.ref) := fun l => by
          induction l with
          | nil => exact .nil
          | cons x r ih => exact .cons (show RelV (.ref x) (.ref x) from rfl) ih
        exact this out
      · obtain ⟨j, hj⟩ := List.mem_iff_getElem?.mp z
        obtain ⟨tt, y, e1, e2⟩ := g.pr j t hj
        have hjx : j < xs.length := by rw [hxl]; exact (List.getElem?_eq_some_iff.mp hj).1
        rw [hft j t _ hj (List.getElem?_eq_getElem hjx)]
        refine ⟨by show 2 ≤ sizeLine; decide, [.int j tt, y], .cons ⟨tt, rfl⟩ (.cons ?_ .nil), ⟨_, e2, rfl, _, rfl⟩⟩
        obtain ⟨y2, ey, ry⟩ := Vals.get rv (List.getElem?_eq_getElem hjx)
        rw [show its.toArray[j]? = its[j]? by simp] at e1
        rw [e1] at ey
        cases ey
        exact ry
  refine ⟨.ref h2.objs.size, _, I2, rfl, ?_⟩
  have fin := q out h2.objs.size (layT H1 out f) hnd (fun t ht => hnone t (List.mem_cons_of_mem _ ht)) (hnone _ List.mem_cons_self) hSo hxl.symm (fun b hb => layT_out hb) fun j t x e1 e2 => by
    rw [layT_in (List.mem_of_getElem? e1), hft j t x e1 e2]
  have ee : layT H1 (h2.objs.size :: out) f = upd (layT H1 out f) h2.objs.size (.lst (out.map V.ref)) := by
    funext b
    by_cases hb : b = h2.objs.size
    · subst hb
      rw [upd_same, layT_in List.mem_cons_self, hfS]
    · rw [upd_ne hb]
      by_cases hb2 : b ∈ out
      · rw [layT_in hb2, layT_in (List.mem_cons_of_mem _ hb2)]
      · rw [layT_out hb2, layT_out fun z => by rcases List.mem_cons.mp z with z | z <;> first | exact hb z | exact hb2 z]
  rw [ee]
  exact fin
end
def LeK (K : PySem.W.Frag) (a : Addr) (H : Hp) (G : Addr → Hp → Prop) : Prop := ∃ (xs : List V), SqL K H a xs ∧
  ∀ (out : List Addr) (p : Addr) (B' : Hp), out.Nodup → (∀ t ∈ out, H t = none) → H p = none → p ∉ out → out.length = xs.length → (∀ b, b ∉ out → B' b = H b) → (∀ (j : Nat) (t : Addr) (x : V), out[j]? = some t → xs[j]? = some x → B' t = some (.tup [.int (j : Int), x])) → G p (upd B' p (.lst (out.map V.ref)))
section
variable {K : PySem.W.Frag} {B H : Hp} {l : List (Addr × HO)} {a p : Addr} {xs ys : List V} {σ : L2.St} {Q : VK} {te : TE}
theorem e_listEnum : tListEnum K te σ H Q ↔ te σ H fun v H1 => ∃ a, v = .ref a ∧ LeK K a H1 fun p H2 => Q (.ref p) H2 :=
  Iff.of_eq (congrArg (te σ H) (funext fun v => funext fun H1 => propext ⟨fun ⟨a, xs, e, h⟩ => ⟨a, e, xs, h⟩, fun ⟨a, e, xs, h⟩ => ⟨a, xs, e, h⟩⟩))
theorem LeK.of {G : Addr → Hp → Prop} (L : Led B H l) (h : SqL K H a xs) (k : ∀ p (ts : List Addr) B' H', Same B B' → ts.length = xs.length → (∀ (j : Nat) (t : Addr) (x : V), ts[j]? = some t → xs[j]? = some x → B' t = some (.tup [.int (j : Int), x])) → Led B' H' ((p, .lst (ts.map V.ref)) :: l) → G p H') : LeK K a H G := by
  refine ⟨xs, h, fun out p B1 hnd hn hp hpo hlen hsame htup => ?_⟩
  obtain ⟨B2, e2⟩ : ∃ B2 : Hp, B2 = fun b => if b ∈ out then B1 b else B b := ⟨_, rfl⟩
  have b2i : ∀ b, b ∈ out → B2 b = B1 b := fun b hb => by rw [e2]; exact if_pos hb
  have b2o : ∀ b, b ∉ out → B2 b = B b := fun b hb => by rw [e2]; exact if_neg hb
  have Bn : ∀ b ∈ out, B b = none := fun b hb => by
    cases z : B b with
    | none => rfl
    | some o => have := L.sm _ _ z; rw [hn b hb] at this; cases this
  have L2 : Led B2 B1 l := by
    refine ⟨fun b o e => ?_, L.nd, fun e he => ?_, fun e he => ?_⟩
    · by_cases hb : b ∈ out
      · rw [b2i b hb] at e; exact e
      · rw [b2o b hb] at e; rw [hsame b hb]; exact L.sm _ _ e
    · have : e.1 ∉ out := fun z => by have := L.hs e he; rw [hn _ z] at this; cases this
      rw [b2o _ this]; exact L.fr e he
    · have : e.1 ∉ out := fun z => by have := L.hs e he; rw [hn _ z] at this; cases this
      rw [hsame _ this]; exact L.hs e he
  refine k p out B2 _ (fun b o e => ?_) hlen (fun j t x e1 e2 => by rw [b2i t (List.mem_of_getElem? e1)]; exact htup j t x e1 e2) (L2.new (by rw [hsame p hpo]; exact hp))
  rw [b2o b fun z => by rw [Bn b z] at e; cases e]
  exact e
theorem u65 {k : Nat} {A : Around} (r : Room k A) : A.units + 65 < cLine := by have := r.un; omega
/-! ### (x,) * n -/
def RptTK (K : PySem.W.Frag) (a : Addr) (n : Int) (H : Hp) (G : Addr → Hp → Prop) : Prop := ∃ xs, SqT K H a xs ∧ xs ≠ [] ∧ 2 ≤ n ∧ n ≤ 1000 ∧ xs.length ≤ 1000 ∧ NewK (.tup (List.replicate n.toNat xs).flatten) H G
theorem x_repT {n : Int} : rRepT K (.ref a) (.int n) H Q ↔ RptTK K a n H fun p H1 => Q (.ref p) H1 := ⟨fun ⟨_, _, xs, e1, e2, h, h1, h2, h3, h4, q⟩ => by cases e1; cases e2; exact ⟨xs, h, h1, h2, h3, h4, q⟩, fun ⟨xs, h, h1, h2, h3, h4, q⟩ => ⟨a, n, xs, rfl, rfl, h, h1, h2, h3, h4, q⟩⟩
theorem RptTK.of {n : Nat} {v : V} {G : Addr → Hp → Prop} (L : Led B H l) (h : SqT K H a [v]) (h2 : 2 ≤ n) (hn : n ≤ 1000) (k : ∀ p H1, Led B H1 ((p, .tup (List.replicate n v)) :: l) → G p H1) : RptTK K a (n : Int) H G :=
  ⟨[v], h, by simp, by omega, by omega, by simp, by rw [Int.toNat_natCast, flat_one]; exact NewK.of L k⟩
/-! ### d.pop(k, x) -/
def DPopK (H : Hp) (a : Addr) (y z : V) (Q : V → Hp → Prop) : Prop := ∃ kvs k, H a = some (.dK kvs) ∧ y = kV k ∧ (∀ v, valV kvs k = some v → Q v (upd H a (.dK (dropK kvs k)))) ∧ (valV kvs k = none → Q z H)
theorem e_dpop2 {td ty tx : TE} : tDPop2 td ty tx σ H Q = td σ H fun x H1 => ∃ a, x = .ref a ∧ IsD H1 a ∧ ty σ H1 fun y H2 => tx σ H2 fun z H3 => DPopK H3 a y z Q := propext ⟨fun h => h, fun h => h⟩
/-! ### sorted of tuples of ints -/
def SrtUK (K : PySem.W.Frag) (d : Nat) (Bd : Int) (a : Addr) (H : Hp) (G : Addr → Hp → Prop) : Prop := ∃ xs, SqL K H a xs ∧ xs.length < 64 ∧ (∀ x ∈ xs, ∃ ns, TupI K H x ns ∧ ns.length = d ∧ TS.Bd Bd ns) ∧ ∀ ys : List V, ys.Perm xs → ys.Pairwise (fun x y => ∀ n m, TupI K H x n → TupI K H y m → TS.code Bd n ≤ TS.code Bd m) → NewK (.lst ys) H G
theorem x_sortU {d : Nat} {Bd : Int} : rSortU K d Bd [.ref a] H Q ↔ SrtUK K d Bd a H fun p H1 => Q (.ref p) H1 :=
  ⟨fun ⟨_, xs, e, h1, h2, h3, q⟩ => by cases e; exact ⟨xs, h1, h2, h3, fun ys hp hs p hn => q ys p hp hs hn⟩, fun ⟨xs, h1, h2, h3, q⟩ => ⟨a, xs, rfl, h1, h2, h3, fun ys p hp hs hn => q ys hp hs p hn⟩⟩
/-! ### x not in a list of data -/
def NInK (K : PySem.W.Frag) (x y : V) (H : Hp) (G : Bool → Prop) : Prop := ∃ d ds, Dp K H x d ∧ Dp K H y (.list ds) ∧ SeqAt.shaped d = true ∧ SeqAt.shaped (.list ds) = true ∧ G (!ds.any fun z => PyData.eqv z d)
theorem x_notInD {x y : V} : rNotInD K x y H Q ↔ NInK K x y H fun b => Q (.bl b) H := Iff.rfl
/-! ### for x in reversed(xs) -/
theorem i_rev {al : TA} {R : It → Hp → Prop} : iRev K al σ H R ↔ al σ H fun vs H1 => ∃ a, vs = [.ref a] ∧ ∃ xs, SqL K H1 a xs ∧ R (Itv K a xs.length) H1 := by
  unfold iRev
  exact Iff.of_eq (congrArg (al σ H) (funext fun vs => funext fun H1 => propext ⟨fun ⟨a, xs, e, h, r⟩ => ⟨a, e, xs, h, r⟩, fun ⟨a, e, xs, h, r⟩ => ⟨a, xs, e, h, r⟩⟩))
theorem loop_rev {g : TG} {tb : TS} {D : Ends} (Pv : Nat → L2.St → Hp → Prop) (h0 : Pv 0 σ H) (hq : ∀ i σ H, Pv i σ H → SqL K H a xs)
    (hs : ∀ (i : Nat) (x : V) (σ : L2.St) (H : Hp) (N : L2.St → Hp → Prop), i < xs.length → xs[xs.length - 1 - i]? = some x → Pv i σ H → (∀ σ2 H2, Pv (i + 1) σ2 H2 → N σ2 H2) → g x σ H fun σ2 H2 => tb { D with nx := N, ct := N, bk := D.nx } σ2 H2) (hd : ∀ σ H, Pv xs.length σ H → D.nx σ H) : LoopK (Itv K a xs.length) g tb D σ H :=
  RT.for_Itv Pv h0 hq (fun i x σ H h1 h2 h3 => hs i x σ H _ h1 h2 h3 fun _ _ z => z) hd
end
end Vg


set_option Elab.async false
set_option linter.all false
set_option maxRecDepth 100000
set_option maxHeartbeats 2000000
namespace Vg
open PySem PySem.Spec PyProof.Rows L2 PySem.Calls PyProof.V PySem.W NdefX
/-! ### super().__init__(e) of an own exception class that lies over ValueError -/
theorem call_mw {X : Cx} {pins : List (Addr × Obj)} {σ : L2.St} {H : Hp} {s : Shared} {a C u : Addr} {us : List Value} {Q : Value → Shared → Prop} {E : Value → Shared → Prop} {A : Around} (T : OexC X.K C) (I : Inv X pins σ H s) (e : H a = some (exo a C none))
    (hu : s.heap.get? u = some (kxs_mw "ValueError.__init__" a)) (hl : us.length ≤ sizeLine) (q : ∀ s', Inv X pins σ H s' → Q .none s') : wpAny (model X.prog X.w) A (call (.ref u) us) Q E s := by
  obtain ⟨nm, q0, N, bs, bm, sn, sub, ab, col, dd, k0, k1, k2, k3, k5, hC, hbm⟩ := T.cls
  obtain ⟨t1, ho⟩ := exo_at I.hok e
  obtain ⟨hp, g, d, t, os⟩ := s
  refine wpAny_call (codeAny_of_tree (?_ : wpAny _ A.in1 (callAny (.ref u) ⟨us, []⟩) _ _ _))
  simp only [callAny]
  refine wpAny_bind (wpAny_load hu ?_)
  have k1' : (Value.type "method-wrapper" == Value.type "method" || Value.type "method-wrapper" == Value.type "builtin_function_or_method" || Value.type "method-wrapper" == Value.type "method-wrapper") = true := by decide
  simp only [kxs_mw, k1', if_true]
  refine KFB.if_so (by decide) (wpAny_bind (check_bound_init F.excBase_ValueError.toExcCallFacts (I.kIn _ _ hC) ho rfl (wpAny_bind (wpAny_pure (wpAny_pure ⟨plainId_quiet F.excBase_ValueError.init.plain _, codeAny_builtin F.excBase_ValueError.initEntry ?_⟩)))))
  refine exc_init_tree (cls := .ref C) (t0 := t1) (dv := none) (c2 := .none) (c3 := .none) (b4 := .bool false) ho hl fun h' k e' _ => ?_
  have J := I.write (t' := t) (x := a) (e := a) (o := exo a C none) (by rw [e]; exact True.intro) (.inl rfl) k ⟨_, e'⟩ (exo_ok e')
  have eh : upd H a (exo a C none) = H := funext fun b => by
    rcases Classical.em (b = a) with hb | hb
    · rw [hb, upd_same, e]
    · exact upd_ne hb
  rw [eh] at J
  exact q _ J
/-- what the written part says of a def in an exception class that says super() -/
structure SupF (P : Program) (K : PySem.W.Frag) (mg : Str → Option Value) (params : Arguments) (qual : Str) (scope : Scope) (body : List Stmt) (x0 : Str) (f C cc : Addr) (fd : FuncData) : Prop where
  ex : ∃ (oc : Value) (od : Option Addr) (doc pm : Value) (an : Option Addr) (cda : Addr) (ct : Value) (osl : Array (Option Value)) (ccl : Value) (cdd : Option Addr) (vs : Array Value) (ccs : Array (Option Value)) (file : Str) (tf : Tok),
    fd = fnX "__init__" qual params body scope [("__class__", cc)] .none .none doc pm an (.ref cda) ct ∧ K.lookup f = some ⟨oc, od, .func fd, osl⟩ ∧ codeIn K (.ref cda) qual = true ∧ K.lookup cda = some ⟨ccl, cdd, .fields vs, ccs⟩ ∧ vs[2]? = some (.str file tf) ∧ ((P.main.file : Str) == file) = true
  cell : ∃ (cl : Value) (cld : Option Addr) (csl : Array (Option Value)), K.lookup cc = some ⟨cl, cld, .cell (some (.ref C)), csl⟩
  head : ∃ ar : Arg, (params.posonlyargs ++ params.args).head? = some ar ∧ ar.arg = x0
  cls : ∃ cd, clsIn K C = some cd
  top : (P.main.scope.names.lookup ("super" : Str)).isSome = false
  mgs : mg "super" = none
  stat : nsIn K cStatics "thirdparty.any" = some none
  init : ks_superIn K C C "__init__" = some (some (.builtin "ValueError.__init__"))
  sub : mroIn K C (.ref C) = some true
  isV : subIn K (.ref C) (.type "ValueError") = some true
  ks : scope.names.lookup ("super" : Str) = some .globalImplicit
  kc : scope.names.lookup ("__class__" : Str) = some .free
  ka : scope.names.lookup x0 = some .local
section
variable {X : Cx} {pins : List (Addr × Obj)} {σ : L2.St} {H : Hp} {s : Shared} {params : Arguments} {qual x0 : Str} {scope : Scope} {body : List Stmt} {f C cc a : Addr} {fd : FuncData} {L : Addr} {e0 : Expr} {te : TE} {p0 p1 p2 p3 : Pos} {Q : VK}
/-- the value of super().__init__(e), in the body itself -/
theorem sup_call (S : SupF X.prog X.K X.mg params qual scope body x0 f C cc fd) (T : OexC X.K C) (henv : ∀ cda, fd.code = .ref cda → X.env = envX qual scope L f (.ref cda) [("__class__", cc)]) (I : Inv X pins σ H s) (h0 : X.N[0]? = some x0) (hσ : σ[0]? = some (some (.ref a))) (ea : H a = some (exo a C none))
    (he : PE X e0 te) (q : te σ H fun v H1 => (∃ x : Str, [v] = [V.str x]) ∧ H1 a = some (exo a C none) ∧ Q .non H1) {pl : Sem Bool}
    (hc : eval (.Call (.Attribute (.Call (.Name "super" p0) [] [] p1) "__init__" p2) [e0] [] p3) X.env = (do
      let b ← attributeBase (.Call (.Name "super" p0) [] [] p1) "__init__" X.env (eval (.Call (.Name "super" p0) [] [] p1) X.env)
      standAt p2.atName
      let (g, fi) ← holding [b] (getMethod b "__init__" pl)
      callWith p3 g fi (backTo p3 (starEach [e0] X.env)) []))
    (hst : starEach [e0] X.env = (false, eval e0 X.env) :: starEach [] X.env) : _root_.PySem.wpAt (model X.prog X.w) X.A (.func body X.env) (eval (.Call (.Attribute (.Call (.Name "super" p0) [] [] p1) "__init__" p2) [e0] [] p3) X.env) (EP X pins σ Q) X.xe s := by
  obtain ⟨oc, od, doc, pm, an, cda, ct, osl, ccl, cdd, vs, ccs, file, tf, rfl, lk, hcd, hrec, hvs, hfile⟩ := S.ex
  obtain ⟨cl, cld, csl, hcell⟩ := S.cell
  obtain ⟨ar, har, har0⟩ := S.head
  obtain ⟨cd, hcl⟩ := S.cls
  have ee := henv cda rfl
  obtain ⟨t1, ho⟩ := exo_at I.hok ea
  obtain ⟨oD, hD1, hD2⟩ : ∃ oD, s.heap.get? C = some oD ∧ oD.data = .cls cd := by
    unfold clsIn at hcl
    split at hcl
    · cases hcl
      exact ⟨_, I.kIn _ _ (by assumption), rfl⟩
    · cases hcl
  have hks : X.env.kindOf "super" = some .globalImplicit := by rw [ee]; exact S.ks
  have hkc : X.env.kindOf "__class__" = some .free := by rw [ee]; exact S.kc
  have hka : X.env.kindOf x0 = some .local := by rw [ee]; exact S.ka
  have hLn : a ≠ X.env.locals := fun z => by have := I.free; rw [← z, ea] at this; cases this
  obtain ⟨mb, hb1, hb2⟩ := I.mod.blt
  refine ks_wpAt_MethodCall (he := hc) ?_
  refine ks_wpAt_super_base hks hkc (by decide) (by rw [ee]) (I.kIn _ _ lk) rfl har (by rw [ee]) (I.kIn _ _ hrec) rfl hvs hfile S.top ?_
  refine ks_loadName_global I.ok.kind hks (loadGlobal_builtin (by rw [I.ok.glob]; exact I.mod.glob.keeps I.bk) S.mgs (by rw [I.ok.blt]; exact hb1.keeps I.bk) ((hb2 "super" (by decide)).trans (by rfl)) ⟨rfl, ?_⟩)
  refine wpAny_loadName_free I.ok.kind hkc (by rw [ee]; rfl) ⟨_, I.kIn _ _ hcell, rfl⟩ ?_
  rw [har0]
  obtain ⟨m, hns, hm⟩ := I.loc
  obtain ⟨u0, ru, lk0⟩ := hm 0 x0 (.ref a) h0 hσ (by rw [ee]; exact .inl S.ka)
  obtain rfl : u0 = Value.ref a := ru
  rcases lk0 with ⟨_, hmx⟩ | ⟨z, _⟩
  rotate_left
  · rw [hka] at z
    rcases z with z | z <;> cases z
  refine wpAny_loadName_local I.ok.kind hka hns hmx ?_
  obtain ⟨hp, g, d, t, os⟩ := s
  refine ks_wpAny_isType_cls hD1 hD2 ⟨rfl, ?_⟩
  refine ks_wpAny_call_super hD1 hD2 ho rfl (fun c e => by cases e) (looks_mroIn I.kIn S.sub) fun h1 hso k1 => ?_
  have I1 : L2.Inv X pins σ H ⟨h1, g, d, t, os⟩ := I.kept (t' := t) k1
  obtain ⟨l, hl, hla⟩ : ∃ l, (cd.mro.dropWhile (· != .ref C)).drop 1 = l ∧ alongIn X.K "__init__" l = some (some (.builtin "ValueError.__init__")) := by
    have := S.init
    unfold ks_superIn at this
    rw [hcl] at this
    exact ⟨_, rfl, this⟩
  have ho1 := k1 _ _ ho
  have ia : InstAt h1 a _ C none := ⟨ho1, rfl, rfl, trivial⟩
  have hty : Looks (model X.prog X.w) h1 (isInstance (.ref a) (.type "ValueError")) true := ia.type.andThen (looks_subIn I1.kIn S.isV)
  have haC : a ≠ C := fun z => by
    have := (I.kIn _ _ lk)
    rw [z] at ho
    rw [hD1] at ho
    cases ho
    cases hD2
  refine kxs_getMethod kxs_ValueError hso (looks_opaque I1.kIn S.stat) (l₀ := cd.mro) (fun A Q E s k q => wpAny_bind ((looks_clsIn (I1.kIn.keeps k) hcl) A _ E s (fun _ _ z => z) (wpAny_pure q))) hl I1.kIn hla hty haC (by decide) ?_
  obtain ⟨h2, e2⟩ : ∃ h2, h2 = h1.push (kxs_mw "ValueError.__init__" a) := ⟨_, rfl⟩
  have k2 : ∀ b o, h1.get? b = some o → h2.get? b = some o := fun b o e => by rw [e2]; exact Heap.get?_push_of_some _ e
  have hu : h2.get? h1.objs.size = some (kxs_mw "ValueError.__init__" a) := by rw [e2]; exact Heap.get?_push_at rfl rfl
  rw [← e2]
  have I2 : L2.Inv X pins σ H ⟨h2, g, d, t + 1, os⟩ := I1.kept (t' := t + 1) k2
  have I3 : L2.Inv X ((h1.objs.size, kxs_mw "ValueError.__init__" a) :: pins) σ H ⟨h2, g, d, t + 1, os⟩ := I2.pins_of fun p hp => by
    rcases List.mem_cons.mp hp with z | z
    · subst z
      exact ⟨hu, I1.hok.fresh (Nat.le_refl _), Nat.ne_of_gt I1.lt, I1.nofs (Nat.le_refl _), fun v z => by cases z⟩
    · exact I2.pin p (List.mem_append_right _ z)
  show wpAny _ _ (callWith p3 (.ref h1.objs.size) [] (backTo p3 (starEach [e0] X.env)) []) _ _ _
  have q' : tCons te tNil σ H fun vs H1 => (∃ x, vs = [.str x]) ∧ H1 a = some (exo a C none) ∧ Q .non H1 := q
  have pa := pa_cons he pa_nil hst
  have run := pa.run p3 _ _ _ _ (fun vs H1 => (∃ x, vs = [.str x]) ∧ H1 a = some (exo a C none) ∧ Q .non H1) I3
  refine kxs_callWith (i := "ValueError.__init__") (x := a) (by rw [hst]; rfl) ?_
  rw [hst] at run ⊢
  refine evalArgs_plain (thn (run ?_) fun us s1 ⟨vs, H1, I4, r1, ⟨x, ev⟩, ea1, q1⟩ => ?_)
  · exact q'
  subst ev
  have hu1 : s1.heap.get? h1.objs.size = some (kxs_mw "ValueError.__init__" a) := (I4.pin _ (List.mem_append_right _ List.mem_cons_self)).1
  refine ⟨hu1, ?_⟩
  have I5 : L2.Inv X pins σ H1 s1 := I4.pins_of fun p hp => I4.pin p (List.mem_append_right _ (List.mem_cons_of_mem _ hp))
  have hl1 : us.length ≤ sizeLine := by
    rw [← Paired.length r1]
    show 1 ≤ sizeLine
    decide
  exact call_mw T I5 ea1 hu1 hl1 fun s' J => ⟨.non, H1, J, rfl, q1⟩
end
section
variable {CX : CXT} {P : Program} {w : World} {K : PySem.W.Frag} {mg : Str → Option Value} {base : Heap} {N ps : List Str} {params : Arguments} {qual x0 : Str} {scope : Scope} {body rest : List Stmt} {f C cc : Addr} {fd : FuncData} {e0 : Expr} {p0 p1 p2 p3 p4 : Pos} {k : Nat} {sp : Sp}
abbrev supN (qual : Str) (params : Arguments) (body : List Stmt) (scope : Scope) (cc cda : Addr) : NF := ⟨"__init__", qual, params, body, scope, [("__class__", cc)], cda⟩
/-- a def of an exception class whose first row is super().__init__(e) -/
theorem fn_super (S : SupF P K mg params qual scope body x0 f C cc fd) (T : OexC K C) (sc : NScope N (x0 :: ps) ["__class__"] scope) (hbd : body = .Expr (.Call (.Attribute (.Call (.Name "super" p0) [] [] p1) "__init__" p2) [e0] [] p3) p4 :: rest) {pl : Sem Bool}
    (hc : ∀ env : Env, eval (.Call (.Attribute (.Call (.Name "super" p0) [] [] p1) "__init__" p2) [e0] [] p3) env = (do
      let b ← attributeBase (.Call (.Name "super" p0) [] [] p1) "__init__" env (eval (.Call (.Name "super" p0) [] [] p1) env)
      standAt p2.atName
      let (g, fi) ← holding [b] (getMethod b "__init__" pl)
      callWith p3 g fi (backTo p3 (starEach [e0] env)) []))
    (hst : ∀ env : Env, starEach [e0] env = (false, eval e0 env) :: starEach [] env)
    (hsw : ∀ env : Env, swapsWith (.Call (.Attribute (.Call (.Name "super" p0) [] [] p1) "__init__" p2) [e0] [] p3) none p4.line env = pure false)
    (len : ∀ vs H Q E, sp vs H Q E → vs.length = (x0 :: ps).length)
    (hb : ∀ (cda : Addr) (A : Around) (outer : List Env) (s : Shared) (H : Hp) (vs : List V) (Q : VK) (E : XK), Room k (A.deeper (envF (supN qual params body scope cc cda) f s.heap.objs.size)) → sp vs H Q E →
      ∃ (a : Addr) (te : TE) (t : L2.TS), vs[0]? = some (.ref a) ∧ H a = some (exo a C none) ∧ PE (ncx CX P w K mg base N (supN qual params body scope cc cda) f A outer s H E) e0 te ∧ PSs (ncx CX P w K mg base N (supN qual params body scope cc cda) f A outer s H E) rest t ∧
        te (startF N vs [some (.ref C)]) H fun v H1 => (∃ x : Str, [v] = [V.str x]) ∧ H1 a = some (exo a C none) ∧ t { nx := fun _ H' => Q .non H', rt := Q } (startF N vs [some (.ref C)]) H1) :
    FnOk P w K mg base CX (k + 1) f fd (x0 :: ps) sp := by
  obtain ⟨oc, od, doc, pm, an, cda, ct, osl, ccl, cdd, vs0, ccs, file, tf, rfl, lk, hcd, hrec, hvs, hfile⟩ := id S.ex
  obtain ⟨cl, cld, csl, hcell⟩ := id S.cell
  refine ⟨len, fun A outer s H args us vs Q E hr e0' hb0 r hsp => ?_⟩
  have hl := len _ _ _ _ hsp
  have KX : K.In s.heap := e0'.mod.kin.keeps fun b o e => (e0'.bs b o e).1
  have lim : s.heap.NoLimit := e0'.mod.nolimit.keeps fun b o e => (e0'.bs b o e).1
  refine ks_codeAny_call_defAt hr.depth (KX _ _ lk) rfl lim (codeRec_of KX hcd) rfl hb0 sc.nocell (fun x hx => sc.par x.1 (List.of_mem_zip hx).1) (fun h₁ hns k1 => ?_) sc.co sc.gen sc.kind
  obtain ⟨a, te, t, ha0, hea, hpe, hps, hq⟩ := hb cda A outer s H vs Q E (hr.deeper _) hsp
  have C1 : CellsAt [("__class__", cc)] ["__class__"] [some (V.ref C)] s.heap H := by
    have h1 := e0'.bs _ _ (e0'.mod.kin _ _ hcell)
    have hl1 : ∀ y c, ([("__class__", cc)] : List (Str × Addr)).lookup y = some c → y = "__class__" ∧ c = cc := fun y c e => by
      have := PySem.mem_of_lookup e
      rw [List.mem_singleton] at this
      cases this
      exact ⟨rfl, rfl⟩
    refine ⟨rfl, fun y c e => ?_, fun x y c e1 e2 => (hl1 x c e1).1.trans (hl1 y c e2).1.symm, fun i y hi => ?_⟩
    · obtain ⟨_, rfl⟩ := hl1 y c e
      exact ⟨h1.2, _, _, h1.1, rfl⟩
    · cases i with
      | zero =>
        cases hi
        refine ⟨cc, rfl, fun v hv => ?_⟩
        cases hv
        exact ⟨.ref C, rfl, _, h1.1, rfl⟩
      | succ i => cases hi
  have I : L2.Inv (ncx CX P w K mg base N (supN qual params body scope cc cda) f A outer s H E) [] (startF N vs [some (.ref C)]) H { s with heap := h₁, toks := s.toks + ((x0 :: ps).zip us).length } := inv_startN sc hr.hd e0' hl r C1 hns k1
  show _root_.PySem.wpAt (model P w) (A.deeper (envF (supN qual params body scope cc cda) f s.heap.objs.size)) (.func body (envF (supN qual params body scope cc cda) f s.heap.objs.size)) (execs body (envF (supN qual params body scope cc cda) f s.heap.objs.size)) _ _ _
  have run := sup_call (X := ncx CX P w K mg base N (supN qual params body scope cc cda) f A outer s H E) (Q := fun _ H1 => t { nx := fun _ H' => Q .non H', rt := Q } (startF N vs [some (.ref C)]) H1) S T (fun cda' e => by cases e; rfl) I (by
      have := congrArg (fun l => l[0]?) sc.pre
      rw [List.getElem?_take_of_lt (by show 0 < _ + _; rw [List.length_cons]; omega)] at this
      exact this) (by
      unfold startF
      rw [List.getElem?_append_left (by rw [List.length_map, hl, List.length_cons]; omega), List.getElem?_map, ha0]
      rfl) hea hpe hq (hc _) (hst _)
  subst hbd
  refine ks_wpAt_execs_cons (ks_wpAt_Expr_any (ks_wpAt_mono run (fun v s1 hv => ?_) fun e s' z => z) I.quiet (hsw _))
  obtain ⟨v', H1, I1, _, ht⟩ := hv
  refine wpAt_of_wpAny (wpAny_mono (hps.run [] s1 _ H1 _ I1 ht) (fun fl s' hs => ?_) fun e s' hs => hs)
  have fin : ∀ {σ' : L2.St} {H' : Hp} {v : V} {u : Value}, L2.Inv (ncx CX P w K mg base N (supN qual params (.Expr (.Call (.Attribute (.Call (.Name "super" p0) [] [] p1) "__init__" p2) [e0] [] p3) p4 :: rest) scope cc cda) f A outer s H E) [] σ' H' s' → L2.RelV v u → Q v H' → CE outer P w H s Q u s' := fun {σ' H' v u} J rv q => ⟨v, H', J.os, J.bare, J.base, J.hok, rv, q⟩
  cases fl with
  | ret u =>
    obtain ⟨v, σ', H', J, rv, q⟩ := hs
    exact fin J rv q
  | next =>
    obtain ⟨σ', H', J, q⟩ := hs
    exact fin (v := V.non) (u := Value.none) J rfl q
  | brk => obtain ⟨_, _, _, q⟩ := hs; exact q.elim
  | cont => obtain ⟨_, _, _, q⟩ := hs; exact q.elim
end
/-! ### such a class with one field -/
structure OwnX (P : Program) (K : PySem.W.Frag) (mg : Str → Option Value) (st : Stmt) (qual pn fld : Str) (C f cc : Addr) (fd : FuncData) : Prop where
  S : SupF P K mg (defArgs st) qual (defScope st) (defBody st) "self" f C cc fd
  T : OexC K C
  iC : findIn K (.ref C) "__init__" = some (some (.ref f))
  tI : typeIn K (.ref f) = some (.type "function")
  b : Binds K fd ["self", pn] []
  no : findIn K (.ref C) fld = some none
  X : XfC K C
/-- its __init__(self, n) -/
def sp_xinit (C : Addr) (fld : Str) : Sp := fun vs H Q _ => ∃ (a : Addr) (n : Int), vs = [.ref a, .int n] ∧ n.natAbs < 2 ^ 1900 ∧ (Str.ofString (toString n)).length ≤ 1000 ∧ H a = some (exo a C none) ∧ ∀ dx, H dx = none → dx ≠ a → Q .non (upd (upd H dx (exd dx [(fld, .int n)])) a (exo a C (some dx)))
/-- .. its text and its store -/
theorem xinit_go {K : PySem.W.Frag} {C a : Addr} {fld t0 : Str} {n : Int} {H : Hp} {Q : VK} {v2 : Option V} (T : OexC K C) (no : findIn K (.ref C) fld = some none) (h0 : Str.empty.length + t0.length ≤ 50000) (h : n.natAbs < 2 ^ 1900) (h2 : (Str.ofString (toString n)).length ≤ 1000) (ha : H a = some (exo a C none))
    (q : ∀ dx, H dx = none → dx ≠ a → Q .non (upd (upd H dx (exd dx [(fld, .int n)])) a (exo a C (some dx)))) :
    tJs [tC (V.str t0), tFmt (tVar 1)] Str.empty [some (.ref a), some (.int n), v2] H fun out H1 => (∃ x : Str, [V.str out] = [V.str x]) ∧ H1 a = some (exo a C none) ∧ tOst K fld (tVar 0) (tVar 1) { nx := fun _ H' => Q .non H', rt := Q } [some (.ref a), some (.int n), v2] H1 := by
  rw [e_jo, e_c]
  refine JoK.of (acc := Str.empty) (y := t0) (Nat.le_trans h0 (by decide)) ?_
  rw [e_jo, e_fmt]
  refine ⟨.int n, rfl, FmtK.int h (JoK.of (by have e1 : (Str.empty ++ t0).length = Str.empty.length + t0.length := strLen_append _ _; have e2 : (Str.ofString (toString n)).length ≤ 1000 := h2; clear h; show (Str.empty ++ t0).length + (Str.ofString (toString n)).length ≤ _; omega) ?_)⟩
  rw [e_jo0]
  exact ⟨⟨_, rfl⟩, ha, _, rfl, _, rfl, a, C, rfl, T, no, .inl ⟨ha, q⟩⟩
/-- C(n), as it is raised -/
def MkXK (C : Addr) (fld : Str) (v : V) (H : Hp) (Q : XK) : Prop := [v].length ≤ 1000 ∧ ∀ a, H a = none → sp_xinit C fld (.ref a :: ([v] ++ [])) (upd H a (exo a C none)) (fun v H2 => v = .non ∧ ∃ (d : Addr) (fs : List (Str × V)), H2 a = some (exo a C (some d)) ∧ H2 d = some (exd d fs) ∧ H d = none ∧ Q (.ref C) (some d) (upd (del H2 a) d (.xd fs))) fun _ _ _ => False
theorem e_mkX {C : Addr} {fld : Str} {te : TE} {σ : L2.St} {H : Hp} {Q : XK} : tMkO C (sp_xinit C fld) [] (tCons te tNil) σ H Q = te σ H fun v H1 => MkXK C fld v H1 Q := propext ⟨fun h => h, fun h => h⟩
theorem MkXK.of {C : Addr} {fld : Str} {n : Int} {H : Hp} {Q : XK} (h : n.natAbs < 2 ^ 1900) (h2 : (Str.ofString (toString n)).length ≤ 1000) (q : ∀ d, H d = none → Q (.ref C) (some d) (upd H d (.xd [(fld, .int n)]))) : MkXK C fld (.int n) H Q := by
  refine ⟨by show 1 ≤ 1000; decide, fun a ha => ⟨a, n, rfl, h, h2, upd_same, fun dx hdx hne => ⟨rfl, dx, [(fld, .int n)], upd_same, ?_, ?_, ?_⟩⟩⟩
  · rw [upd_ne hne, upd_same]
  · rwa [upd_ne hne] at hdx
  · have hdx2 : H dx = none := by rwa [upd_ne hne] at hdx
    have e : upd (del (upd (upd (upd H a (exo a C none)) dx (exd dx [(fld, .int n)])) a (exo a C (some dx))) a) dx (.xd [(fld, .int n)]) = upd H dx (.xd [(fld, .int n)]) := by
      funext b
      by_cases hb : b = dx
      · subst hb
        rw [upd_same, upd_same]
      · rw [upd_ne hb, upd_ne hb]
        by_cases hb2 : b = a
        · subst hb2
          rw [del_same, ha]
        · rw [del_ne hb2, upd_ne hb2, upd_ne hb, upd_ne hb2]
    rw [e]
    exact q dx hdx2
/-- the field of the caught one -/
def XfK (a : Addr) (cls : Value) (d : Option Addr) (C : Addr) (f : Str) (x : V) (H : Hp) (G : V → Prop) : Prop := x = .ref a ∧ cls = .ref C ∧ ∃ (dd : Addr) (fs : List (Str × V)) (v : V), d = some dd ∧ H dd = some (.xd fs) ∧ fs.lookup f = some v ∧ G v
theorem e_xf {a C : Addr} {cls : Value} {d : Option Addr} {f : Str} {te : TE} {σ : L2.St} {H : Hp} {Q : VK} : tXf a cls d C f te σ H Q = te σ H fun x H1 => XfK a cls d C f x H1 fun v => Q v H1 := propext ⟨fun h => h, fun h => h⟩
theorem XfK.of {a dd C : Addr} {f : Str} {H : Hp} {v : V} {G : V → Prop} (h : H dd = some (.xd [(f, v)])) (g : G v) : XfK a (.ref C) (some dd) C f (.ref a) H G := ⟨rfl, rfl, dd, _, v, rfl, h, by simp [List.lookup], g⟩
/-! ### what the head finds -/
def oexB (C : Addr) (cd : ClassData) (sl : Array (Option Value)) : Bool := match cd.mro, sl.toList with
  | .ref C' :: bm, [_, _, _, _, some (.builtin n), _] => C' == C && n == "ValueError.__new__" && !cd.hasDel && PySem.HandSPX.refsVE bm && cd.hasDict
  | _, _ => false
theorem OexC.of {K : PySem.W.Frag} {C : Addr} {dd : Option Addr} {cd : ClassData} {sl : Array (Option Value)} (h : K.lookup C = some ⟨.type "type", dd, .cls cd, sl⟩) (b : oexB C cd sl = true) (sa : findIn K (.ref C) "__setattr__" = some (some (.builtin "object.__setattr__"))) (exC : subIn K (.ref C) (.type "BaseException") = some true)
    (tyC : typeIn K (.ref C) = some (.type "type")) (kC : keepIn K (.ref C) = true) : OexC K C := by
  refine ⟨?_, sa, exC, tyC, kC⟩
  unfold oexB at b
  split at b
  · rename_i C' bm k0 k1 k2 k3 n k5 hm hs
    simp only [Bool.and_eq_true, beq_iff_eq, Bool.not_eq_true'] at b
    obtain ⟨⟨⟨⟨rfl, rfl⟩, hdel⟩, hv⟩, hd⟩ := b
    obtain ⟨nm, bs, mro, ns, qn, hdd, sn, sub, ab, col, del⟩ := cd
    dsimp only at hm hdel hd
    subst hm hdel hd
    obtain ⟨l⟩ := sl
    dsimp only at hs
    subst hs
    exact ⟨_, _, _, _, bm, _, _, _, _, _, k0, k1, k2, k3, k5, h, hv⟩
  · cases b
theorem OwnX.of {P : Program} {K : PySem.W.Frag} {mg : Str → Option Value} {st : Stmt} {qual pn fld : Str} {C f cc cda : Addr} {dd od cdd cld an : Option Addr} {cd : ClassData} {sl osl ccs csl : Array (Option Value)} {oc doc pm ct ccl cl : Value} {vs : Array Value} {file : Str} {tf : Tok}
    (hC : K.lookup C = some ⟨.type "type", dd, .cls cd, sl⟩) (b : oexB C cd sl = true) (sa : findIn K (.ref C) "__setattr__" = some (some (.builtin "object.__setattr__"))) (exC : subIn K (.ref C) (.type "BaseException") = some true) (tyC : typeIn K (.ref C) = some (.type "type")) (kC : keepIn K (.ref C) = true)
    (lk : K.lookup f = some ⟨oc, od, .func (fnX "__init__" qual (defArgs st) (defBody st) (defScope st) [("__class__", cc)] .none .none doc pm an (.ref cda) ct), osl⟩) (hcd : codeIn K (.ref cda) qual = true) (hrec : K.lookup cda = some ⟨ccl, cdd, .fields vs, ccs⟩) (hvs : vs[2]? = some (.str file tf)) (hfile : ((P.main.file : Str) == file) = true)
    (hcell : K.lookup cc = some ⟨cl, cld, .cell (some (.ref C)), csl⟩) (head : ∃ ar : Arg, ((defArgs st).posonlyargs ++ (defArgs st).args).head? = some ar ∧ ar.arg = "self") (top : (P.main.scope.names.lookup ("super" : Str)).isSome = false) (mgs : mg "super" = none) (stat : nsIn K cStatics "thirdparty.any" = some none)
    (init : ks_superIn K C C "__init__" = some (some (.builtin "ValueError.__init__"))) (sub : mroIn K C (.ref C) = some true) (isV : subIn K (.ref C) (.type "ValueError") = some true) (ks : (defScope st).names.lookup ("super" : Str) = some .globalImplicit) (kc : (defScope st).names.lookup ("__class__" : Str) = some .free) (ka : (defScope st).names.lookup ("self" : Str) = some .local)
    (iC : findIn K (.ref C) "__init__" = some (some (.ref f))) (tI : typeIn K (.ref f) = some (.type "function")) (bb : Binds K (fnX "__init__" qual (defArgs st) (defBody st) (defScope st) [("__class__", cc)] .none .none doc pm an (.ref cda) ct) ["self", pn] []) (no : findIn K (.ref C) fld = some none)
    (ga : findIn K (.ref C) "__getattribute__" = some (some (.builtin "BaseException.__getattribute__"))) (gg : findIn K (.ref C) "__getattr__" = some none) (hdC : hasDictIn K C = true) :
    OwnX P K mg st qual pn fld C f cc (fnX "__init__" qual (defArgs st) (defBody st) (defScope st) [("__class__", cc)] .none .none doc pm an (.ref cda) ct) where
  S := ⟨⟨oc, od, doc, pm, an, cda, ct, osl, ccl, cdd, vs, ccs, file, tf, rfl, lk, hcd, hrec, hvs, hfile⟩, ⟨cl, cld, csl, hcell⟩, head, ⟨cd, by unfold clsIn; rw [hC]⟩, top, mgs, stat, init, sub, isV, ks, kc, ka⟩
  T := OexC.of hC b sa exC tyC kC
  iC := iC
  tI := tI
  b := bb
  no := no
  X := ⟨ga, gg, exC, hdC⟩
/-! ### d.pop(k) -/
def DPop1K (H : Hp) (a : Addr) (y : V) (Q : V → Hp → Prop) : Prop := ∃ kvs k v, H a = some (.dK kvs) ∧ y = kV k ∧ valV kvs k = some v ∧ Q v (upd H a (.dK (dropK kvs k)))
theorem e_dpop1 {td ty : TE} {σ : L2.St} {H : Hp} {Q : VK} : tDPop1 td ty σ H Q = td σ H fun x H1 => ∃ a, x = .ref a ∧ IsD H1 a ∧ ty σ H1 fun y H2 => DPop1K H2 a y Q := propext ⟨fun h => h, fun h => h⟩
end Vg


set_option Elab.async false
set_option linter.all false
set_option maxRecDepth 100000
set_option maxHeartbeats 2000000
namespace Vg
open PySem PySem.Spec PyProof.Rows L2
/-! ### sets made of dicts whose keys are pairs of tuples of ints -/
abbrev NK := List Int × List Int
def nkey (k : NK) : NestedKey := .tup [.tup (k.1.map .num), .tup (k.2.map .num)]
theorem map_num_inj : ∀ {a b : List Int}, a.map NestedKey.num = b.map NestedKey.num → a = b
  | [], [], _ => rfl
  | [], _ :: _, h => by cases h
  | _ :: _, [], h => by cases h
  | x :: a, y :: b, h => by
    rw [List.map_cons, List.map_cons] at h
    injection h with h1 h2
    injection h1 with h1
    rw [h1, map_num_inj h2]
theorem nkey_inj {a b : NK} (h : nkey a = nkey b) : a = b := by
  unfold nkey at h
  injection h with h
  injection h with h1 h2
  injection h1 with h1
  injection h2 with h2 _
  injection h2 with h2
  exact Prod.ext (map_num_inj h1) (map_num_inj h2)
def PK (H : Hp) (q : Addr) (k : NK) : Prop := ∃ r s, H q = some (.tup [.ref r, .ref s]) ∧ H r = some (.tup (k.1.map V.int)) ∧ H s = some (.tup (k.2.map V.int))
theorem PK.mono {B B' : Hp} (s : Same B B') {q : Addr} {k : NK} (h : PK B q k) : PK B' q k := by
  obtain ⟨r, t, h1, h2, h3⟩ := h
  exact ⟨r, t, s _ _ h1, s _ _ h2, s _ _ h3⟩
def nEnt (P : Program) (w : World) (x : NK × Addr) : DictEntry := entryOfKey (nestedKind P w) (nkey x.1, x.2, .bool true)
def nRaw (P : Program) (w : World) (d : Addr) (xs : List (NK × Addr)) (h : Heap) : Prop :=
  xs.length ≤ sizeLine ∧ (d == sysModules) = false ∧ (xs.map (·.1)).Nodup ∧ ∃ o es ep, h.get? d = some o ∧ o.ExactDict ∧ o.data = .dict es ep ∧ es.toList = xs.map (nEnt P w)
def nD (P : Program) (w : World) (d : Addr) : List (NK × Addr) → HO
  | [] => .dT []
  | x :: r => .ext (nRaw P w d (x :: r))
section
variable {P : Program} {w : World} {H : Hp} {h : Heap} {d : Addr} {xs : List (NK × Addr)} {o : Obj}
theorem nD_raw (e : ObjOk P w H h d (nD P w d xs)) : nRaw P w d xs h := by
  cases xs with
  | nil =>
    obtain ⟨z, hd, ys, pr, o, es, ep, ho, hx, hdt, he, hn⟩ := (show ObjOk P w H h d (.dT []) from e)
    cases pr
    exact ⟨Nat.zero_le _, hd, List.nodup_nil, o, es, ep, ho, hx, hdt, he⟩
  | cons x r => exact (show ObjOk P w H h d (.ext (nRaw P w d (x :: r))) from e).1
theorem nD_ok (r : nRaw P w d xs h) : ObjOk P w H h d (nD P w d xs) := by
  cases xs with
  | nil =>
    obtain ⟨z, hd, _, o, es, ep, ho, hx, hdt, he⟩ := r
    exact ⟨Nat.zero_le _, hd, [], .nil, o, es, ep, ho, hx, hdt, he, List.nodup_nil⟩
  | cons x q =>
    refine ⟨r, ?_, fun h1 h2 z k => ?_⟩
    · obtain ⟨z, hd, _, o, es, ep, ho, _⟩ := r
      exact ⟨o, ho⟩
    · obtain ⟨z, hd, n, o, es, ep, ho, y⟩ := z
      exact ⟨z, hd, n, o, es, ep, k _ ho, y⟩
theorem nD_mut (e : H d = some (nD P w d xs)) : Mut (H d) := by
  rw [e]
  cases xs <;> exact True.intro
end
section
variable {X : Cx} {pins : List (Addr × Obj)} {σ : L2.St} {H : Hp} {s : Shared} {d q : Addr} {xs : List (NK × Addr)} {k : NK}
theorem ints_nested {h : Heap} : ∀ {ns : List Int} {its : List Value}, Vals (ns.map V.int) its → NestedAll h (ns.map NestedKey.num) its
  | [], _, .nil => .nil
  | n :: r, _, .cons ⟨t, e⟩ rr => by
    subst e
    exact .cons (.int n t) (ints_nested (ns := r) rr)
theorem depth_nums : ∀ ns : List Int, NestedKey.depthAll (ns.map NestedKey.num) = 0
  | [] => rfl
  | n :: r => by
    rw [List.map_cons]
    simp only [NestedKey.depthAll, NestedKey.depth, depth_nums r]
    rfl
theorem tup_is {a : Addr} {ns : List Int} (I : L2.Inv X pins σ H s) (h : H a = some (.tup (ns.map V.int))) : NestedIs s.heap (.tup (ns.map .num)) (.ref a) := by
  obtain ⟨_, its, r, o, h1, h2, n, h3⟩ := (show ObjOk X.prog X.w H s.heap a (.tup (ns.map V.int)) from I.hok a _ h)
  exact .tup h1 h2 h3 (ints_nested r)
theorem PK.is (I : L2.Inv X pins σ H s) (h : PK H q k) : (nestedKind X.prog X.w).is s.heap (nkey k) q := by
  obtain ⟨r, t, h1, h2, h3⟩ := h
  obtain ⟨_, its, rv, o, g1, g2, n, g3⟩ := (show ObjOk X.prog X.w H s.heap q (.tup [.ref r, .ref t]) from I.hok q _ h1)
  obtain ⟨u1, u2, rfl, r1, r2⟩ := Vals.two rv
  cases (show u1 = Value.ref r from r1)
  cases (show u2 = Value.ref t from r2)
  refine ⟨.tup g1 g2 g3 (.cons (tup_is I h2) (.cons (tup_is I h3) .nil)), ?_⟩
  unfold nkey
  simp only [NestedKey.depthAll, NestedKey.depth, depth_nums]
  decide
def NAt (P : Program) (w : World) (H : Hp) (d : Addr) (xs : List (NK × Addr)) : Prop := H d = some (nD P w d xs) ∧ ∀ x ∈ xs, PK H x.2 x.1
def hX (xs : List (NK × Addr)) : List (NestedKey × Addr × Value) := xs.map fun x => (nkey x.1, x.2, .bool true)
theorem nodup_hX {xs : List (NK × Addr)} (h : (xs.map (·.1)).Nodup) : ((hX xs).map (·.1)).Nodup := by
  unfold hX
  rw [List.map_map]
  have : (xs.map ((·.1) ∘ fun x : NK × Addr => (nkey x.1, x.2, Value.bool true))) = (xs.map (·.1)).map nkey := by rw [List.map_map]; rfl
  rw [this]
  rw [List.nodup_iff_pairwise_ne, List.pairwise_map]
  exact h.imp fun z e => z (nkey_inj e)
theorem NAt.dict (I : L2.Inv X pins σ H s) (h : NAt X.prog X.w H d xs) : xs.length ≤ sizeLine ∧ (d == sysModules) = false ∧ (xs.map (·.1)).Nodup ∧ s.heap.DictOfH (nestedKind X.prog X.w) d (hX xs) := by
  obtain ⟨z, hd, nd, o, es, ep, ho, hx, hdt, he⟩ := nD_raw (I.hok d _ h.1)
  refine ⟨z, hd, nd, o, es, ep, ho, hx, hdt, ?_, fun x hx => ?_, nodup_hX nd⟩
  · rw [he]; unfold hX; rw [List.map_map]; rfl
  · obtain ⟨y, hy, rfl⟩ := List.mem_map.mp hx
    exact PK.is I (h.2 y hy)
def putN (xs : List (NK × Addr)) (k : NK) (q : Addr) : List (NK × Addr) := if k ∈ xs.map (·.1) then xs else xs ++ [(k, q)]
theorem atKey_hX {k : NK} : ∀ {xs : List (NK × Addr)}, (atKey (hX xs) (nkey k)).isSome = decide (k ∈ xs.map (·.1))
  | [] => rfl
  | x :: r => by
    have ih := atKey_hX (k := k) (xs := r)
    unfold atKey hX at ih ⊢
    rw [List.map_cons, List.map_cons, List.find?_cons]
    dsimp only
    by_cases c : x.1 = k
    · rw [decide_eq_true (show nkey x.1 = nkey k by rw [c])]
      rw [decide_eq_true (List.mem_cons.mpr (.inl c.symm))]
      rfl
    · rw [decide_eq_false (fun z => c (nkey_inj z))]
      dsimp only
      rw [ih]
      refine decide_eq_decide.mpr ⟨fun z => List.mem_cons_of_mem _ z, fun z => ?_⟩
      rcases List.mem_cons.mp z with z | z
      · exact absurd z.symm c
      · exact z
theorem putAt_hX {k : NK} (xs : List (NK × Addr)) : (hX xs).map (putAt (nkey k) (Value.bool true)) = hX xs := by
  unfold hX
  rw [List.map_map]
  refine List.map_congr_left fun x _ => ?_
  show putAt (nkey k) (Value.bool true) (nkey x.1, x.2, Value.bool true) = _
  unfold putAt
  split <;> rfl
theorem stored_hX (xs : List (NK × Addr)) (k : NK) (q : Addr) : storedH (hX xs) (nkey k) q (.bool true) = hX (putN xs k q) := by
  unfold storedH putN
  rw [atKey_hX]
  by_cases c : k ∈ xs.map (·.1)
  · rw [if_pos (by rw [decide_eq_true c]), if_pos c, putAt_hX]
  · rw [if_neg (by rw [decide_eq_false c]; decide), if_neg c]
    unfold hX
    rw [List.map_append]
    rfl
theorem putN_nodup {xs : List (NK × Addr)} {k : NK} {q : Addr} (h : (xs.map (·.1)).Nodup) : ((putN xs k q).map (·.1)).Nodup := by
  unfold putN
  split
  · exact h
  · rename_i c
    rw [List.map_append]
    refine List.nodup_append.mpr ⟨h, List.nodup_cons.mpr ⟨List.not_mem_nil, List.nodup_nil⟩, fun a ha b hb e => c ?_⟩
    have hb : b = k := List.mem_singleton.mp hb
    rw [← hb, ← e]; exact ha
theorem putN_len (xs : List (NK × Addr)) (k : NK) (q : Addr) : (putN xs k q).length ≤ xs.length + 1 := by
  unfold putN
  split
  · omega
  · rw [List.length_append]; exact Nat.le_refl _
theorem raw_of {h : Heap} (z : xs.length ≤ sizeLine) (hd : (d == sysModules) = false) (nd : (xs.map (·.1)).Nodup) (D : h.DictOfH (nestedKind X.prog X.w) d (hX xs)) : nRaw X.prog X.w d xs h := by
  obtain ⟨o, es, ep, h1, h2, h3, h4, _, _⟩ := D
  refine ⟨z, hd, nd, o, es, ep, h1, h2, h3, ?_⟩
  rw [h4]; unfold hX; rw [List.map_map]; rfl
/-! d[k] = True -/
theorem n_setItem {Q : Unit → Shared → Prop} {A : Around} {E : Value → Shared → Prop} (hu : A.units + 9 < cLine) (I : L2.Inv X pins σ H s) (N : NAt X.prog X.w H d xs) (hk : PK H q k) (hl : xs.length < sizeLine) (h : ∀ s', L2.Inv X pins σ (upd H d (nD X.prog X.w d (putN xs k q))) s' → Q () s') :
    wpAny (model X.prog X.w) A (setItem (.ref d) (.ref q) (.bool true)) Q E s := by
  obtain ⟨z, hd, nd, D⟩ := N.dict I
  refine wpAny_setItem_heap (hsz := by unfold hX; rw [List.length_map]; exact z) (show A.in1.units + 8 < cLine by show A.units + 1 + 8 < cLine; omega) (PK.is I hk) D fun h' D' hs => h _ ?_
  rw [stored_hX] at D'
  have he : ∃ o, h'.get? d = some o := let ⟨o, _, _, ho, _⟩ := D'; ⟨o, ho⟩
  exact d_write I (nD_mut N.1) hs he (nD_ok (raw_of (by have := putN_len xs k q; omega) hd (putN_nodup nd) D'))
end
def sNPut (P : Program) (w : World) (td ty tv : TE) : TS := fun D σ H => tv σ H fun v H1 => td σ H1 fun x H2 => ty σ H2 fun y H3 => ∃ a q, x = .ref a ∧ v = .bl true ∧ y = .ref q ∧ ∃ xs k, NAt P w H3 a xs ∧ PK H3 q k ∧ xs.length < sizeLine ∧ D.nx σ (upd H3 a (nD P w a (putN xs k q)))
theorem ps_nput {X : Cx} {td ty tv : TE} {o i value : Expr} {pos pos' : Pos} (hu : X.A.units + 9 < cLine) (ho : PE X o td) (hi : PE X i ty) (hv : PE X value tv) (hs : swapsWith value (some (.Subscript o i pos')) pos.line X.env = pure false) :
    PS X (.Assign [.Subscript o i pos'] value pos) (sNPut X.prog X.w td ty tv) := by
  refine ⟨fun pins s σ H D I h => ?_⟩
  refine wpAny_Assign_Subscript (thn (hv.run pins s σ H _ I h) fun r s1 ⟨v, H1, I1, rv, q1⟩ => thn (ho.run pins s1 σ H1 _ I1 q1) fun u s2 ⟨x, H2, I2, rx, q2⟩ => thn (hi.run pins s2 σ H2 _ I2 q2) fun iv s3 ⟨y, H3, I3, ry, a, q, ex, ev, ey, xs, k, N, hk, hl, q3⟩ => ?_) hs
  subst ex ev ey
  cases (show u = Value.ref a from rx)
  cases (show iv = Value.ref q from ry)
  cases (show r = Value.bool true from rv)
  exact n_setItem hu I3 N hk hl fun s4 I4 => ⟨σ, _, I4, q3⟩
/-! the display of one such key -/
def tN1 (P : Program) (w : World) (tk tv : TE) : TE := fun σ H Q => NewK (.dT []) H fun p H1 => tk σ H1 fun y H2 => tv σ H2 fun v H3 => ∃ q, y = .ref q ∧ v = .bl true ∧ ∃ k, H3 p = some (.dT []) ∧ PK H3 q k ∧ Q (.ref p) (upd H3 p (nD P w p [(k, q)]))
theorem pe_n1 {X : Cx} {pos : Pos} {k e : Expr} {tk tv : TE} (hu : X.A.units + 9 < cLine) (hk : PE X k tk) (he : PE X e tv) : PE X (.Dict [some k] [e] pos) (tN1 X.prog X.w tk tv) := by
  refine ⟨fun pins s σ H Q I q => ?_⟩
  have hn := I.hok.fresh (Nat.le_refl s.heap.objs.size)
  have I1 := I.laid (a := s.heap.objs.size) (o := .dT []) (h' := s.heap.push { cls := .type "dict", data := .dict #[] }) (t' := s.toks) (fun _ _ q => Heap.get?_push_of_some _ q) (Nat.le_refl _) (dt_empty s.heap I.big)
  refine wpAny_Dict_any rfl rfl (fun z => by cases z) (show 1 ≤ 15 by decide) (pairTrees_cons_walk (thn (hk.run pins _ σ _ _ I1 (q _ hn)) fun u s1 ⟨y, H1, I2, ry, q1⟩ =>
    thn (he.run pins s1 σ H1 _ I2 q1) fun w2 s2 ⟨v, H2, I3, rv, b, ey, ev, kk, e1, e2, q2⟩ => pairTrees_nil_walk ?_))
  subst ey ev
  cases (show u = Value.ref b from ry)
  cases (show w2 = Value.bool true from rv)
  have N : NAt X.prog X.w H2 s.heap.objs.size [] := ⟨e1, fun x hx => absurd hx List.not_mem_nil⟩
  obtain ⟨z, hd, nd, dd⟩ := N.dict I3
  unfold storeAll
  rw [List.forIn_cons]
  refine wpAny_bind (wpAny_bind (wpAny_dictSet_heap (hsz := by unfold hX; exact Nat.zero_le _) (knd := nestedKind X.prog X.w) (show X.A.units + 8 < cLine by omega) (PK.is I3 e2) dd fun h' dd' hs => wpAny_pure ?_))
  dsimp only
  rw [List.forIn_nil]
  refine wpAny_pure ⟨.ref s.heap.objs.size, _, ?_, rfl, q2⟩
  rw [stored_hX] at dd'
  have he : ∃ o, h'.get? s.heap.objs.size = some o := let ⟨o, _, _, ho, _⟩ := dd'; ⟨o, ho⟩
  exact d_write I3 (nD_mut N.1) hs he (nD_ok (raw_of (xs := [(kk, b)]) (show 1 ≤ sizeLine by decide) hd (List.nodup_cons.mpr ⟨List.not_mem_nil, List.nodup_nil⟩) dd'))
/-! for k in d, the dict locked behind -/
def Itn (P : Program) (w : World) (d : Addr) (o : Obj) (xs : List (NK × Addr)) : It :=
  ⟨fun i H => H d = some (.frz o (nD P w d xs)) ∧ i < xs.length, fun i H x H' => H' = H ∧ ∃ k q, xs[i]? = some (k, q) ∧ x = .ref q, fun i H => H d = some (.frz o (nD P w d xs)) ∧ xs.length ≤ i⟩
section
variable {X : Cx} {pins : List (Addr × Obj)} {σ : L2.St} {H : Hp} {s : Shared} {d : Addr} {o : Obj} {xs : List (NK × Addr)}
theorem Inv.frzN {P : Program} {w : World} (hP : X.prog = P) (hw : X.w = w) (I : L2.Inv X pins σ H s) (h : H d = some (.frz o (nD P w d xs))) :
    (d == sysModules) = false ∧ s.heap.get? d = some o ∧ o.ExactDict ∧ ∃ (es : Array DictEntry) (ep : Nat), o.data = .dict es ep ∧ es.size = xs.length ∧
      ∀ (i : Nat) (k : NK) (q : Addr), xs[i]? = some (k, q) → ∃ en : DictEntry, es[i]? = some en ∧ en.key = .ref q := by
  subst hP hw
  obtain ⟨hd, r⟩ := (show ObjOk X.prog X.w H s.heap d (.frz o (nD X.prog X.w d xs)) from I.hok d _ h)
  obtain ⟨z, hs, nd, o', es, ep, ho, hx, hdt, he⟩ := nD_raw r
  rw [hd] at ho
  cases ho
  refine ⟨hs, hd, hx, es, ep, hdt, by rw [← Array.length_toList, he, List.length_map], fun i k q e => ?_⟩
  refine ⟨nEnt X.prog X.w (k, q), ?_, rfl⟩
  rw [← Array.getElem?_toList, he, List.getElem?_map, e]
  rfl
theorem turn_keysN {P : Program} {w : World} {K : PySem.W.Frag} {tg : Expr} {es : Array DictEntry} {ep : Nat} (it : Addr) (hod : o.data = .dict es ep) : Turn P w K tg (Itn P w d o xs) [it] it (fun i h => h.IsKeyIter it d i xs.length ep) where
  mem := by simp
  obj := fun i h st b hb => by
    have e : b = it := by simpa using hb
    subst e
    obtain ⟨oi, e, c, dd⟩ := st
    exact ⟨oi, e, fun v z => by rw [dd] at z; cases z⟩
  keep := fun i h h' st k => st.at fun oi e => k it (by simp) oi e
  item := by
    intro X hP hw hK hc i pins s σ H E I hf st hg
    subst hP hw hK
    obtain ⟨hd, hi⟩ := hg
    obtain ⟨f0, f1, f2, f3, f4, f5⟩ := hf it (by simp)
    obtain ⟨hs, hgd, hx, es', ep', hdt, hsz, ent⟩ := Inv.frzN rfl rfl I hd
    obtain ⟨rfl, rfl⟩ := dict_ep hod hdt
    obtain ⟨⟨k, q⟩, hkv⟩ : ∃ p, xs[i]? = some p := ⟨xs[i], List.getElem?_eq_getElem hi⟩
    obtain ⟨en, hen, hkey⟩ := ent i k q hkv
    refine next_key_item st hgd hdt hsz hen fun h' st' sb => ?_
    have I1 : L2.Inv X pins σ H { s with heap := h' } := I.turned (t' := s.toks) (fun b ob hb e => (sb.2 b hb).trans e) f0 f1 f3 f4 f5
    obtain ⟨oi, e, c, dd⟩ := id st'
    exact ⟨en.key, rfl, go_of (s := { s with heap := h' }) e c dd (by decide) ⟨.ref q, H, I1, hkey, ⟨rfl, k, q, hkv, rfl⟩, st', fun b hb => (hf b hb).1⟩⟩
  done := by
    intro X hP hw hK hc i pins s σ H E I hf st hg
    subst hP hw hK
    obtain ⟨hd, hi⟩ := hg
    obtain ⟨f0, f1, f2, f3, f4, f5⟩ := hf it (by simp)
    obtain ⟨hs, hgd, hx, es', ep', hdt, hsz, ent⟩ := Inv.frzN rfl rfl I hd
    obtain ⟨rfl, rfl⟩ := dict_ep hod hdt
    exact next_key_end (I.ok.hd hc) st hgd hdt hsz hi fun h' eb => ⟨rfl, I.turned (t' := s.toks) (fun b ob hb e => eb b ob hb e) f0 f1 f3 f4 f5⟩
  self := fun A i s Q E st h => by
    refine wpAny_pyIter_slot st.typeIs F.slot_dict_keyiterator_iter (wpAny_call_entry F.slot_dict_keyiterator_iter st.typeIs F.entry_dict_keyiterator_iter ?_ (F.args_dict_keyiterator_iter_1 _))
    show wpAny _ _ (ret (.ref it)) _ _ s
    exact wpAny_pure ⟨_, rfl, "dict_keyiterator", _, st.typeIs, F.slot_dict_keyiterator_next.lookup, h⟩
end
def iNKeys (P : Program) (w : World) (td : TE) : TI := fun σ H R => td σ H fun x H1 => ∃ d, x = .ref d ∧ ∃ xs, H1 d = some (nD P w d xs) ∧ ∀ o, R (Itn P w d o xs) (upd H1 d (.frz o (nD P w d xs)))
theorem pi_nkeys {X : Cx} {tg e : Expr} {td : TE} (he : PE X e td) : PI X tg e (iNKeys X.prog X.w td) := by
  refine ⟨fun pins s σ H R I h => ?_⟩
  refine thn (he.run pins s σ H _ I h) fun u s1 ⟨x, H1, I1, rx, d, ex, xs, hd, q⟩ => ?_
  subst ex
  obtain rfl : u = Value.ref d := rx
  obtain ⟨od, I2⟩ := I1.lock hd (by have := nD_mut hd; rw [hd] at this; exact this)
  have q := q od
  have hfd : (upd H1 d (.frz od (nD X.prog X.w d xs))) d = some (.frz od (nD X.prog X.w d xs)) := upd_same
  obtain ⟨hs, hgd, hx, es, ep, hdt, hsz, ent⟩ := Inv.frzN rfl rfl I2 hfd
  refine iter_keys hs hgd hx hdt (pi_one (tk := s1.toks) I2 _ (turn_keysN _ hdt) ⟨_, Heap.get?_push_size _ rfl, rfl, ?_⟩ q)
  rw [hsz] <;> rfl
section
variable {P : Program} {w : World} {g : TG} {tb : TS} {D : Ends} {σ : L2.St} {H : Hp} {d : Addr} {o : Obj} {xs : List (NK × Addr)}
theorem loop_nkeys (Pv : Nat → L2.St → Hp → Prop) (h0 : Pv 0 σ H) (hq : ∀ i σ' H', Pv i σ' H' → H' d = some (.frz o (nD P w d xs)))
    (hs : ∀ i k q σ' H' (N : L2.St → Hp → Prop), xs[i]? = some (k, q) → Pv i σ' H' → (∀ σ2 H2, Pv (i + 1) σ2 H2 → N σ2 H2) → g (.ref q) σ' H' fun σ2 H3 => tb { D with nx := N, ct := N, bk := D.nx } σ2 H3)
    (hd : ∀ σ' H', Pv xs.length σ' H' → D.nx σ' H') : LoopK (Itn P w d o xs) g tb D σ H := by
  refine loop_gen xs.length Pv h0 (fun σ' H' r => ⟨⟨hq _ _ _ r, Nat.le_refl _⟩, hd σ' H' r⟩) fun i σ' H' hi r => ⟨⟨hq _ _ _ r, hi⟩, ?_⟩
  rintro x H2 ⟨rfl, k, q, hkv, rfl⟩
  exact hs i k q σ' _ _ hkv r (fun σ2 H3 z => z)
end
/-! list(d) -/
def rLstN (P : Program) (w : World) : List V → Hp → VK → Prop := fun vs H Q => ∃ d, vs = [V.ref d] ∧ ∃ xs, H d = some (nD P w d xs) ∧ NewK (.lst (xs.map fun x => V.ref x.2)) H fun p H1 => Q (.ref p) H1
theorem cr_lstN {X : Cx} (hc : X.calm = true) : CallR X (.type "list") (rLstN X.prog X.w) := by
  intro pins s σ H vs us Q I r h
  obtain ⟨d, rfl, xs, hd, q⟩ := h
  rw [Vals.ref1 r]
  obtain ⟨z, hs, nd, o, es, ep, ho, hx, hdt, he⟩ := nD_raw (I.hok d _ hd)
  have l1 : es.size = xs.length := by rw [← Array.length_toList, he, List.length_map]
  refine PySem.W.kdl_call (kdl_raw hs hx hdt) (I.ok.hd hc) ho (by omega) fun h' tk acc' c' kp e it => ?_
  have ea : acc'.toList = (xs.map (·.2)).map Value.ref := by
    have hl : acc'.toList.length = xs.length := by rw [Array.length_toList, it.1]; exact l1
    apply List.ext_getElem?
    intro j
    rw [List.map_map, List.getElem?_map]
    cases hj : acc'.toList[j]? with
    | none =>
      have h1 := List.getElem?_eq_none_iff.mp hj
      rw [List.getElem?_eq_none (by omega)]
      rfl
    | some v =>
      obtain ⟨en, hen, hv⟩ := it.2 j v (by rw [← Array.getElem?_toList]; exact hj)
      have hjl : j < xs.length := by have := (List.getElem?_eq_some_iff.mp hj).1; omega
      rw [List.getElem?_eq_getElem hjl]
      rw [← Array.getElem?_toList, he, List.getElem?_map, List.getElem?_eq_getElem hjl] at hen
      cases hen
      rw [hv]
      rfl
  have hv : Vals ((xs.map (·.2)).map V.ref) acc'.toList := by rw [ea]; exact vals_refs _
  rw [List.map_map, show (V.ref ∘ fun x : NK × Addr => x.2) = fun x => V.ref x.2 from rfl] at hv
  refine ⟨.ref s.heap.objs.size, upd H s.heap.objs.size (.lst (xs.map fun x => V.ref x.2)), I.laid (t' := tk) kp (Nat.le_refl _)
    (show ObjOk X.prog X.w _ _ _ (.lst _) from ⟨by rw [List.length_map]; exact z, acc'.toList, c', hv, by rw [Array.toArray_toList]; exact e⟩), rfl, q _ (I.hok.fresh (Nat.le_refl _))⟩
/-! ### sorted of rows of ints -/
section
open PySem.W
variable {X : Cx} {pins : List (Addr × Obj)} {σ : L2.St} {H : Hp} {s : Shared}
theorem ints_reads {h : Heap} : ∀ {ns : List Int} {its : List Value}, Vals (ns.map V.int) its → ReadsAll h its (ns.map PyData.int) []
  | [], _, .nil => .nil
  | n :: r, _, .cons ⟨t, e⟩ rr => by
    subst e
    exact .cons (.int n t) (ints_reads (ns := r) rr)
def srt (rows : List (List Int)) : List (List Int) := rows.mergeSort fun a b => decide (a ≤ b)
theorem each_refs {R : Addr → List Int → Prop} : ∀ {vs : List Value} {rows : List (List Int)}, PySem.W.EachIs (fun v ns => ∃ t, v = Value.ref t ∧ R t ns) vs rows → ∃ bs : List Addr, vs = bs.map Value.ref ∧ Paired R bs rows
  | _, _, .nil => ⟨[], rfl, .nil⟩
  | _, _, .cons ⟨t, e, h⟩ r => by
    obtain ⟨bs, e2, p⟩ := each_refs r
    exact ⟨t :: bs, by rw [e, e2]; rfl, .cons h p⟩
theorem refs_each {R : Addr → List Int → Prop} {bs : List Addr} {rows : List (List Int)} (h : Paired R bs rows) : PySem.W.EachIs (fun v ns => ∃ t, v = Value.ref t ∧ R t ns) (bs.map Value.ref) rows := by
  induction h with
  | nil => exact .nil
  | cons h _ ih => exact .cons ⟨_, rfl, h⟩ ih
def RowsL (H : Hp) (as : List Addr) (rows : List (List Int)) : Prop := Paired (fun a ns => H a = some (.lst (ns.map V.int))) as rows
def RowsT (H : Hp) (as : List Addr) (rows : List (List Int)) : Prop := Paired (fun a ns => H a = some (.tup (ns.map V.int))) as rows
def rSortR (K : PySem.W.Frag) : List V → Hp → VK → Prop := fun vs H Q => ∃ a, vs = [V.ref a] ∧ ∃ as rows, SqL K H a (as.map V.ref) ∧ RowsL H as rows ∧ ∀ bs, bs.Perm as → RowsL H bs (srt rows) → NewK (.lst (bs.map V.ref)) H fun p H1 => Q (.ref p) H1
theorem alike_rows (a b : List Int) : alike (.list (a.map .int)) (.list (b.map .int)) = true := by
  simp only [alike]
  exact PySem.W.alike_ints a b
theorem alike_rowsT (a b : List Int) : alike (.tuple (a.map .int)) (.tuple (b.map .int)) = true := by
  simp only [alike]
  exact PySem.W.alike_ints a b
theorem vals_bs {as : List Addr} {its : List Value} (h : Vals (as.map V.ref) its) : its = as.map Value.ref := by
  induction as generalizing its with
  | nil => cases h; rfl
  | cons a r ih =>
    rw [List.map_cons] at h
    cases h with
    | cons e t =>
      cases (show _ = Value.ref a from e)
      rw [ih t]; rfl
theorem lst_reads {a : Addr} {ns : List Int} {h : Heap} (hok : ObjOk X.prog X.w H h a (.lst (ns.map V.int))) : Reads h (.ref a) (.list (ns.map .int)) [a] := by
  obtain ⟨z, its, n, r, e⟩ := hok
  exact .list e rfl rfl (ints_reads r)
theorem tup_reads {a : Addr} {ns : List Int} {h : Heap} (hok : ObjOk X.prog X.w H h a (.tup (ns.map V.int))) : Reads h (.ref a) (.tuple (ns.map .int)) [] := by
  obtain ⟨z, its, r, o, e1, e2, n, e3⟩ := hok
  exact .tuple e1 e2 e3 (ints_reads r)
theorem dataLe_rowsT : PySem.W.dataLe false (fun b : List Int => PyData.tuple (b.map .int)) = fun p q => decide (p ≤ q) := by
  funext p q
  show (!dataLt (.tuple (q.map .int)) (.tuple (p.map .int))) = _
  rw [dataLt_tuple]
  show (!PySem.W.rowLt (q.map .int) (p.map .int)) = _
  rw [PySem.W.dataLt_ints]
  by_cases h : q < p
  · have h' : ¬ p ≤ q := fun r => List.not_lt.mpr r h
    simp [h, h']
  · have h' : p ≤ q := List.not_lt.mp h
    simp [h, h']
theorem srt_len (rows : List (List Int)) : (srt rows).length = rows.length := List.length_mergeSort rows
theorem sortVals_perm {κ : PyProof.Rows.KeyKind} {rev : Bool} (vs : List Value) : (PySem.W.sortVals κ rev vs vs).Perm vs := by
  unfold PySem.W.sortVals
  refine ((List.mergeSort_perm _ _).map Prod.snd).trans ?_
  rw [List.map_snd_zip (Nat.le_refl _)]
theorem refs_perm {bs as : List Addr} (h : (bs.map Value.ref).Perm (as.map Value.ref)) : bs.Perm as := by
  have := h.map (fun v : Value => match v with | .ref a => a | _ => 0)
  rw [List.map_map, List.map_map] at this
  have e : ∀ l : List Addr, l.map ((fun v : Value => match v with | .ref a => a | _ => 0) ∘ Value.ref) = l := fun l => List.map_id l
  rwa [e, e] at this
theorem cr_sortR (hu : X.A.units + 6 < cLine) : CallR X (.builtin "sorted") (rSortR X.K) := by
  intro pins s σ H vs us Q I r h
  obtain ⟨a, rfl, as, rows, hs, hr, q⟩ := h
  obtain ⟨its, rv, hl, hz⟩ := I.list hs
  rw [Vals.ref1 r]
  have hz : rows.length ≤ sizeLine := by rw [← Paired.length hr, ← List.length_map (f := V.ref)]; exact hz
  cases vals_bs rv
  have E0 := refs_each hr
  have hal : PySem.W.AllAlike (rows.map fun ns : List Int => PyData.list (ns.map .int)) := PySem.W.AllAlike.of alike_rows
  have ER : PySem.W.EachIs (fun v b => ∃ as', Reads (sortingHeap (copyHeap s.heap (as.map Value.ref)) (s.heap.objs.size + 1) (as.map Value.ref)) v (PyData.list (b.map .int)) as') (as.map Value.ref) rows :=
    E0.mono fun v ns ⟨t, e, h⟩ => ⟨[t], by rw [e]; exact PyProof.Rows.Reads.keeps (fun _ _ => sorting_copy_old) (lst_reads (I.hok t _ h))⟩
  have hdep : ∀ b, b ∈ rows → X.A.units + 2 + (PyData.list (b.map .int)).depth < cLine := fun b _ => by
    show X.A.units + 2 + (PyData.depthAll (b.map .int) + 1) < cLine; rw [PySem.W.depth_ints]; omega
  refine PySem.W.sorted_vals hl.isList (PySem.W.SortsAt.data (s := { s with heap := sortingHeap (copyHeap s.heap (as.map Value.ref)) (s.heap.objs.size + 1) (as.map Value.ref) }) (PySem.W.each_map (R := fun v d => ∃ as', Reads (sortingHeap (copyHeap s.heap (as.map Value.ref)) (s.heap.objs.size + 1) (as.map Value.ref)) v d as') (fun ns : List Int => PyData.list (ns.map .int)) ER) hal (PySem.W.Sortable.others fun b => And.intro (fun z => nomatch z) (fun xs z => nomatch z)) (PySem.W.bound_map hdep)) (by rw [E0.length]; exact hz) ?_
  have E1 := PySem.W.sortVals_data (enc := fun ns : List Int => PyData.list (ns.map .int)) false E0 ER hal
  rw [show (fun ns : List Int => PyData.list (ns.map .int)) = fun b => .list (((fun x => x) b : List Int).map .int) from rfl, PySem.W.dataLe_rows] at E1
  obtain ⟨bs, eb, hb⟩ := each_refs E1
  have hp : bs.Perm as := refs_perm (by rw [← eb]; exact sortVals_perm _)
  rw [show (fun b : List Int => PyData.list (((fun x => x) b : List Int).map .int)) = fun ns : List Int => PyData.list (ns.map .int) from rfl] at eb
  have eb2 : (PySem.W.sortVals _ false (as.map Value.ref) (as.map Value.ref)) = bs.map Value.ref := eb
  rw [eb2]
  obtain ⟨ep, he'⟩ := PyProof.Rows.sortedAll_at s.heap (as.map Value.ref) (List.toArray (bs.map Value.ref))
  have hbl : bs.length = rows.length := by rw [Paired.length hb]; exact srt_len rows
  refine ⟨.ref _, upd H (s.heap.objs.size + 1) (.lst (bs.map V.ref)), I.laid (t' := s.toks) (fun _ _ => PyProof.Rows.sortedAll_old) (Nat.le_succ _) ⟨by rw [List.length_map]; omega, bs.map Value.ref, ep, vals_refs bs, he'⟩, rfl, q bs hp hb _ (I.hok.fresh (Nat.le_succ _))⟩
/-! sorted(d), the keys tuples of ints -/
def rSortDT : List V → Hp → VK → Prop := fun vs H Q => ∃ d, vs = [V.ref d] ∧ ∃ kvs rows, Rd H d (.dT kvs) ∧ kvs.map (·.1) = rows.map (fun ns : List Int => ns.map Sum.inl) ∧ (∀ ns ∈ rows, ns ≠ []) ∧ ∀ bs, RowsT H bs (srt rows) → NewK (.lst (bs.map V.ref)) H fun p H1 => Q (.ref p) H1
theorem keys_rowsT {kvs : List (List Key × V)} {ks : List (List Key × Addr × Value)} (h : Paired (fun (p : List Key × V) (q : List Key × Addr × Value) => p.1 = q.1 ∧ H q.2.1 = some (.tup (p.1.map kV)) ∧ RelV p.2 q.2.2) kvs ks) : ∀ {rows : List (List Int)}, kvs.map (·.1) = rows.map (fun ns : List Int => ns.map Sum.inl) → RowsT H (ks.map fun x => x.2.1) rows := by
  induction h with
  | nil =>
    intro rows e
    cases rows with
    | nil => exact .nil
    | cons _ _ => cases e
  | @cons p q ps qs hq _ ih =>
    intro rows e
    cases rows with
    | nil => cases e
    | cons ns rr =>
      rw [List.map_cons, List.map_cons] at e
      injection e with e1 e2
      refine .cons ?_ (ih e2)
      have := hq.2.1
      rw [e1, List.map_map] at this
      exact this
theorem cr_sortDT (hc : X.calm = true) (hu : X.A.units + 6 < cLine) : CallR X (.builtin "sorted") rSortDT := by
  intro pins s σ H vs us Q I r h
  obtain ⟨d, rfl, kvs, rows, hd, hks, hne, q⟩ := h
  rw [Vals.ref1 r]
  obtain ⟨z, hs, ks, pr, o, es, ep, ho, hx, hdt, he, hn⟩ := (show ObjOk X.prog X.w H s.heap d (.dT kvs) from hd.ok I.hok)
  have l1 : es.size = ks.length := size_of_entries he
  have l2 : kvs.length = ks.length := Paired.length pr
  have hr : RowsT H (ks.map fun x => x.2.1) rows := keys_rowsT pr hks
  have l3 : rows.length = ks.length := by rw [← Paired.length hr, List.length_map]
  refine Calls.call_function_entry PyProof.Rows.kind_sorted PyProof.Rows.plain_sorted PyProof.Rows.entry_sorted (PyProof.Rows.args_sorted1 _) ?_
  unfold Builtin.«sorted»
  refine wpAny_bind (m := checkCount "sorted" 1 1 _) (wpAny_pure ?_)
  refine wpAny_bind (PySem.W.kdu_collect (A := X.A.in1) (kdl_raw hs hx hdt) (I.ok.hd hc) ho (by omega) fun h' tk acc hk hacc => ?_)
  have ea : acc.toList = (ks.map fun x => x.2.1).map Value.ref := by
    have hl : acc.toList.length = ks.length := by rw [Array.length_toList, hacc.1]; exact l1
    apply List.ext_getElem?
    intro j
    rw [List.map_map, List.getElem?_map]
    cases hj : acc.toList[j]? with
    | none =>
      have h1 := List.getElem?_eq_none_iff.mp hj
      rw [List.getElem?_eq_none (by omega)]
      rfl
    | some v =>
      obtain ⟨en, hen, hv⟩ := hacc.2 j v (by rw [← Array.getElem?_toList]; exact hj)
      have hjl : j < ks.length := by have := (List.getElem?_eq_some_iff.mp hj).1; omega
      rw [List.getElem?_eq_getElem hjl]
      rw [← Array.getElem?_toList, he, List.getElem?_map, List.getElem?_eq_getElem hjl] at hen
      cases hen
      rw [hv]
      rfl
  rw [ea]
  generalize ks.map (fun x => x.2.1) = as at hr
  have hal : as.length = rows.length := Paired.length hr
  have I1 : L2.Inv X pins σ H { s with heap := h', toks := tk } := I.kept hk
  have hLs : (as.map Value.ref).length ≤ sizeLine := by rw [List.length_map]; omega
  refine wpAny_bind (wpAny_newList ?_ hLs)
  have hoL : (h'.push (seqObj "list" (as.map Value.ref).toArray 0)).get? h'.objs.size = some (seqObj "list" (as.map Value.ref).toArray 0) := Heap.get?_push_size _ rfl
  show wpAny _ _ _ _ _ { s with heap := h'.push (seqObj "list" (as.map Value.ref).toArray 0), toks := tk }
  have E0 := refs_each hr
  have old : ∀ b o, h'.get? b = some o → (sortingHeap (h'.push (seqObj "list" (as.map Value.ref).toArray 0)) h'.objs.size (as.map Value.ref)).get? b = some o := fun b o e =>
    sortingHeap_old (Nat.ne_of_lt (Heap.lt_size e)) (Heap.get?_push_of_some _ e)
  have ER : PySem.W.EachIs (fun v b => ∃ as', Reads (sortingHeap (h'.push (seqObj "list" (as.map Value.ref).toArray 0)) h'.objs.size (as.map Value.ref)) v (PyData.tuple (b.map .int)) as') (as.map Value.ref) rows :=
    E0.mono fun v ns ⟨t, e, h⟩ => ⟨[], by rw [e]; exact PyProof.Rows.Reads.keeps old (tup_reads (I1.hok t _ h))⟩
  have hal2 : PySem.W.AllAlike (rows.map fun ns : List Int => PyData.tuple (ns.map .int)) := PySem.W.AllAlike.of alike_rowsT
  have hsrt : PySem.W.Sortable (rows.map fun ns : List Int => PyData.tuple (ns.map .int)) := .inl fun dd hdd => by
    obtain ⟨ns, hns, rfl⟩ := List.mem_map.mp hdd
    cases ns with
    | nil => exact absurd rfl (hne _ hns)
    | cons x r => exact ⟨.int x, r.map .int, rfl⟩
  have hdep : ∀ b, b ∈ rows → X.A.units + 2 + (PyData.tuple (b.map .int)).depth < cLine := fun b _ => by
    show X.A.units + 2 + (PyData.depthAll (b.map .int) + 1) < cLine; rw [PySem.W.depth_ints]; omega
  refine wpAny_bind (wpAny_holding (wpAny_call_entry PyProof.Rows.slot_list_sort ⟨_, hoL, rfl⟩ PyProof.Rows.entry_list_sort ?_ (PyProof.Rows.args_list_sort _)))
  refine PySem.W.list_sort_vals (s := { s with heap := h'.push (seqObj "list" (as.map Value.ref).toArray 0), toks := tk }) hoL
    (PySem.W.SortsAt.data (s := { s with heap := sortingHeap (h'.push (seqObj "list" (as.map Value.ref).toArray 0)) h'.objs.size (as.map Value.ref), toks := tk }) (PySem.W.each_map (R := fun v d => ∃ as', Reads (sortingHeap (h'.push (seqObj "list" (as.map Value.ref).toArray 0)) h'.objs.size (as.map Value.ref)) v d as') (fun ns : List Int => PyData.tuple (ns.map .int)) ER) hal2 hsrt (PySem.W.bound_map hdep)) hLs ?_
  have E1 := PySem.W.sortVals_data (enc := fun ns : List Int => PyData.tuple (ns.map .int)) false E0 ER hal2
  rw [dataLe_rowsT] at E1
  obtain ⟨bs, eb, hb⟩ := each_refs E1
  rw [eb]
  have hbl : bs.length = rows.length := by rw [Paired.length hb]; exact srt_len rows
  obtain ⟨e', he'⟩ := PyProof.Rows.sortedHeap_at (vs := as.map Value.ref) (out := (bs.map Value.ref).toArray) hoL
  refine ⟨_, rfl, ?_⟩
  refine wpAny_pure ⟨_, rfl, .ref h'.objs.size, upd H h'.objs.size (.lst (bs.map V.ref)), I1.laid (t' := tk) (fun b u e => ?_) (Nat.le_refl _)
    (show ObjOk X.prog X.w _ _ _ (.lst _) from ⟨by rw [List.length_map]; omega, bs.map Value.ref, e', vals_refs bs, he'⟩), rfl, q bs hb _ (I1.hok.fresh (Nat.le_refl _))⟩
  have hb : b < h'.objs.size := Heap.lt_size e
  rw [PyProof.Rows.sortedHeap_old (Nat.ne_of_lt hb) (by rw [size_push']; exact Nat.lt_succ_of_lt hb)]
  exact Heap.get?_push_of_some _ e
end
/-! ### (x,) * b, b 0 or 1 -/
theorem tuple_mul1 (l : Addr) (items : Array Value) (n : Nat) (dd : Option Addr) (sl : Array (Option Value)) (u : Tok) :
    Meets (Builtin.«tuple.__mul__» ⟨[.ref l, .int 1 u], []⟩) (fun _ R s => s.heap.get? l = some { cls := .type "tuple", dict := dd, data := .seq items n, slots := sl } ∧ R (.ok (.ret (Value.ref l))) s) :=
  .of_wp fun prog w A R s h => by
    obtain ⟨hp, g, d, tk, os⟩ := s
    obtain ⟨hl, h⟩ := h
    have f1 := AutoSeq1.idx_int
    have c1 : (items.isEmpty || (1 : Int) == 1) = true := by simp
    wp_walk using wpAny_loadPart' hl
    repeat (first
      | (refine wpAny_ite_false (decide_eq_false (by decide)) ?_; wp_walk using wpAny_loadPart' hl)
      | (refine wpAny_ite_true (decide_eq_true c1) ?_; wp_walk using wpAny_loadPart' hl))
    exact ⟨_, rfl, h⟩
theorem tuple_mul0 (l : Addr) (items : Array Value) (n : Nat) (dd : Option Addr) (sl : Array (Option Value)) (u : Tok) (he : items.isEmpty = false) :
    Meets (Builtin.«tuple.__mul__» ⟨[.ref l, .int 0 u], []⟩) (fun _ R s => s.heap.get? l = some { cls := .type "tuple", dict := dd, data := .seq items n, slots := sl } ∧
      R (.ok (.ret (Value.ref s.heap.objs.size))) { s with heap := s.heap.push { cls := Value.type "tuple", data := Data.seq #[] }, toks := s.toks }) :=
  .of_wp fun prog w A R s h => by
    obtain ⟨hp, g, d, tk, os⟩ := s
    obtain ⟨hl, h⟩ := h
    have f1 := AutoSeq1.idx_int
    have c1 : (items.isEmpty || (0 : Int) == 1) = false := by rw [he]; rfl
    have c2 : (decide ((0 : Int) ≤ 0) || items.isEmpty) = true := rfl
    wp_walk using wpAny_loadPart' hl
    repeat (first
      | (refine wpAny_ite_false (decide_eq_false (by decide)) ?_; wp_walk using wpAny_loadPart' hl)
      | (refine wpAny_ite_false (decide_eq_false (by rw [c1]; exact Bool.false_ne_true)) ?_; wp_walk using wpAny_loadPart' hl)
      | (refine wpAny_ite_true (decide_eq_true c2) ?_; wp_walk using wpAny_loadPart' hl))
    exact ⟨_, rfl, h⟩
def rRepB (K : PySem.W.Frag) : R2 := fun x y H Q => ∃ l, x = .ref l ∧ ∃ k, y = .int k ∧ ∃ xs, SqT K H l xs ∧ xs ≠ [] ∧ ((k = 1 ∧ Q (.ref l) H) ∨ (k = 0 ∧ NewK (.tup []) H fun p H1 => Q (.ref p) H1))
theorem op_repB {X : Cx} : OpR X (binaryOp .Mult) (rRepB X.K) := by
  intro pins s σ H x y v u Q I rx ry h
  obtain ⟨l, rfl, k, rfl, xs, hT, hne, q⟩ := h
  cases rx
  obtain ⟨t, rfl⟩ := ry
  obtain ⟨its, r, ⟨⟨cls, dd, data, sl⟩, ho, hc, n, hd⟩, hs⟩ := I.tuple hT
  simp only at hc hd
  subst hc hd
  have hle : its.length = xs.length := r.length.symm
  have hn : its ≠ [] := fun e => hne (by
    rw [e] at hle
    exact List.eq_nil_of_length_eq_zero hle.symm)
  have hi : its.toArray.isEmpty = false := by
    cases its with
    | nil => exact absurd rfl hn
    | cons a b => rfl
  rcases q with ⟨rfl, q⟩ | ⟨rfl, q⟩
  · refine wpAny_binaryOp_repeat_ref (T := "tuple") (U := "int") (by decide) ⟨_, ho, rfl⟩ (fun s' => typeIs_int s' 1 t) noFill_tuple_mul F.fills_int_mul F.slot_int_rmul repeat_tuple F.slot_int_index.lookup
      (call_meets F.slot_int_rmul (typeIs_int s 1 t) F.entry_int_rmul (F.args_int_rmul_2 _ _) (int_rmul_tuple 1 t l its.toArray n dd sl)
        ⟨ho, rfl, ⟨_, ho, rfl⟩, call_meets F.slot_tuple_mul ⟨_, ho, rfl⟩ F.entry_tuple_mul (F.args_tuple_mul_2 _ _) (tuple_mul1 l its.toArray n dd sl t) ⟨ho, ?_⟩⟩)
    exact ⟨.ref l, H, I, rfl, q⟩
  · refine wpAny_binaryOp_repeat_ref (T := "tuple") (U := "int") (by decide) ⟨_, ho, rfl⟩ (fun s' => typeIs_int s' 0 t) noFill_tuple_mul F.fills_int_mul F.slot_int_rmul repeat_tuple F.slot_int_index.lookup
      (call_meets F.slot_int_rmul (typeIs_int s 0 t) F.entry_int_rmul (F.args_int_rmul_2 _ _) (int_rmul_tuple 0 t l its.toArray n dd sl)
        ⟨ho, rfl, ⟨_, ho, rfl⟩, call_meets F.slot_tuple_mul ⟨_, ho, rfl⟩ F.entry_tuple_mul (F.args_tuple_mul_2 _ _) (tuple_mul0 l its.toArray n dd sl t hi) ⟨ho, ?_⟩⟩)
    refine ⟨.ref s.heap.objs.size, _, I.laid (t' := s.toks) (o := .tup []) (fun b ob q => Heap.get?_push_of_some _ q) (Nat.le_refl _) ?_, rfl, q _ (I.hok.fresh (Nat.le_refl _))⟩
    exact ⟨Nat.zero_le _, [], .nil, IsTup.new _ _⟩
/-! ### the ledger -/
section
variable {P : Program} {w : World} {K : PySem.W.Frag} {B H : Hp} {l l' : List (Addr × HO)} {a p q d : Addr} {xs : List (NK × Addr)} {k : NK} {σ : L2.St} {Q : VK} {D : Ends} {td ty tv tk : TE} {R : It → Hp → Prop}
def NPutK (P : Program) (w : World) (H : Hp) (a q : Addr) (G : Hp → Prop) : Prop := ∃ xs k, NAt P w H a xs ∧ PK H q k ∧ xs.length < sizeLine ∧ G (upd H a (nD P w a (putN xs k q)))
theorem s_nput : sNPut P w td ty tv D σ H = tv σ H fun v H1 => td σ H1 fun x H2 => ty σ H2 fun y H3 => ∃ a, x = .ref a ∧ v = .bl true ∧ ∃ q, y = .ref q ∧ NPutK P w H3 a q fun H4 => D.nx σ H4 :=
  congrArg (tv σ H) (funext fun v => funext fun H1 => congrArg (td σ H1) (funext fun x => funext fun H2 => congrArg (ty σ H2) (funext fun y => funext fun H3 => propext
    ⟨fun ⟨a, q, e1, e2, e3, r⟩ => ⟨a, e1, e2, q, e3, r⟩, fun ⟨a, e1, e2, q, e3, r⟩ => ⟨a, q, e1, e2, e3, r⟩⟩)))
theorem NPutK.of {G : Hp → Prop} (L : Led B H l) (m : (a, nD P w a xs) ∈ l) (hk : ∀ x ∈ xs, PK B x.2 x.1) (hq : PK B q k) (hl : xs.length < sizeLine) (t : Put l a (nD P w a (putN xs k q)) l') (g : ∀ H1, Led B H1 l' → G H1) : NPutK P w H a q G :=
  ⟨xs, k, ⟨L.at m, fun x hx => (hk x hx).mono L.sm⟩, hq.mono L.sm, hl, g _ (L.put t)⟩
def N1K (P : Program) (w : World) (p q : Addr) (H : Hp) (G : Hp → Prop) : Prop := ∃ k, H p = some (.dT []) ∧ PK H q k ∧ G (upd H p (nD P w p [(k, q)]))
theorem e_n1 : tN1 P w tk tv σ H Q = NewK (.dT []) H fun p H1 => tk σ H1 fun y H2 => tv σ H2 fun v H3 => ∃ q, y = .ref q ∧ v = .bl true ∧ N1K P w p q H3 fun H4 => Q (.ref p) H4 := propext ⟨fun h => h, fun h => h⟩
theorem N1K.of {G : Hp → Prop} (L : Led B H l) (m : (p, HO.dT []) ∈ l) (hq : PK B q k) (t : Put l p (nD P w p [(k, q)]) l') (g : ∀ H1, Led B H1 l' → G H1) : N1K P w p q H G := ⟨k, L.at m, hq.mono L.sm, g _ (L.put t)⟩
def WlkN (P : Program) (w : World) (d : Addr) (H : Hp) (G : List (NK × Addr) → Obj → Hp → Prop) : Prop := ∃ xs, H d = some (nD P w d xs) ∧ ∀ o, G xs o (upd H d (.frz o (nD P w d xs)))
theorem i_nkeys : iNKeys P w td σ H R = td σ H fun x H1 => ∃ d, x = .ref d ∧ WlkN P w d H1 fun xs o H2 => R (Itn P w d o xs) H2 := propext ⟨fun h => h, fun h => h⟩
theorem WlkN.of {G : List (NK × Addr) → Obj → Hp → Prop} {l'' : Obj → List (Addr × HO)} (L : Led B H l) (m : (d, nD P w d xs) ∈ l) (t : ∀ o, Put l d (.frz o (nD P w d xs)) (l'' o)) (g : ∀ o H1, Led B H1 (l'' o) → G xs o H1) : WlkN P w d H G :=
  ⟨xs, L.at m, fun o => g o _ (L.put (t o))⟩
def LstNK (P : Program) (w : World) (d : Addr) (H : Hp) (G : Addr → Hp → Prop) : Prop := ∃ xs, H d = some (nD P w d xs) ∧ NewK (.lst (xs.map fun x => V.ref x.2)) H G
theorem x_lstN : rLstN P w [.ref d] H Q ↔ LstNK P w d H fun p H1 => Q (.ref p) H1 := ⟨fun ⟨_, e, r⟩ => by cases e; exact r, fun r => ⟨d, rfl, r⟩⟩
def SrtRK (K : PySem.W.Frag) (a : Addr) (H : Hp) (G : Addr → Hp → Prop) : Prop := ∃ as rows, SqL K H a (as.map V.ref) ∧ RowsL H as rows ∧ ∀ bs, bs.Perm as → RowsL H bs (srt rows) → NewK (.lst (bs.map V.ref)) H G
theorem x_sortR : rSortR K [.ref a] H Q ↔ SrtRK K a H fun p H1 => Q (.ref p) H1 := ⟨fun ⟨_, e, r⟩ => by cases e; exact r, fun r => ⟨a, rfl, r⟩⟩
def SrtDK (d : Addr) (H : Hp) (G : Addr → Hp → Prop) : Prop := ∃ kvs rows, Rd H d (.dT kvs) ∧ kvs.map (·.1) = rows.map (fun ns : List Int => ns.map Sum.inl) ∧ (∀ ns ∈ rows, ns ≠ []) ∧ ∀ bs, RowsT H bs (srt rows) → NewK (.lst (bs.map V.ref)) H G
theorem x_sortDT : rSortDT [.ref d] H Q ↔ SrtDK d H fun p H1 => Q (.ref p) H1 := ⟨fun ⟨_, e, r⟩ => by cases e; exact r, fun r => ⟨d, rfl, r⟩⟩
def RepBK (K : PySem.W.Frag) (a : Addr) (k : Int) (H : Hp) (G : Addr → Hp → Prop) : Prop := ∃ xs, SqT K H a xs ∧ xs ≠ [] ∧ ((k = 1 ∧ G a H) ∨ (k = 0 ∧ NewK (.tup []) H G))
theorem x_repB {k : Int} : rRepB K (.ref a) (.int k) H Q ↔ RepBK K a k H fun p H1 => Q (.ref p) H1 := ⟨fun ⟨_, e, _, e2, r⟩ => by cases e; cases e2; exact r, fun r => ⟨a, rfl, k, rfl, r⟩⟩
theorem RowsL.mono {B B' : Hp} (s : Same B B') {as : List Addr} {rows : List (List Int)} (h : RowsL B as rows) : RowsL B' as rows := Paired.mapP h fun _ _ z => s _ _ z
theorem RowsT.mono {B B' : Hp} (s : Same B B') {as : List Addr} {rows : List (List Int)} (h : RowsT B as rows) : RowsT B' as rows := Paired.mapP h fun _ _ z => s _ _ z
end
/-! ### d != {} -/
theorem rc_emptyN {prog : Program} {w : World} {A : Around} {E : Value → Shared → Prop} {s : Shared} {a b : Addr} {es : Array DictEntry} {ep ep' : Nat} {Q : Value → Shared → Prop} (ha : (a == sysModules) = false) (hb : (b == sysModules) = false)
    (da : DT.Raw s.heap a es ep) (db : DT.Raw s.heap b #[] ep') (hu : A.units < cLine) (h : Q (.bool (!(es.size == 0))) s) : wpAny (model prog w) A (richCompare .NotEq (.ref a) (.ref b)) Q E s := by
  refine wpAny_richCompare_same_room (op := .NotEq) da.typeIs db.typeIs PySem.F.slot_dict_ne (wpAny_call_entry PySem.F.slot_dict_ne da.typeIs PySem.F.entry_dict_ne ?_ (PySem.F.args_dict_ne_2 _ _)) hu
  show wpAny _ _ (Builtin.Dict.dictSlotArgs "__ne__" ⟨[.ref a, .ref b], []⟩ >>= _) _ _ s
  refine wpAny_bind ?_
  unfold Builtin.Dict.dictSlotArgs
  refine wpAny_bind (wpAny_notOrdered_dict da.typeIs ?_)
  show wpAny _ _ (pure (Value.ref a, Value.ref b)) _ _ s
  refine wpAny_pure ?_
  refine wpAny_bind (wpAny_isInstance (T := "dict") db.typeIs PySem.F.sub_dict_dict ?_)
  simp only [Bool.not_true, Bool.false_eq_true, if_false]
  refine wpAny_bind (wpAny_pure (wpAny_bind (wpAny_pure ?_)))
  refine wpAny_bind (samePairs0 ha hb da db ?_)
  refine wpAny_pure ⟨_, rfl, ?_, ?_⟩
  · exact fun x => nomatch x
  · cases hz : (es.size == 0) <;> rw [hz] at h <;> exact h
def rNeE : R2 := fun x y H Q => ∃ a b n, x = .ref a ∧ y = .ref b ∧ DLen H a n ∧ DLen H b 0 ∧ Q (.bl (!(n == 0))) H
theorem op_neE {X : Cx} (hu : X.A.units + 64 < cLine) : OpR X (compareOp .NotEq) rNeE := by
  intro pins s σ H x y v u Q I rx ry h
  obtain ⟨a, b, n, rfl, rfl, da, db, q⟩ := h
  cases (show v = Value.ref a from rx)
  cases (show u = Value.ref b from ry)
  obtain ⟨h1, es, ep, r1, e1⟩ := da.raw I
  obtain ⟨h2, es2, ep2, r2, e2⟩ := db.raw I
  cases Array.size_eq_zero_iff.mp e2
  show wpAny (model X.prog X.w) X.A (richCompare .NotEq (.ref a) (.ref b)) _ _ _
  refine rc_emptyN h1 h2 r1 r2 (by omega) ⟨.bl (!(n == 0)), H, I, by rw [e1]; rfl, q⟩
theorem x_neE {a b : Addr} {H : Hp} {Q : VK} : rNeE (.ref a) (.ref b) H Q ↔ EqEK a b H fun c => Q (.bl (!c)) H := ⟨fun ⟨_, _, n, e1, e2, d1, d2, q⟩ => by cases e1; cases e2; exact ⟨n, d1, d2, q⟩, fun ⟨n, d1, d2, q⟩ => ⟨a, b, n, rfl, rfl, d1, d2, q⟩⟩
end Vg


set_option Elab.async false
set_option linter.all false
set_option maxRecDepth 100000
set_option maxHeartbeats 2000000
namespace Vg
open PySem PySem.Spec PyProof.Rows L2
/-! ### d.setdefault(t, x), the keys tuples -/
section
variable {X : Cx} {pins : List (Addr × Obj)} {σ : L2.St} {H : Hp} {s : Shared} {a b : Addr} {r : Value} {dv : V} {k : List Key} {A : Around} {E : Value → Shared → Prop}
theorem d_setdT {kvs : List (List Key × V)} {Q : Value → Shared → Prop} (hu : A.units + 2 < cLine) (I : L2.Inv X pins σ H s) (e : H a = some (.dT kvs)) (eb : H b = some (.tup (k.map kV))) (rd : RelV dv r) (hl : kvs.length < sizeLine)
    (h1 : ∀ v, valV kvs k = some v → ∀ (w' : Value) (s' : Shared), L2.Inv X pins σ H s' → RelV v w' → Q w' s') (h2 : valV kvs k = none → ∀ (w' : Value) (s' : Shared), L2.Inv X pins σ (upd H a (.dT (putK kvs k dv))) s' → RelV dv w' → Q w' s') :
    wpAny (model X.prog X.w) A (call (.builtin "dict.setdefault") [.ref a, .ref b, r]) Q E s := by
  obtain ⟨z, hd, xs, rel, dd⟩ := dt_of I.hok e
  have hz : xs.length ≤ sizeLine := by rw [← Paired.length rel]; exact z
  have rv := KT.val rel k
  refine call_setdefault_heap (hsz := hz) (knd := tupleKind (mixKind X.prog X.w)) (tupleKind_room_in1 (by omega)) (key_of I.hok eb) hd dd (fun p hp => ?_) fun hn h' dd' hs => ?_
  · rw [hp] at rv
    cases q0 : valV kvs k with
    | none => rw [q0] at rv; exact (show False from rv).elim
    | some v0 => rw [q0] at rv; exact h1 v0 q0 _ _ (I.tok _) rv
  · rw [hn] at rv
    cases q0 : valV kvs k with
    | some v0 => rw [q0] at rv; exact (show False from rv).elim
    | none =>
      have hl2 : (putK kvs k dv).length ≤ sizeLine := by have := length_putK kvs k dv; omega
      obtain ⟨q, es, ep, hq, g2, g3, g4, _, g5⟩ := dd'
      refine h2 q0 _ _ (d_write I (by rw [e]; exact True.intro) hs ⟨q, hq⟩ ⟨hl2, hd, _, (rel.put k eb rd).keeps fun c ys ec => ?_, q, es, ep, hq, g2, g3, g4, g5⟩) rd
      rw [upd_ne (ne_of ec e (fun z => nomatch z))]
      exact ec
end
def SetdK (H : Hp) (a b : Addr) (z : V) (Q : V → Hp → Prop) : Prop := ∃ kvs k, H a = some (.dT kvs) ∧ H b = some (.tup (k.map kV)) ∧ kvs.length < sizeLine ∧ (∀ v, valV kvs k = some v → Q v H) ∧ (valV kvs k = none → Q z (upd H a (.dT (putK kvs k z))))
def tSetdT (td ty tx : TE) : TE := fun σ H Q => td σ H fun x H1 => ∃ a, x = .ref a ∧ IsD H1 a ∧ ty σ H1 fun y H2 => tx σ H2 fun z H3 => ∃ b, y = .ref b ∧ SetdK H3 a b z Q
theorem pe_setdT {X : Cx} {o e f : Expr} {td ty tx : TE} {apos cpos : Pos} (hu : X.A.units + 2 < cLine) (ho : PE X o td) (he : PE X e ty) (hf : PE X f tx) (m : M2 X o "setdefault" apos e f cpos) : PE X (.Call (.Attribute o "setdefault" apos) [e, f] [] cpos) (tSetdT td ty tx) := by
  refine ⟨fun pins s σ H Q I h => ?_⟩
  refine wpAny_Call_method m.base m.few m.line PySem.F.plainAttrs_dict PySem.F.slot_dict_setdefault PySem.F.type_dict_setdefault (thn (ho.run pins s σ H _ I h) fun u s1 ⟨x, H1, I1, rx, a, ex, d, q1⟩ => ?_)
  subst ex
  obtain rfl : u = Value.ref a := rx
  obtain ⟨t1, t2, _⟩ := isD_at I1 d
  refine ⟨t1, t2, ?_⟩
  rw [m.trees]
  refine Calls.callWith_builtin rfl (Calls.evalArgs_plain (Calls.spliced_cons (thn (he.run pins s1 σ H1 _ I1 q1) fun iv s2 ⟨y, H2, I2, ry, q2⟩ =>
    Calls.spliced_cons (thn (hf.run pins s2 σ H2 _ I2 q2) fun fv s3 ⟨z, H3, I3, rz, b, ey, kvs, k, ea, eb, hl, q3, q4⟩ => Calls.spliced_nil ?_))))
  subst ey
  cases (show iv = Value.ref b from ry)
  exact d_setdT hu I3 ea eb rz hl (fun v hv w' s4 I4 rw' => ⟨v, _, I4, rw', q3 v hv⟩) fun hn w' s4 I4 rw' => ⟨z, _, I4, rw', q4 hn⟩
/-! ### for v in d.values(), the keys tuples: the dict stays locked behind -/
def Itvt (d : Addr) (o : Obj) (kvs : List (List Key × V)) : It :=
  ⟨fun i H => H d = some (.frz o (.dT kvs)) ∧ i < kvs.length, fun i H x H' => H' = H ∧ ∃ k, kvs[i]? = some (k, x), fun i H => H d = some (.frz o (.dT kvs)) ∧ kvs.length ≤ i⟩
theorem turn_valsT {P : Program} {w : World} {K : PySem.W.Frag} {tg : Expr} {d : Addr} {o : Obj} {es : Array DictEntry} {ep : Nat} {kvs : List (List Key × V)} (it : Addr) (hod : o.data = .dict es ep) : Turn P w K tg (Itvt d o kvs) [it] it (fun i h => h.IsValIter it d i kvs.length ep) where
  mem := by simp
  obj := fun i h st b hb => by
    have e : b = it := by simpa using hb
    subst e
    obtain ⟨oi, e, c, dd⟩ := st
    exact ⟨oi, e, fun v z => by rw [dd] at z; cases z⟩
  keep := fun i h h' st k => st.at fun oi e => k it (by simp) oi e
  item := by
    intro X hP hw hK hc i pins s σ H E I hf st hg
    subst hP hw hK
    obtain ⟨hd, hi⟩ := hg
    obtain ⟨f0, f1, f2, f3, f4, f5⟩ := hf it (by simp)
    obtain ⟨hs, hgd, hx, es', ep', hdt, hsz, ent⟩ := Inv.frzTv I hd
    obtain ⟨rfl, rfl⟩ := dict_ep hod hdt
    obtain ⟨⟨k, v⟩, hkv⟩ : ∃ p, kvs[i]? = some p := ⟨kvs[i], List.getElem?_eq_getElem hi⟩
    obtain ⟨en, q, hen, hkey, hval, hq⟩ := ent i k v hkv
    have hi2 : i < es'.size := by omega
    have een : es'[i] = en := by rw [Array.getElem?_eq_getElem hi2] at hen; exact Option.some.inj hen
    rw [← hsz] at st
    refine wpAny_pyNext_values_item_raw st ⟨_, hgd, hx, hdt⟩ hi2 fun h' st' sb => ?_
    have I1 : L2.Inv X pins σ H { s with heap := h' } := I.turned (t' := s.toks) (fun b ob hb e => (sb.2 b hb).trans e) f0 f1 f3 f4 f5
    obtain ⟨oi, e, c, dd⟩ := id st'
    rw [een]
    refine ⟨en.val, rfl, go_of (s := { s with heap := h' }) e c dd (by decide) ⟨v, H, I1, hval, ⟨rfl, k, hkv⟩, ?_, fun b hb => (hf b hb).1⟩⟩
    show h'.IsValIter it d (i + 1) kvs.length _
    rw [← hsz]
    exact st'
  done := by
    intro X hP hw hK hc i pins s σ H E I hf st hg
    subst hP hw hK
    obtain ⟨hd, hi⟩ := hg
    obtain ⟨f0, f1, f2, f3, f4, f5⟩ := hf it (by simp)
    obtain ⟨hs, hgd, hx, es', ep', hdt, hsz, ent⟩ := Inv.frzTv I hd
    obtain ⟨rfl, rfl⟩ := dict_ep hod hdt
    rw [← hsz] at st
    exact wpAny_pyNext_values_end_raw (I.ok.hd hc) st ⟨_, hgd, hx, hdt⟩ (by omega) fun h' eb => ⟨rfl, I.turned (t' := s.toks) (fun b ob hb e => eb b ob hb e) f0 f1 f3 f4 f5⟩
  self := fun A i s Q E st h => wpAny_pyIter_valiter st h
def iValsN (td : TE) : TI := fun σ H R => td σ H fun x H1 => ∃ d, x = .ref d ∧ WlkK d H1 fun kvs o H2 => R (Itvt d o kvs) H2
theorem pi_valsN {X : Cx} {tg e : Expr} {td : TE} {apos cpos : Pos} (he : PE X e td) (hbase : attributeBase e "values" X.env (eval e X.env) = eval e X.env := by rfl) (hline : (apos.endLine == cpos.line) = true := by rfl) : PI X tg (.Call (.Attribute e "values" apos) [] [] cpos) (iValsN td) := by
  refine ⟨fun pins s σ H R I h => ?_⟩
  refine wpAny_Call_method (T := "dict") (id := "dict.values") hbase rfl hline F.plainAttrs_dict F.slot_dict_values F.type_dict_values (thn (he.run pins s σ H _ I h) fun u s1 ⟨x, H1, I1, rx, d, ex, kvs, hd, q⟩ => ?_)
  subst ex
  obtain rfl : u = Value.ref d := rx
  obtain ⟨od, I2⟩ := I1.lock hd True.intro
  have q := q od
  have hfd : (upd H1 d (.frz od (.dT kvs))) d = some (.frz od (.dT kvs)) := upd_same
  obtain ⟨hs, hgd, hx, es, ep, hdt, hsz, ent⟩ := Inv.frzTv I2 hfd
  have hm : s1.heap.DictRaw d es ep := ⟨_, hgd, hx, hdt⟩
  refine ⟨hm.typeIs, fun a e => by cases e; exact ⟨_, hgd, hx.2.1⟩, ?_⟩
  have I3 : L2.Inv X pins σ (upd H1 d (.frz od (.dT kvs))) { s1 with heap := s1.heap.push { cls := .type "dict_values", data := .fields #[.ref d] } } := I2.kept (t' := s1.toks) fun b ob q => Heap.get?_push_of_some _ q
  have fin : wpAny (model X.prog X.w) X.A (pyIter (.ref s1.heap.objs.size)) (PIE X pins σ tg R) X.xe { s1 with heap := s1.heap.push { cls := .type "dict_values", data := .fields #[.ref d] } } := by
    refine wpAny_pyIter_values_raw (d := d) ⟨_, Heap.get?_push_size _ rfl, rfl, rfl⟩ (hm.at fun o e => Heap.get?_push_of_some _ e) (pi_one (tk := s1.toks) I3 _ (turn_valsT _ hdt) ⟨_, Heap.get?_push_size _ rfl, rfl, ?_⟩ q)
    rw [hsz] <;> rfl
  show wpAny _ _ (callWith cpos (.builtin "dict.values") [.ref d] [] []) _ X.xe s1
  exact method_meetsIn F.slot_dict_values F.entry_dict_values rfl (PySem.evalArgs_none ⟨rfl, hm.typeIs, F.args_dict_values_1 _, _, meets_dict_values_raw d hs, ⟨⟨es, ep, hm⟩, fin⟩⟩)
/-! ### a comprehension of two clauses without tests -/
def Lc2In (D : Addr) (J1 : It) (g1 : TG) (te : TE) (vs1 : List Nat) (σ2 : L2.St) (N : Hp → Prop) (H4 : Hp) : Prop := ∃ W1 : Nat → Nat → Hp → Prop, (∃ m, W1 0 m H4) ∧ ∀ j k H, W1 j k H →
      (J1.stop j H ∧ N H) ∨ (J1.go j H ∧ ∃ Nx1 : Hp → Prop, (∀ H', Nx1 H' → ∃ k', k' < k ∧ W1 (j + 1) k' H') ∧ ∀ x H', J1.yld j H x H' → g1 x (wipe σ2 vs1) H' fun σ3 H5 => wipe σ3 vs1 = wipe σ2 vs1 ∧ te σ3 H5 fun y H7 => ∃ acc, H7 D = some (.lst acc) ∧ acc.length < sizeLine ∧ Nx1 (upd H7 D (.lst (acc ++ [y]))))
def Lc2K (J : It) (g : TG) (wi1 : TI) (g1 : TG) (te : TE) (vs vs1 : List Nat) (σ : L2.St) (H1 : Hp) (Q : VK) : Prop := ∀ D, H1 D = none → ∃ W : Nat → Nat → Hp → Prop, (∃ m, W 0 m (upd H1 D (.lst []))) ∧ ∀ i m H, W i m H →
  (J.stop i H ∧ Q (.ref D) H) ∨ (J.go i H ∧ ∃ Nx : Hp → Prop, (∀ H', Nx H' → ∃ m', m' < m ∧ W (i + 1) m' H') ∧ ∀ x H', J.yld i H x H' → g x (wipe σ vs) H' fun σ2 H2 => wipe σ2 vs = wipe σ vs ∧ wi1 σ2 H2 fun J1 H4 => Lc2In D J1 g1 te vs1 σ2 Nx H4)
theorem e_lc2 {wi wi1 : TI} {g g1 : TG} {te : TE} {vs vs1 : List Nat} {σ : L2.St} {H : Hp} {Q : VK} : tLc2 wi g tYes wi1 g1 tYes te vs vs1 σ H Q = wi σ H fun J H1 => Lc2K J g wi1 g1 te vs vs1 σ H1 Q := by
  unfold tLc2 Lc2K Lc2In tYes
  simp only [if_true]
section
variable {J J1 : It} {g g1 : TG} {wi1 : TI} {te : TE} {vs vs1 : List Nat} {σ σ2 : L2.St} {H : Hp} {Q : VK} {N : Hp → Prop} {D : Addr}
theorem in_of {acc0 : List V} (m : Nat) (R1 : Nat → List V → Hp → Prop) (h0 : R1 0 acc0 H) (hn : ∀ acc H', R1 m acc H' → J1.stop m H' ∧ N H')
    (hs : ∀ j acc H' (N1 : Hp → Prop), j < m → R1 j acc H' → (∀ acc' H3, R1 (j + 1) acc' H3 → N1 H3) → J1.go j H' ∧ ∀ x H2, J1.yld j H' x H2 → g1 x (wipe σ2 vs1) H2 fun σ3 H5 => wipe σ3 vs1 = wipe σ2 vs1 ∧ te σ3 H5 fun y H7 => AppK D y H7 N1) : Lc2In D J1 g1 te vs1 σ2 N H := by
  refine ⟨fun j k H' => k = m - j ∧ j ≤ m ∧ ∃ acc, R1 j acc H', ⟨m, by omega, Nat.zero_le _, acc0, h0⟩, fun j k H' ⟨e, hj, acc, r⟩ => ?_⟩
  by_cases c : j = m
  · subst c
    exact .inl (hn acc H' r)
  · refine .inr ?_
    obtain ⟨h1, h2⟩ := hs j acc H' (fun H3 => ∃ acc', R1 (j + 1) acc' H3) (by omega) r fun acc' H3 z => ⟨acc', z⟩
    exact ⟨h1, fun H3 => ∃ acc', R1 (j + 1) acc' H3, fun H3 ⟨acc', z⟩ => ⟨m - (j + 1), by omega, rfl, by omega, acc', z⟩, h2⟩
theorem lc2_of (n : Nat) (R : Nat → Addr → List V → Hp → Prop) (h0 : ∀ p, H p = none → R 0 p [] (upd H p (.lst []))) (hn : ∀ p acc H', R n p acc H' → J.stop n H' ∧ Q (.ref p) H')
    (hs : ∀ i p acc H' (N1 : Hp → Prop), i < n → R i p acc H' → (∀ acc' H3, R (i + 1) p acc' H3 → N1 H3) → J.go i H' ∧ ∀ x H2, J.yld i H' x H2 → g x (wipe σ vs) H2 fun σ2 H3 => wipe σ2 vs = wipe σ vs ∧ wi1 σ2 H3 fun J1 H4 => Lc2In p J1 g1 te vs1 σ2 N1 H4) : Lc2K J g wi1 g1 te vs vs1 σ H Q := by
  intro p hp
  refine ⟨fun i k H' => k = n - i ∧ i ≤ n ∧ ∃ acc, R i p acc H', ⟨n, by omega, Nat.zero_le _, [], h0 p hp⟩, fun i k H' ⟨e, hi, acc, r⟩ => ?_⟩
  by_cases c : i = n
  · subst c
    exact .inl (hn p acc H' r)
  · refine .inr ?_
    obtain ⟨h1, h2⟩ := hs i p acc H' (fun H3 => ∃ acc', R (i + 1) p acc' H3) (by omega) r fun acc' H3 z => ⟨acc', z⟩
    exact ⟨h1, fun H3 => ∃ acc', R (i + 1) p acc' H3, fun H3 ⟨acc', z⟩ => ⟨n - (i + 1), by omega, rfl, by omega, acc', z⟩, h2⟩
theorem i_valsN {td : TE} {R : It → Hp → Prop} : iValsN td σ H R = td σ H fun x H1 => ∃ d, x = .ref d ∧ WlkK d H1 fun kvs o H2 => R (Itvt d o kvs) H2 := propext ⟨fun h => h, fun h => h⟩
theorem e_setdT {td ty tx : TE} : tSetdT td ty tx σ H Q = td σ H fun x H1 => ∃ a, x = .ref a ∧ IsD H1 a ∧ ty σ H1 fun y H2 => tx σ H2 fun z H3 => ∃ b, y = .ref b ∧ SetdK H3 a b z Q := propext ⟨fun h => h, fun h => h⟩
end
/-! ### for k in d, d locked already or not -/
def WlkR (d : Addr) (H : Hp) (G : List (List Key × V) → Obj → Hp → Prop) : Prop := WlkK d H G ∨ ∃ kvs o, H d = some (.frz o (.dT kvs)) ∧ G kvs o H
def iKeysR (td : TE) : TI := fun σ H R => td σ H fun x H1 => ∃ d, x = .ref d ∧ WlkR d H1 fun kvs o H2 => R (Itkt d o kvs) H2
theorem pi_keysR {X : Cx} {tg e : Expr} {td : TE} (he : PE X e td) : PI X tg e (iKeysR td) := by
  refine ⟨fun pins s σ H R I h => ?_⟩
  refine thn (he.run pins s σ H _ I h) fun u s1 ⟨x, H1, I1, rx, d, ex, q⟩ => ?_
  subst ex
  obtain rfl : u = Value.ref d := rx
  rcases q with ⟨kvs, hd, q⟩ | ⟨kvs, od, hd, q⟩
  · obtain ⟨od, I2⟩ := I1.lock hd True.intro
    have q := q od
    have hfd : (upd H1 d (.frz od (.dT kvs))) d = some (.frz od (.dT kvs)) := upd_same
    obtain ⟨hs, hgd, hx, es, ep, hdt, hsz, ent⟩ := I2.frzT hfd
    refine iter_keys hs hgd hx hdt (pi_one (tk := s1.toks) I2 _ (turn_keysT _ hdt) ⟨_, Heap.get?_push_size _ rfl, rfl, ?_⟩ q)
    rw [hsz] <;> rfl
  · obtain ⟨hs, hgd, hx, es, ep, hdt, hsz, ent⟩ := I1.frzT hd
    refine iter_keys hs hgd hx hdt (pi_one (tk := s1.toks) I1 _ (turn_keysT _ hdt) ⟨_, Heap.get?_push_size _ rfl, rfl, ?_⟩ q)
    rw [hsz] <;> rfl
theorem i_keysR {td : TE} {σ : L2.St} {H : Hp} {R : It → Hp → Prop} : iKeysR td σ H R = td σ H fun x H1 => ∃ d, x = .ref d ∧ WlkR d H1 fun kvs o H2 => R (Itkt d o kvs) H2 := propext ⟨fun h => h, fun h => h⟩
theorem SetdK.of {B H : Hp} {l : List (Addr × HO)} {a b : Addr} {z : V} {Q : V → Hp → Prop} {kvs : List (List Key × V)} {k : List Key} (L : Led B H l) (m : (a, HO.dT kvs) ∈ l) (hb : H b = some (.tup (k.map kV))) (hl : kvs.length < sizeLine)
    (h1 : ∀ v, valV kvs k = some v → Q v H) (h2 : valV kvs k = none → ∀ H1, Led B H1 (putL l a (.dT (putK kvs k z))) → Q z H1) : SetdK H a b z Q := ⟨kvs, k, L.at m, hb, hl, h1, fun hn => h2 hn _ (L.putL m)⟩
/-! ### enumerate(list, 1) -/
def IteK (K : PySem.W.Frag) (a : Addr) (c : Int) : It :=
  ⟨fun i H => ∃ (xs : List V) (x : V), SqL K H a xs ∧ xs[i]? = some x, fun i H v H' => ∃ T x, v = .ref T ∧ H T = none ∧ H' = upd H T (.tup [.int ((i : Nat) + c), x]) ∧ ∀ xs, SqL K H a xs → xs[i]? = some x, fun i H => ∃ xs : List V, SqL K H a xs ∧ i = xs.length⟩
theorem turn_enumK {P : Program} {w : World} {K : PySem.W.Frag} {elts : List Expr} {kk : Nat} {tpos : Pos} (a e it : Addr) (c : Int) (ha : a ≠ it) (hea : e ≠ a) :
    Turn P w K (.Tuple elts kk tpos) (IteK K a c) [e, it] e (fun i h => (∃ old, IsEnum h e it (((i : Nat) : Int) + c) old) ∧ h.IsListIter it a i ∧ e ≠ it) where
  mem := by simp
  obj := fun i h st b hb => by
    obtain ⟨⟨old, he⟩, ⟨o, ho, hc, hd⟩, _⟩ := st
    have e' : b = e ∨ b = it := by simpa using hb
    rcases e' with z | z
    · rw [z]; exact ⟨_, he, fun v q => nomatch q⟩
    · rw [z]; exact ⟨o, ho, fun v q => by rw [hd] at q; cases q⟩
  keep := fun i h h' st k => let ⟨⟨old, he⟩, hi, hne⟩ := st; ⟨⟨old, k e (by simp) _ he⟩, hi.at fun o q => k it (by simp) o q, hne⟩
  item := by
    intro X hP hw hK hc i pins s σ H E I hf st hg
    subst hP hw hK
    obtain ⟨⟨old, he⟩, hit, hne⟩ := st
    obtain ⟨xs, x, hq, hx⟩ := hg
    obtain ⟨its, rv, p, hz⟩ := I.list hq
    obtain ⟨u, hu, ru⟩ := rv.get hx
    have hel : e < s.heap.objs.size := Heap.lt_size he
    have hil : it < s.heap.objs.size := by obtain ⟨_, q, _⟩ := hit; exact Heap.lt_size q
    have hh : X.A.in1.handled = none := I.ok.hd hc
    have st1 : s.heap.IsListIter it a i ∧ s.heap.IsList a its.toArray := ⟨hit, p.isList⟩
    have n1 : i < its.toArray.size := by have := (List.getElem?_eq_some_iff.mp hu).1; simpa using this
    refine wpAny_pyNext_enum_itemC (Draws.list hh it a ha its.toArray) he st1 n1 hne (by simp [hne, hea]) fun x1 h' tk e1 ho s1' hT hsz hk => ?_
    obtain rfl : x1 = u := by
      have e1 : its.toArray[i]? = some x1 := e1
      rw [List.getElem?_toArray, hu] at e1
      exact (Option.some.inj e1).symm
    refine ⟨_, rfl, wpAny_letOwnedTupleGo_enum (s := { s with heap := h', toks := tk + 1 }) ho fun h'' he' sb => ?_⟩
    have hT2 : h''.get? s.heap.objs.size = some { cls := .type "tuple", data := .seq #[.int (i + c) tk, x1] } := (sb.2 _ (Nat.ne_of_gt hel)).trans hT
    have new : ObjOk X.prog X.w (upd H s.heap.objs.size (.tup [.int ((i : Nat) + c), x])) h'' s.heap.objs.size (.tup [.int ((i : Nat) + c), x]) :=
      ⟨by show 2 ≤ sizeLine; decide, [.int (i + c) tk, x1], .cons ⟨_, rfl⟩ (.cons ru .nil), ⟨_, hT2, rfl, _, rfl⟩⟩
    have I1 : L2.Inv X pins σ (upd H s.heap.objs.size (.tup [.int ((i : Nat) + c), x])) { s with heap := h'', toks := tk + 1 } :=
      I.turnedNew (ch := [e, it]) (fun b ob hb q => (sb.2 b (fun z => hb (by simp [z]))).trans (hk b ob (fun z => hb (by simp [z])) (fun z => hb (by simp [z])) q)) hf (Nat.le_refl _) new
    refine ⟨.ref s.heap.objs.size, _, I1, rfl, ⟨_, x, rfl, I.hok.fresh (Nat.le_refl _), rfl, fun ys hy => by rw [I.list_inj hy hq]; exact hx⟩, ⟨⟨x1, ?_⟩, s1'.1.at fun o q => (sb.2 it (Ne.symm hne)).trans q, hne⟩, fun b hb => ?_⟩
    · have e1 : ((i + 1 : Nat) : Int) + c = (i : Int) + c + 1 := by omega
      rw [e1]; exact he'
    · have hb' : b < s.heap.objs.size := by
        have e' : b = e ∨ b = it := by simpa using hb
        rcases e' with z | z
        · rw [z]; exact hel
        · rw [z]; exact hil
      rw [upd_ne (Nat.ne_of_lt hb')]
      exact (hf b hb).1
  done := by
    intro X hP hw hK hc i pins s σ H E I hf st hg
    subst hP hw hK
    obtain ⟨⟨old, he⟩, hit, hne⟩ := st
    obtain ⟨xs, hq, hx⟩ := hg
    obtain ⟨its, rv, p, hz⟩ := I.list hq
    obtain ⟨f0, f1, f2, f3, f4, f5⟩ := hf it (by simp)
    have hl := rv.length
    have hh : X.A.in1.handled = none := I.ok.hd hc
    have st1 : s.heap.IsListIter it a its.toArray.size ∧ s.heap.IsList a its.toArray := ⟨by rw [show its.toArray.size = i by simp; omega]; exact hit, p.isList⟩
    exact wpAny_pyNext_enum_endD (Draws.list hh it a ha its.toArray) he st1 fun h' eb => ⟨rfl, I.turned (t' := s.toks) (fun b o hb q => eb b o hb q) f0 f1 f3 f4 f5⟩
  self := fun A i s Q E st h => let ⟨⟨_, he⟩, _⟩ := st; wpAny_pyIter_enum he h
def iEnumK (K : PySem.W.Frag) (ta : TA) : TI := fun σ H R => ta σ H fun vs H1 => ∃ a c xs, vs = [.ref a, .int c] ∧ SqL K H1 a xs ∧ -(2 ^ 63) ≤ c ∧ c < 2 ^ 63 ∧ R (IteK K a c) H1
theorem pi_enumK {X : Cx} {e e2 : Expr} {ta : TA} {p pos tpos : Pos} {elts : List Expr} {kk : Nat} (hg : Gl X "enumerate") (hm : X.mg "enumerate" = none) (ha : PA X [e, e2] ta)
    (hs : starEach [e, e2] X.env = (false, eval e X.env) :: starEach [e2] X.env := by rfl) (hpl : (backTo pos (starEach [e2] X.env)).any (·.1) = false := by rfl) :
    PI X (.Tuple elts kk tpos) (.Call (.Name "enumerate" p) [e, e2] [] pos) (iEnumK X.K ta) := by
  refine ⟨fun pins s σ H R I h => ?_⟩
  refine Call_ (ld_blt I hg hm boot_enumerate (PyProof.Rows.callWith_type1 (thn (ha.run pos pins s σ H _ I h) fun us s1 ⟨vs, H1, I1, r1, q1⟩ => ?_) hs hpl))
  obtain ⟨a, c, xs, ex, hq, c0, c1, q⟩ := q1
  subst ex
  cases r1 with
  | cons r rr =>
    cases rr with
    | cons r2 rr =>
      cases rr
      cases r
      obtain ⟨t, rfl⟩ := r2
      obtain ⟨its, rv, p', hz⟩ := I1.list hq
      have la : a < s1.heap.objs.size := p'.lt
      refine enum_begins (begins_list a its.toArray) p'.isList c0 c1 fun h' he hit hsz hk => wpAny_pyIter_enum he ?_
      have I2 : L2.Inv X pins σ H1 { s1 with heap := h' } := I1.kept (t' := s1.toks) hk
      refine ⟨s1.heap.objs.size + 1, [s1.heap.objs.size + 1, s1.heap.objs.size], _, _, H1, rfl, I2, turn_enumK a (s1.heap.objs.size + 1) s1.heap.objs.size c (Nat.ne_of_lt la) (Nat.ne_of_gt (Nat.lt_succ_of_lt la)), ⟨⟨.none, by rw [show (((0 : Nat) : Int) + c) = c by omega]; exact he⟩, ⟨_, hit, rfl, rfl⟩, Nat.succ_ne_self _⟩, fun b hb => ?_, q⟩
      have e' : b = s1.heap.objs.size + 1 ∨ b = s1.heap.objs.size := by simpa using hb
      have hle : s1.heap.objs.size ≤ b := by
        rcases e' with z | z
        · rw [z]; exact Nat.le_add_right _ _
        · rw [z]; exact Nat.le_refl _
      exact I1.fpOk hle (I1.hok.fresh hle)
section
variable {K : PySem.W.Frag} {g : TG} {tb : TS} {D : Ends} {σ : L2.St} {H : Hp} {a : Addr} {c : Int} {xs : List V} {ta : TA} {R : It → Hp → Prop}
theorem i_enumK : iEnumK K ta σ H R = ta σ H fun vs H1 => ∃ a c, vs = [.ref a, .int c] ∧ (∃ xs, SqL K H1 a xs) ∧ -(2 ^ 63) ≤ c ∧ c < 2 ^ 63 ∧ R (IteK K a c) H1 := propext (by
  unfold iEnumK
  exact Iff.of_eq (congrArg (ta σ H) (funext fun x => funext fun H1 => propext ⟨fun ⟨a, c, xs, e, h1, h2⟩ => ⟨a, c, e, ⟨xs, h1⟩, h2⟩, fun ⟨a, c, e, ⟨xs, h1⟩, h2⟩ => ⟨a, c, xs, e, h1, h2⟩⟩)))
theorem loop_enumK (Pv : Nat → L2.St → Hp → Prop) (h0 : Pv 0 σ H) (hq : ∀ i σ' H', Pv i σ' H' → SqL K H' a xs)
    (hs : ∀ i x σ' H' (N : L2.St → Hp → Prop), xs[i]? = some x → Pv i σ' H' → (∀ σ2 H2, Pv (i + 1) σ2 H2 → N σ2 H2) → NewK (.tup [.int ((i : Nat) + c), x]) H' fun t H2 => g (.ref t) σ' H2 fun σ2 H3 => tb { D with nx := N, ct := N, bk := D.nx } σ2 H3)
    (hd : ∀ σ' H', Pv xs.length σ' H' → D.nx σ' H') : LoopK (IteK K a c) g tb D σ H := by
  refine loop_gen xs.length Pv h0 (fun σ' H' r => ⟨⟨xs, hq _ _ _ r, rfl⟩, hd σ' H' r⟩) fun i σ' H' hi r => ?_
  refine ⟨⟨xs, xs[i], hq _ _ _ r, List.getElem?_eq_getElem hi⟩, ?_⟩
  rintro v H2 ⟨t, x, rfl, ht, rfl, hx⟩
  exact hs i x σ' _ _ (hx xs (hq _ _ _ r)) r (fun σ2 H3 z => z) t ht
end
end Vg


set_option Elab.async false
set_option linter.all false
set_option maxRecDepth 100000
set_option maxHeartbeats 4000000
namespace My
open PySem PySem.Spec PyProof.Rows L2 Vg
theorem cp_10_15 : CPow 10 15 ↔ True := iff_true_intro ⟨by decide, by decide, by decide⟩
theorem sz_0 : 0 ≤ sizeLine ↔ True := iff_true_intro (by decide)
theorem sz_1 : 1 ≤ sizeLine ↔ True := iff_true_intro (by decide)
theorem sz_2 : 2 ≤ sizeLine ↔ True := iff_true_intro (by decide)
theorem sz_3 : 3 ≤ sizeLine ↔ True := iff_true_intro (by decide)
theorem cp_10_41 : CPow 10 41 ↔ True := iff_true_intro ⟨by decide, by decide, by decide⟩
theorem cp_10_40 : CPow 10 40 ↔ True := iff_true_intro ⟨by decide, by decide, by decide⟩
theorem sz_4 : 4 ≤ sizeLine ↔ True := iff_true_intro (by decide)
theorem cp_10_18 : CPow 10 18 ↔ True := iff_true_intro ⟨by decide, by decide, by decide⟩
theorem cp_10_39 : CPow 10 39 ↔ True := iff_true_intro ⟨by decide, by decide, by decide⟩
theorem nf_diagonal__limit : (("diagonal" : Str) = "limit") = False := eq_false (by decide +kernel)
theorem nb_diagonal__limit : (("diagonal" : Str) == "limit") = false := by decide +kernel
theorem nf_limit__diagonal : (("limit" : Str) = "diagonal") = False := eq_false (by decide +kernel)
theorem nb_limit__diagonal : (("limit" : Str) == "diagonal") = false := by decide +kernel
end My

open PySem PySem.Spec PyProof.Rows L2 Vg
set_option hygiene false in
local macro_rules | `(tactic| walk_at "vc") => `(tactic| try simp only [k_cx, k_cx2, x_isI_list, x_isI_str, x_isI_dict, x_isI_tuple, x_isB_list, x_isB_str, x_isB_dict, x_isB_tuple, x_isN_list, x_isN_str, x_isN_dict, x_isN_tuple, x_isS_list, x_isS_dict, x_isS_tuple, x_reprQ, x_cnt, e_revL, x_tupL, e_dn, e_d1, x_dctP, x_strI, x_intB, e_din, e_dnin, x_sortedP, Option.isSome_none, Option.isSome_some, e_dget, e_dget2, s_dput, e_dnT, i_zip, e_disp, tp_nil, tp_cons, x_joinS, x_splitS, x_asciiS, x_digitS, x_intS, x_lenS, x_mulS, x_ixS, ty_S, x_listOf, e_call, e_meth, e_methR, e_make, e_prop, x_lenO, s_par3, e_icon, e_cval, e_fmt, e_jo, e_jo0, g_unl, e_cmeth, e_makeV, x_isX, x_isXT, x_oeq, x_one, x_isW, x_intI, x_lenD, x_mkset, x_srtS, k_cxw, e_d1T, i_itemsN, i_keysN, i_zipTL, i_enumT, x_eqE, x_isB, x_notB, x_lstD, x_sumN, e_callL, x_catA, x_slA, x_inKd, x_ixKd, x_partS, e_repl, i_rev, e_listEnum, x_repT, e_dpop2, x_sortU, x_notInD, e_mkX, e_xf, e_dpop1, s_nput, e_n1, i_nkeys, x_lstN, x_sortR, x_sortDT, x_repB, x_neE, e_lc2, i_valsN, i_enumK, e_setdT, i_keysR, My.cp_10_15, My.sz_0, My.sz_1, My.sz_2, My.sz_3, My.cp_10_41, My.cp_10_40, My.sz_4, My.cp_10_18, My.cp_10_39, My.nf_diagonal__limit, My.nb_diagonal__limit, My.nf_limit__diagonal, My.nb_limit__diagonal, List.lookup, putF, beq_self_eq_true, e_var, e_c, e_op, e_un, e_if, e_andV, e_orV, e_notV, e_lst, e_tup, e_CB, e_BM, e_BM0, e_G, e_chain, e_sl, e_part, e_nopart, a_nil, a_cons, t_B, t_test, t_and, t_or, t_not, t_yes,
  s_seq, s_next, s_break, s_cont, s_drop, s_ret, s_retN, s_ifS, s_asg, s_aug, s_par, Int.zero_add, g_name, g_tup, g_nil, g_cons, g_sub, i_list, i_tup, i_rng1, i_rng2, i_enum, s_for, e_lc, x_I, x_I0, x_U, x_eq, x_ne, x_ixL, x_ixT, x_setL, x_app, x_ext, x_cat, x_slL, x_in, x_repr, e_fld, s_fld, e_MG, e_KG, x_rpt, x_rem, x_min, e_lrg1, e_rg1, x_rev, s_augS, x_ip, i_rng3, x_isR, x_is_int, x_is_bool, x_is_bi, x_is_bb, x_is_ib, x_is_nb, x_is_ni, x_is_sb, x_is_si, x_len, x_mx, x_mn,
  wipe, sc_ii, sc_ss, sc_bb, sc_nn, sc_ns, sc_sn, sc_ni, sc_in, List.set_cons_zero, List.set_cons_succ, List.getElem?_cons_zero, List.getElem?_cons_succ, Option.some.injEq, exists_eq_left', exists_eq_left, exists_and_left, exists_and_right, V.int.injEq, V.bl.injEq, V.ref.injEq, V.str.injEq, List.cons.injEq, and_true, true_and, decide_eq_true_eq, List.append_nil, reduceCtorEq, and_assoc,
  L2.start, List.map_cons, List.map_nil, List.length_cons, List.length_nil, List.replicate, List.cons_append, List.nil_append, Nat.reduceAdd, Nat.reduceSub, Nat.zero_add, ipI, decide_true, decide_false, if_true, if_false, Bool.not_true, Bool.not_false, Bool.false_eq_true, Int.reduceToNat, Int.reducePow, Int.reduceAdd, Int.reduceSub, Int.reduceMul, Int.reduceNeg, List.length_map])
set_option hygiene false in
local macro_rules | `(tactic| walk_at "v1") => `(tactic| try simp only [k_cx, k_cx2, x_isI_list, x_isI_str, x_isI_dict, x_isI_tuple, x_isB_list, x_isB_str, x_isB_dict, x_isB_tuple, x_isN_list, x_isN_str, x_isN_dict, x_isN_tuple, x_isS_list, x_isS_dict, x_isS_tuple, x_reprQ, x_cnt, e_revL, x_tupL, e_dn, e_d1, x_dctP, x_strI, x_intB, e_din, e_dnin, x_sortedP, Option.isSome_none, Option.isSome_some, e_dget, e_dget2, s_dput, e_dnT, i_zip, e_disp, tp_nil, tp_cons, x_joinS, x_splitS, x_asciiS, x_digitS, x_intS, x_lenS, x_mulS, x_ixS, ty_S, x_listOf, e_call, e_meth, e_methR, e_make, e_prop, x_lenO, s_par3, e_icon, e_cval, e_fmt, e_jo, e_jo0, g_unl, e_cmeth, e_makeV, x_isX, x_isXT, x_oeq, x_one, x_isW, x_intI, x_lenD, x_mkset, x_srtS, k_cxw, e_d1T, i_itemsN, i_keysN, i_zipTL, i_enumT, x_eqE, x_isB, x_notB, x_lstD, x_sumN, e_callL, x_catA, x_slA, x_inKd, x_ixKd, x_partS, e_repl, i_rev, e_listEnum, x_repT, e_dpop2, x_sortU, x_notInD, e_mkX, e_xf, e_dpop1, s_nput, e_n1, i_nkeys, x_lstN, x_sortR, x_sortDT, x_repB, x_neE, e_lc2, i_valsN, i_enumK, e_setdT, i_keysR, My.cp_10_15, My.sz_0, My.sz_1, My.sz_2, My.sz_3, My.cp_10_41, My.cp_10_40, My.sz_4, My.cp_10_18, My.cp_10_39, My.nf_diagonal__limit, My.nb_diagonal__limit, My.nf_limit__diagonal, My.nb_limit__diagonal, List.lookup, putF, beq_self_eq_true, e_var, e_c, e_op, e_un, e_if, e_andV, e_orV, e_notV, e_lst, e_tup, e_CB, e_BM, e_BM0, e_G, e_chain, e_sl, e_part, e_nopart, a_nil, a_cons, t_B, t_test, t_and, t_or, t_not, t_yes,
  s_next, s_break, s_cont, s_drop, s_ret, s_retN, s_ifS, s_asg, s_aug, s_par, Int.zero_add, g_name, g_tup, g_nil, g_cons, g_sub, i_list, i_tup, i_rng1, i_rng2, i_enum, s_for, e_lc, x_I, x_I0, x_U, x_eq, x_ne, x_ixL, x_ixT, x_setL, x_app, x_ext, x_cat, x_slL, x_in, x_repr, e_fld, s_fld, e_MG, e_KG, x_rpt, x_rem, x_min, e_lrg1, e_rg1, x_rev, s_augS, x_ip, i_rng3, x_isR, x_is_int, x_is_bool, x_is_bi, x_is_bb, x_is_ib, x_is_nb, x_is_ni, x_is_sb, x_is_si, x_len, x_mx, x_mn,
  wipe, sc_ii, sc_ss, sc_bb, sc_nn, sc_ns, sc_sn, sc_ni, sc_in, List.set_cons_zero, List.set_cons_succ, List.getElem?_cons_zero, List.getElem?_cons_succ, Option.some.injEq, exists_eq_left', exists_eq_left, exists_and_left, exists_and_right, V.int.injEq, V.bl.injEq, V.ref.injEq, V.str.injEq, List.cons.injEq, and_true, true_and, decide_eq_true_eq, List.append_nil, reduceCtorEq, and_assoc,
  L2.start, List.map_cons, List.map_nil, List.length_cons, List.length_nil, List.replicate, List.cons_append, List.nil_append, Nat.reduceAdd, Nat.reduceSub, Nat.zero_add, ipI, decide_true, decide_false, if_true, if_false, Bool.not_true, Bool.not_false, Bool.false_eq_true, Int.reduceToNat, Int.reducePow, Int.reduceAdd, Int.reduceSub, Int.reduceMul, Int.reduceNeg, List.length_map])
local macro_rules | `(tactic| walk_at "sd") => `(tactic| first | assumption | omega | decide | exact ⟨by decide, by decide, by decide⟩ | exact ⟨by decide, by decide⟩ | (unfold CMul; omega) | (unfold CDiv; omega) | (show (_ : Nat) ≤ sizeLine; decide) | rfl)
local macro_rules | `(tactic| walk_at "mem") => `(tactic| (repeat (first | exact List.Mem.head _ | apply List.Mem.tail)))
local macro_rules | `(tactic| walk_at "put") => `(tactic| (repeat (first | exact Put.hd | apply Put.tl)))
local macro_rules | `(tactic| walk_at "pick") => `(tactic| (repeat (first | exact Pick.hd | apply Pick.tl)))
local macro_rules | `(tactic| walk_at "sel") => `(tactic| first | exact Sel.all | exact Sel.nil | (refine Sel.cons (by walk_at "pick") ?_; walk_at "sel") | (refine Sel.skip ?_; walk_at "sel"))
local macro_rules | `(tactic| walk_at "ifs") => `(tactic| repeat (first | rw [if_pos (by omega)] | rw [if_neg (by omega)]))
local macro_rules | `(tactic| walk_at "v2") => `(tactic| ((try dsimp only); rw [s_seq]; walk_at "v1"))
local macro_rules | `(tactic| walk_at "sds") => `(tactic| repeat (with_reducible refine And.intro (by walk_at "sd") ?_))
local macro_rules | `(tactic| walk_at "fs") => `(tactic| first | rfl | simp only [putF, List.lookup, beq_self_eq_true, if_true, if_false, reduceIte, My.nf_diagonal__limit, My.nb_diagonal__limit, My.nf_limit__diagonal, My.nb_limit__diagonal])
namespace My
open PySem PySem.Spec PyProof.Rows L2 Vg
def topS (i : Nat) : Stmt := PySem.Challenge.pw_splitnames_k30_sets_counted_and_numbered.main.body.getD i (.Pass ⟨0, 0, 0, 0⟩)
abbrev s_is_integer : Stmt := topS 10
theorem sc_is_integer : FnScope ["value"] ["value"] (defScope s_is_integer) := ⟨rfl, rfl, rfl, by decide +kernel, rfl, by decide +kernel, by decide +kernel⟩
abbrev s_is_integer_within : Stmt := topS 11
theorem sc_is_integer_within : FnScope ["value", "least", "greatest"] ["value", "least", "greatest"] (defScope s_is_integer_within) := ⟨rfl, rfl, rfl, by decide +kernel, rfl, by decide +kernel, by decide +kernel⟩
abbrev s_check_count : Stmt := topS 12
theorem sc_check_count : FnScope ["count", "greatest"] ["count", "greatest"] (defScope s_check_count) := ⟨rfl, rfl, rfl, by decide +kernel, rfl, by decide +kernel, by decide +kernel⟩
abbrev s_ways_on : Stmt := topS 22
theorem sc_ways_on : FnScope ["entered", "listed", "right"] ["entered", "listed"] (defScope s_ways_on) := ⟨rfl, rfl, rfl, by decide +kernel, rfl, by decide +kernel, by decide +kernel⟩
abbrev s_row_with_cell : Stmt := topS 23
theorem sc_row_with_cell : FnScope ["later", "right", "down"] ["later", "right", "down"] (defScope s_row_with_cell) := ⟨rfl, rfl, rfl, by decide +kernel, rfl, by decide +kernel, by decide +kernel⟩
abbrev s_ends_of : Stmt := topS 38
theorem sc_ends_of : FnScope ["row", "first", "ends", "at", "entered", "longer", "later", "stopped", "right", "down"] ["row", "first"] (defScope s_ends_of) := ⟨rfl, rfl, rfl, by decide +kernel, rfl, by decide +kernel, by decide +kernel⟩
abbrev s_check_coordinate : Stmt := topS 19
theorem sc_check_coordinate : FnScope ["value"] ["value"] (defScope s_check_coordinate) := ⟨rfl, rfl, rfl, by decide +kernel, rfl, by decide +kernel, by decide +kernel⟩
abbrev s_cells_before : Stmt := topS 20
theorem sc_cells_before : FnScope ["diagonal"] ["diagonal"] (defScope s_cells_before) := ⟨rfl, rfl, rfl, by decide +kernel, rfl, by decide +kernel, by decide +kernel⟩
abbrev s_name_of : Stmt := topS 18
theorem sc_name_of : FnScope ["right", "down"] ["right", "down"] (defScope s_name_of) := ⟨rfl, rfl, rfl, by decide +kernel, rfl, by decide +kernel, by decide +kernel⟩
abbrev s_found_after : Stmt := topS 37
theorem sc_found_after : FnScope ["found", "diagonal", "later_found", "row", "taken", "later", "stopped", "known", "names"] ["found", "diagonal"] (defScope s_found_after) := ⟨rfl, rfl, rfl, by decide +kernel, rfl, by decide +kernel, by decide +kernel⟩
abbrev s_possible_lists : Stmt := topS 36
theorem sc_possible_lists : FnScope ["count", "found", "diagonal", "taken", "names"] ["count"] (defScope s_possible_lists) := ⟨rfl, rfl, rfl, by decide +kernel, rfl, by decide +kernel, by decide +kernel⟩
abbrev s_nth_set : Stmt := topS 34
theorem sc_nth_set : FnScope ["count", "number", "lists"] ["count", "number"] (defScope s_nth_set) := ⟨rfl, rfl, rfl, by decide +kernel, rfl, by decide +kernel, by decide +kernel⟩
abbrev s_is_integer_list : Stmt := topS 13
theorem sc_is_integer_list : FnScope ["value", "item"] ["value"] (defScope s_is_integer_list) := ⟨rfl, rfl, rfl, by decide +kernel, rfl, by decide +kernel, by decide +kernel⟩
abbrev s_is_name_list : Stmt := topS 14
theorem sc_is_name_list : FnScope ["value", "last", "name"] ["value"] (defScope s_is_name_list) := ⟨rfl, rfl, rfl, by decide +kernel, rfl, by decide +kernel, by decide +kernel⟩
abbrev s_check_names : Stmt := topS 15
theorem sc_check_names : FnScope ["names"] ["names"] (defScope s_check_names) := ⟨rfl, rfl, rfl, by decide +kernel, rfl, by decide +kernel, by decide +kernel⟩
abbrev s_stuck_in : Stmt := topS 30
theorem sc_stuck_in : FnScope ["stages"] ["stages"] (defScope s_stuck_in) := ⟨rfl, rfl, rfl, by decide +kernel, rfl, by decide +kernel, by decide +kernel⟩
abbrev s_ways_from : Stmt := topS 26
theorem sc_ways_from : FnScope ["row", "listed", "ways", "found", "entered", "is_listed", "longer", "later", "way", "right", "down"] ["row", "listed", "ways"] (defScope s_ways_from) := ⟨rfl, rfl, rfl, by decide +kernel, rfl, by decide +kernel, by decide +kernel⟩
abbrev s_stage_after : Stmt := topS 25
theorem sc_stage_after : FnScope ["rows", "listed", "ways", "stage", "row", "later", "way"] ["rows", "listed", "ways"] (defScope s_stage_after) := ⟨rfl, rfl, rfl, by decide +kernel, rfl, by decide +kernel, by decide +kernel⟩
abbrev s_stages_of : Stmt := topS 24
theorem sc_stages_of : FnScope ["count", "names", "ways", "stages", "rows", "diagonal", "listed", "right"] ["count", "names", "ways"] (defScope s_stages_of) := ⟨rfl, rfl, rfl, by decide +kernel, rfl, by decide +kernel, by decide +kernel⟩
abbrev s_stages_of_p : Stmt := topS 29
theorem sc_stages_of_p : FnScope ["names"] ["names"] (defScope s_stages_of_p) := ⟨rfl, rfl, rfl, by decide +kernel, rfl, by decide +kernel, by decide +kernel⟩
abbrev s_stuck_diagonal : Stmt := topS 28
theorem sc_stuck_diagonal : FnScope ["names"] ["names"] (defScope s_stuck_diagonal) := ⟨rfl, rfl, rfl, by decide +kernel, rfl, by decide +kernel, by decide +kernel⟩
abbrev s_set_number : Stmt := topS 35
theorem sc_set_number : FnScope ["names", "diagonal"] ["names"] (defScope s_set_number) := ⟨rfl, rfl, rfl, by decide +kernel, rfl, by decide +kernel, by decide +kernel⟩
abbrev s_count_sets : Stmt := topS 33
theorem sc_count_sets : FnScope ["count"] ["count"] (defScope s_count_sets) := ⟨rfl, rfl, rfl, by decide +kernel, rfl, by decide +kernel, by decide +kernel⟩
abbrev s_law_sends : Stmt := topS 42
theorem sc_law_sends : FnScope ["entered", "is_listed", "right"] ["entered", "is_listed"] (defScope s_law_sends) := ⟨rfl, rfl, rfl, by decide +kernel, rfl, by decide +kernel, by decide +kernel⟩
abbrev s_law_all : Stmt := topS 43
theorem sc_law_all : FnScope ["count", "level", "found", "first", "diagonal", "later", "names", "state", "parts", "at", "entered", "longer", "some", "row", "is_listed", "right", "down", "more"] ["count"] (defScope s_law_all) := ⟨rfl, rfl, rfl, by decide +kernel, rfl, by decide +kernel, by decide +kernel⟩
abbrev s_law_pot : Stmt := topS 40
theorem sc_law_pot : FnScope ["script", "k", "cell"] ["script", "k"] (defScope s_law_pot) := ⟨rfl, rfl, rfl, by decide +kernel, rfl, by decide +kernel, by decide +kernel⟩
abbrev s_law_take : Stmt := topS 41
theorem sc_law_take : FnScope ["pot", "many", "found", "mixed"] ["pot", "many"] (defScope s_law_take) := ⟨rfl, rfl, rfl, by decide +kernel, rfl, by decide +kernel, by decide +kernel⟩
abbrev s_law_one_right : Stmt := topS 44
theorem sc_law_one_right : FnScope ["every", "count", "number", "again", "told", "kept"] ["every", "count", "number"] (defScope s_law_one_right) := ⟨rfl, rfl, rfl, by decide +kernel, rfl, by decide +kernel, by decide +kernel⟩
abbrev s_law : Stmt := topS 45
theorem sc_law : FnScope ["script", "lists", "count", "every", "k", "pot", "turn"] ["script"] (defScope s_law) := ⟨rfl, rfl, rfl, by decide +kernel, rfl, by decide +kernel, by decide +kernel⟩
/-- where the top has laid what the text names -/
structure Ad where
  a_is_integer : Addr
  fd_is_integer : FuncData
  a_is_integer_within : Addr
  fd_is_integer_within : FuncData
  a_check_count : Addr
  fd_check_count : FuncData
  a_ways_on : Addr
  fd_ways_on : FuncData
  a_row_with_cell : Addr
  fd_row_with_cell : FuncData
  a_ends_of : Addr
  fd_ends_of : FuncData
  a_check_coordinate : Addr
  fd_check_coordinate : FuncData
  a_cells_before : Addr
  fd_cells_before : FuncData
  a_name_of : Addr
  fd_name_of : FuncData
  a_found_after : Addr
  fd_found_after : FuncData
  a_possible_lists : Addr
  fd_possible_lists : FuncData
  a_nth_set : Addr
  fd_nth_set : FuncData
  a_is_integer_list : Addr
  fd_is_integer_list : FuncData
  a_is_name_list : Addr
  fd_is_name_list : FuncData
  a_check_names : Addr
  fd_check_names : FuncData
  a_stuck_in : Addr
  fd_stuck_in : FuncData
  a_ways_from : Addr
  fd_ways_from : FuncData
  a_stage_after : Addr
  fd_stage_after : FuncData
  a_stages_of : Addr
  fd_stages_of : FuncData
  a_stages_of_p : Addr
  fd_stages_of_p : FuncData
  a_stuck_diagonal : Addr
  fd_stuck_diagonal : FuncData
  a_set_number : Addr
  fd_set_number : FuncData
  a_count_sets : Addr
  fd_count_sets : FuncData
  a_law_sends : Addr
  fd_law_sends : FuncData
  a_law_all : Addr
  fd_law_all : FuncData
  a_law_pot : Addr
  fd_law_pot : FuncData
  a_law_take : Addr
  fd_law_take : FuncData
  a_law_one_right : Addr
  fd_law_one_right : FuncData
  a_law : Addr
  fd_law : FuncData
structure Mo (K : PySem.W.Frag) (mg : Str → Option Value) (d : Ad) : Prop where
  F_is_integer : Fun K "is_integer" "is_integer" s_is_integer d.a_is_integer d.fd_is_integer
  b_is_integer : Binds K d.fd_is_integer ["value"] []
  g_is_integer : mg "is_integer" = some (.ref d.a_is_integer)
  F_is_integer_within : Fun K "is_integer_within" "is_integer_within" s_is_integer_within d.a_is_integer_within d.fd_is_integer_within
  b_is_integer_within : Binds K d.fd_is_integer_within ["value", "least", "greatest"] []
  g_is_integer_within : mg "is_integer_within" = some (.ref d.a_is_integer_within)
  F_check_count : Fun K "check_count" "check_count" s_check_count d.a_check_count d.fd_check_count
  b_check_count : Binds K d.fd_check_count ["count", "greatest"] []
  g_check_count : mg "check_count" = some (.ref d.a_check_count)
  F_ways_on : Fun K "ways_on" "ways_on" s_ways_on d.a_ways_on d.fd_ways_on
  b_ways_on : Binds K d.fd_ways_on ["entered", "listed"] []
  g_ways_on : mg "ways_on" = some (.ref d.a_ways_on)
  F_row_with_cell : Fun K "row_with_cell" "row_with_cell" s_row_with_cell d.a_row_with_cell d.fd_row_with_cell
  b_row_with_cell : Binds K d.fd_row_with_cell ["later", "right", "down"] []
  g_row_with_cell : mg "row_with_cell" = some (.ref d.a_row_with_cell)
  F_ends_of : Fun K "_ends_of" "_ends_of" s_ends_of d.a_ends_of d.fd_ends_of
  b_ends_of : Binds K d.fd_ends_of ["row", "first"] []
  g_ends_of : mg "_ends_of" = some (.ref d.a_ends_of)
  F_check_coordinate : Fun K "_check_coordinate" "_check_coordinate" s_check_coordinate d.a_check_coordinate d.fd_check_coordinate
  b_check_coordinate : Binds K d.fd_check_coordinate ["value"] []
  g_check_coordinate : mg "_check_coordinate" = some (.ref d.a_check_coordinate)
  F_cells_before : Fun K "_cells_before" "_cells_before" s_cells_before d.a_cells_before d.fd_cells_before
  b_cells_before : Binds K d.fd_cells_before ["diagonal"] []
  g_cells_before : mg "_cells_before" = some (.ref d.a_cells_before)
  F_name_of : Fun K "name_of" "name_of" s_name_of d.a_name_of d.fd_name_of
  b_name_of : Binds K d.fd_name_of ["right", "down"] []
  g_name_of : mg "name_of" = some (.ref d.a_name_of)
  F_found_after : Fun K "_found_after" "_found_after" s_found_after d.a_found_after d.fd_found_after
  b_found_after : Binds K d.fd_found_after ["found", "diagonal"] []
  g_found_after : mg "_found_after" = some (.ref d.a_found_after)
  F_possible_lists : Fun K "_possible_lists" "_possible_lists" s_possible_lists d.a_possible_lists d.fd_possible_lists
  b_possible_lists : Binds K d.fd_possible_lists ["count"] []
  g_possible_lists : mg "_possible_lists" = some (.ref d.a_possible_lists)
  F_nth_set : Fun K "nth_set" "nth_set" s_nth_set d.a_nth_set d.fd_nth_set
  b_nth_set : Binds K d.fd_nth_set ["count", "number"] []
  g_nth_set : mg "nth_set" = some (.ref d.a_nth_set)
  F_is_integer_list : Fun K "is_integer_list" "is_integer_list" s_is_integer_list d.a_is_integer_list d.fd_is_integer_list
  b_is_integer_list : Binds K d.fd_is_integer_list ["value"] []
  g_is_integer_list : mg "is_integer_list" = some (.ref d.a_is_integer_list)
  F_is_name_list : Fun K "is_name_list" "is_name_list" s_is_name_list d.a_is_name_list d.fd_is_name_list
  b_is_name_list : Binds K d.fd_is_name_list ["value"] []
  g_is_name_list : mg "is_name_list" = some (.ref d.a_is_name_list)
  F_check_names : Fun K "check_names" "check_names" s_check_names d.a_check_names d.fd_check_names
  b_check_names : Binds K d.fd_check_names ["names"] []
  g_check_names : mg "check_names" = some (.ref d.a_check_names)
  F_stuck_in : Fun K "_stuck_in" "_stuck_in" s_stuck_in d.a_stuck_in d.fd_stuck_in
  b_stuck_in : Binds K d.fd_stuck_in ["stages"] []
  g_stuck_in : mg "_stuck_in" = some (.ref d.a_stuck_in)
  F_ways_from : Fun K "_ways_from" "_ways_from" s_ways_from d.a_ways_from d.fd_ways_from
  b_ways_from : Binds K d.fd_ways_from ["row", "listed", "ways"] []
  g_ways_from : mg "_ways_from" = some (.ref d.a_ways_from)
  F_stage_after : Fun K "_stage_after" "_stage_after" s_stage_after d.a_stage_after d.fd_stage_after
  b_stage_after : Binds K d.fd_stage_after ["rows", "listed", "ways"] []
  g_stage_after : mg "_stage_after" = some (.ref d.a_stage_after)
  F_stages_of : Fun K "stages_of" "stages_of" s_stages_of d.a_stages_of d.fd_stages_of
  b_stages_of : Binds K d.fd_stages_of ["count", "names", "ways"] []
  g_stages_of : mg "stages_of" = some (.ref d.a_stages_of)
  F_stages_of_p : Fun K "_stages_of" "_stages_of" s_stages_of_p d.a_stages_of_p d.fd_stages_of_p
  b_stages_of_p : Binds K d.fd_stages_of_p ["names"] []
  g_stages_of_p : mg "_stages_of" = some (.ref d.a_stages_of_p)
  F_stuck_diagonal : Fun K "stuck_diagonal" "stuck_diagonal" s_stuck_diagonal d.a_stuck_diagonal d.fd_stuck_diagonal
  b_stuck_diagonal : Binds K d.fd_stuck_diagonal ["names"] []
  g_stuck_diagonal : mg "stuck_diagonal" = some (.ref d.a_stuck_diagonal)
  F_set_number : Fun K "set_number" "set_number" s_set_number d.a_set_number d.fd_set_number
  b_set_number : Binds K d.fd_set_number ["names"] []
  g_set_number : mg "set_number" = some (.ref d.a_set_number)
  F_count_sets : Fun K "count_sets" "count_sets" s_count_sets d.a_count_sets d.fd_count_sets
  b_count_sets : Binds K d.fd_count_sets ["count"] []
  g_count_sets : mg "count_sets" = some (.ref d.a_count_sets)
  F_law_sends : Fun K "_law_sends" "_law_sends" s_law_sends d.a_law_sends d.fd_law_sends
  b_law_sends : Binds K d.fd_law_sends ["entered", "is_listed"] []
  g_law_sends : mg "_law_sends" = some (.ref d.a_law_sends)
  F_law_all : Fun K "_law_all" "_law_all" s_law_all d.a_law_all d.fd_law_all
  b_law_all : Binds K d.fd_law_all ["count"] []
  g_law_all : mg "_law_all" = some (.ref d.a_law_all)
  F_law_pot : Fun K "_law_pot" "_law_pot" s_law_pot d.a_law_pot d.fd_law_pot
  b_law_pot : Binds K d.fd_law_pot ["script", "k"] []
  g_law_pot : mg "_law_pot" = some (.ref d.a_law_pot)
  F_law_take : Fun K "_law_take" "_law_take" s_law_take d.a_law_take d.fd_law_take
  b_law_take : Binds K d.fd_law_take ["pot", "many"] []
  g_law_take : mg "_law_take" = some (.ref d.a_law_take)
  F_law_one_right : Fun K "_law_one_right" "_law_one_right" s_law_one_right d.a_law_one_right d.fd_law_one_right
  b_law_one_right : Binds K d.fd_law_one_right ["every", "count", "number"] []
  g_law_one_right : mg "_law_one_right" = some (.ref d.a_law_one_right)
  F_law : Fun K "law" "law" s_law d.a_law d.fd_law
  b_law : Binds K d.fd_law ["script"] []
  g_law : mg "law" = some (.ref d.a_law)
  n_bool : mg "bool" = none
  n_enumerate : mg "enumerate" = none
  n_int : mg "int" = none
  n_isinstance : mg "isinstance" = none
  n_len : mg "len" = none
  n_list : mg "list" = none
  n_max : mg "max" = none
  n_min : mg "min" = none
  n_range : mg "range" = none
  n_repr : mg "repr" = none
  n_sorted : mg "sorted" = none
  n_sum : mg "sum" = none
  n_zip : mg "zip" = none
  mg_GREATEST_COORDINATE : ∃ t, mg "GREATEST_COORDINATE" = some (.int (1000000000000000) t)
  mg_GREATEST_COUNT : ∃ t, mg "GREATEST_COUNT" = some (.int (5) t)
  mg_MOST_NAMES : ∃ t, mg "MOST_NAMES" = some (.int (8) t)
/-- a drawer of numbers stands at u, besides l -/
def Urn (B H : Hp) (u : Addr) (l : List (Addr × HO)) (c : Nat) : Prop := ∃ x y z : Int, Led B H ((u, .lst [.int x, .int y, .int z]) :: l) ∧ 0 ≤ x ∧ 0 ≤ y ∧ y < 2 ^ 150 ∧ 0 ≤ z ∧ z ≤ (c : Int)
theorem Urn.led {B H : Hp} {u : Addr} {l : List (Addr × HO)} {c : Nat} (U : Urn B H u l c) : Led B H l := by
  obtain ⟨x, y, z, L, _⟩ := U
  exact L.drop (n := 1)
theorem Urn.map {B H B' H' : Hp} {u : Addr} {l l' : List (Addr × HO)} {c : Nat} (U : Urn B H u l c) (h : ∀ o, Led B H ((u, o) :: l) → Led B' H' ((u, o) :: l')) : Urn B' H' u l' c := by
  obtain ⟨x, y, z, L, r⟩ := U
  exact ⟨x, y, z, h _ L, r⟩
theorem Urn.up {B H : Hp} {u : Addr} {l : List (Addr × HO)} {c d : Nat} (U : Urn B H u l c) (h : c ≤ d) : Urn B H u l d := by
  obtain ⟨x, y, z, L, r1, r2, r3, r4, r5⟩ := U
  exact ⟨x, y, z, L, r1, r2, r3, r4, by omega⟩
theorem Urn.new {B H : Hp} {u : Addr} {l : List (Addr × HO)} {c : Nat} {o : HO} {G : Addr → Hp → Prop} (U : Urn B H u l c) (k : ∀ p H1, Urn B H1 u ((p, o) :: l) c → G p H1) : NewK o H G := fun p hp =>
  k p _ (U.map fun o L => (L.new hp).sel (.cons (.tl .hd) .all))
theorem Urn.sel {B H : Hp} {u : Addr} {l l' : List (Addr × HO)} {c : Nat} (U : Urn B H u l c) (h : Sel l l') : Urn B H u l' c := U.map fun o L => L.sel (.cons .hd h)
theorem Urn.put {B H : Hp} {u p : Addr} {o : HO} {l l' : List (Addr × HO)} {c : Nat} (U : Urn B H u l c) (h : Put l p o l') : Urn B (upd H p o) u l' c := U.map fun _ L => L.put (.tl h)
theorem Urn.catK {B H : Hp} {u p q : Addr} {l : List (Addr × HO)} {c : Nat} {xs ys : List V} {G : Addr → Hp → Prop} (U : Urn B H u l c) (h : (p, HO.lst xs) ∈ l) (h2 : (q, HO.lst ys) ∈ l) (a : xs.length + ys.length ≤ sizeLine)
    (k : ∀ r H1, Urn B H1 u ((r, .lst (xs ++ ys)) :: l) c → G r H1) : CatK p q H G := ⟨xs, ys, U.led.at h, U.led.at h2, a, U.new k⟩
theorem Urn.appK {B H : Hp} {u p : Addr} {l l' : List (Addr × HO)} {c : Nat} {xs : List V} {v : V} {G : Hp → Prop} (U : Urn B H u l c) (h : (p, HO.lst xs) ∈ l) (a : xs.length < sizeLine) (t : Put l p (.lst (xs ++ [v])) l')
    (k : ∀ H1, Urn B H1 u l' c → G H1) : AppK p v H G := ⟨xs, U.led.at h, a, k _ (U.put t)⟩
theorem Urn.setK {B H : Hp} {u p : Addr} {l l' : List (Addr × HO)} {c j : Nat} {i : Int} {xs : List V} {v : V} {G : Hp → Prop} (U : Urn B H u l c) (h : (p, HO.lst xs) ∈ l) (a : ixN xs.length i = some j) (t : Put l p (.lst (xs.set j v)) l')
    (k : ∀ H1, Urn B H1 u l' c → G H1) : SetK p i v H G := ⟨xs, j, U.led.at h, a, k _ (U.put t)⟩
theorem Urn.rptK {B H : Hp} {u a : Addr} {l : List (Addr × HO)} {c n : Nat} {v : V} {G : Addr → Hp → Prop} (U : Urn B H u l c) (h : (a, HO.lst [v]) ∈ l) (hn : n ≤ 100000) (k : ∀ p H1, Urn B H1 u ((p, .lst (List.replicate n v)) :: l) c → G p H1) : RptK a (n : Int) H G :=
  ⟨[v], U.led.at h, by omega, by omega, Nat.le_trans (m := 100000) (by rw [Int.toNat_natCast]; simpa using hn) (by decide), by rw [Int.toNat_natCast, flat_one]; exact U.new k⟩
theorem Urn.remK {B H : Hp} {u a : Addr} {l l' : List (Addr × HO)} {c : Nat} {n : Int} {ns : List Int} {G : Hp → Prop} (U : Urn B H u l c) (h : (a, HO.lst (ns.map V.int)) ∈ l) (hm : n ∈ ns) (t : Put l a (.lst ((ns.erase n).map V.int)) l') (k : ∀ H1, Urn B H1 u l' c → G H1) : RemK a n H G := by
  obtain ⟨j, h1, h2, h3⟩ := first_at hm
  exact ⟨ns, j, U.led.at h, h1, h2, by rw [h3]; exact k _ (U.put t)⟩
/-! ### lists of numbers -/
def nv (l : List Nat) : List V := l.map fun (p : Nat) => V.int (p : Int)
theorem nv_len (l : List Nat) : (nv l).length = l.length := by unfold nv; rw [List.length_map]
theorem nv_at {l : List Nat} {i : Nat} {x : V} (h : (nv l)[i]? = some x) : ∃ p, l[i]? = some p ∧ x = V.int (p : Int) := by
  unfold nv at h
  rw [List.getElem?_map] at h
  cases e : l[i]? with
  | none => rw [e] at h; cases h
  | some p => rw [e] at h; cases h; exact ⟨p, rfl, rfl⟩
theorem nv_atI {l : List Nat} {i d : Nat} (h : l[i]? = some d) : atI (nv l) (i : Int) = some (V.int (d : Int)) := by
  have hi : i < l.length := (List.getElem?_eq_some_iff.mp h).1
  rw [atI_in (by omega) (by rw [nv_len]; omega)]
  have : (nv l)[i]? = some (V.int (d : Int)) := by unfold nv; rw [List.getElem?_map, h]; rfl
  rw [← this]
  simp only [Int.toNat_natCast]
  exact (List.getElem?_eq_getElem _).symm
theorem atI_nat' {α : Type} {l : List α} {i : Nat} {x : α} (h : l[i]? = some x) : atI l (i : Int) = some x := by
  have hi : i < l.length := (List.getElem?_eq_some_iff.mp h).1
  rw [atI_in (by omega) (by omega), ← h]
  simp only [Int.toNat_natCast]
  exact (List.getElem?_eq_getElem _).symm
theorem ixN_nat {n i : Nat} (h : i < n) : ixN n (i : Int) = some i := by
  unfold ixN
  rw [if_pos (by omega), if_pos (by omega), Int.toNat_natCast]
theorem nv_set (l : List Nat) (i d : Nat) : (nv l).set i (V.int (d : Int)) = nv (l.set i d) := by
  unfold nv
  rw [List.map_set]
theorem nv_put (l : List Nat) (p k : Nat) : (nv l).set p (V.int ((k : Int) + 1)) = nv (l.set p (k + 1)) := by rw [← nv_set]; rfl
theorem dp_nv {K : PySem.W.Frag} {H : Hp} : ∀ l : List Nat, DpAll K H (nv l) (l.map fun (p : Nat) => .int (p : Int))
  | [] => .nil
  | p :: r => .cons (.int (p : Int)) (dp_nv r)
theorem nv_pick {l : List Nat} {r : Int} (h0 : 0 ≤ r) (h : r < l.length) : ∃ p, p ∈ l ∧ atI (nv l) r = some (V.int (p : Int)) := by
  have hr : r.toNat < l.length := by omega
  refine ⟨l[r.toNat], List.getElem_mem _, ?_⟩
  have := nv_atI (List.getElem?_eq_getElem hr)
  rw [Int.toNat_of_nonneg h0] at this
  exact this
theorem nv_app (l : List Nat) (d : Nat) : nv (l ++ [d]) = nv l ++ [V.int (d : Int)] := by
  unfold nv
  rw [List.map_append]
  rfl
theorem nv_ints (l : List Nat) : nv l = (l.map fun (p : Nat) => (p : Int)).map V.int := by
  unfold nv
  rw [List.map_map]
  rfl
theorem flat_nv (l : List Nat) : (nv l).all flatV = true := by
  unfold nv
  rw [List.all_map]
  exact List.all_eq_true.mpr fun p _ => rfl
theorem in_nv {l : List Nat} {z : Int} (h : inV (.int z) (nv l) = true) : ∃ p, p ∈ l ∧ (p : Int) = z := by
  unfold inV nv at h
  rw [List.any_map] at h
  obtain ⟨p, hp, e⟩ := List.any_eq_true.mp h
  exact ⟨p, hp, by simpa [eqV] using e⟩
theorem nv_nil : nv [] = [] := rfl
theorem erase_nv (p : Nat) : ∀ A : List Nat, ((A.map fun (q : Nat) => (q : Int)).erase (p : Int)).map V.int = nv (A.erase p)
  | [] => rfl
  | q :: r => by
    by_cases c : q = p
    · subst c
      rw [List.map_cons, List.erase_cons_head, List.erase_cons_head, ← nv_ints]
    · have h1 : ((q : Int) == (p : Int)) = false := by
        rw [beq_eq_false_iff_ne]
        omega
      have h2 : (q == p) = false := by rw [beq_eq_false_iff_ne]; exact c
      rw [List.map_cons, List.erase_cons_tail (by rw [h1]; decide), List.erase_cons_tail (by rw [h2]; decide), List.map_cons, erase_nv p r]
      rfl
theorem nv_take (l : List Nat) (k : Nat) : (nv l).take k = nv (l.take k) := by
  unfold nv
  rw [List.map_take]
theorem cut_take {α : Type} (xs : List V) (k : Nat) : cutV xs none (some (k : Int)) = xs.take k := by
  unfold cutV
  rw [HT.sIx_none, HT.sIx_nat]
  show (xs.drop 0).take (min k xs.length - 0) = _
  rw [List.drop_zero, Nat.sub_zero, List.take_eq_take_iff]
  omega
theorem take_more {l : List Nat} {i p : Nat} (h : l[i]? = some p) : l.take (i + 1) = l.take i ++ [p] := by rw [List.take_add_one, h]; rfl
def Asc (ms : List Nat) : Prop := ms.Pairwise (· < ·)
def lastZ (l : List Nat) : Int := match l.getLast? with
  | none => -1
  | some p => (p : Int)
theorem lastZ_app (l : List Nat) (p : Nat) : lastZ (l ++ [p]) = (p : Int) := by unfold lastZ; rw [List.getLast?_concat]
theorem Asc.last {l : List Nat} {p : Nat} (h : Asc (l ++ [p])) : lastZ l < (p : Int) := by
  unfold lastZ
  cases e : l.getLast? with
  | none => dsimp only; omega
  | some q =>
    have := (List.pairwise_append.mp h).2.2 q (List.mem_of_getLast? e) p (List.mem_singleton.mpr rfl)
    dsimp only
    omega
theorem Asc.app {l : List Nat} {p : Nat} (h : Asc l) (h2 : lastZ l < (p : Int)) : Asc (l ++ [p]) := by
  refine List.pairwise_append.mpr ⟨h, List.pairwise_singleton _ _, fun a ha b hb => ?_⟩
  rw [List.mem_singleton.mp hb]
  unfold lastZ at h2
  have hne : l ≠ [] := List.ne_nil_of_mem ha
  cases e : l.getLast? with
  | none => rw [List.getLast?_eq_none_iff] at e; exact absurd e hne
  | some q =>
    rw [e] at h2
    dsimp only at h2
    have : a ≤ q := by
      obtain ⟨k, hk, e2⟩ := List.mem_iff_getElem.mp ha
      rw [List.getLast?_eq_getElem?] at e
      obtain ⟨h3, e3⟩ := List.getElem?_eq_some_iff.mp e
      by_cases c : k = l.length - 1
      · subst c; omega
      · have := List.pairwise_iff_getElem.mp h k (l.length - 1) hk h3 (by omega)
        omega
    omega
theorem Asc.take {l : List Nat} (h : Asc l) (k : Nat) : Asc (l.take k) := List.Pairwise.sublist (List.take_sublist k l) h
theorem pow40 : (10 : Nat) ^ 40 < 2 ^ 140 := by decide +kernel
theorem rep_nvB {K : PySem.W.Frag} {H : Hp} {a : Addr} {l : List Nat} {G : Str → Prop} (h : SqL K H a (nv l)) (hp : ∀ p ∈ l, p < 2 ^ 140) (hl : l.length ≤ 100) (q : G (PyData.list (l.map fun (p : Nat) => .int (p : Int))).shown) : RepQ K (.ref a) H G := by
  refine ⟨_, Dq.lst h (DqAll.of (dp_nv l)), ?_, q⟩
  have := Shw.lst (n := 141) (k := 1) (ds := l.map fun (p : Nat) => PyData.int (p : Int)) (fun x hx => by
    obtain ⟨p, hp2, rfl⟩ := List.mem_map.mp hx
    exact (Shw.int (k := 140) (by decide) (by decide) (by have := hp p hp2; rw [Int.natAbs_natCast]; exact this)))
  rw [List.length_map] at this
  exact this.q.up (by omega) (by decide)
theorem ne_nvB {K : PySem.W.Frag} {H : Hp} {a b : Addr} {l : List Nat} {Q : VK} (h : SqL K H a (nv l)) (h2 : SqL K H b (nv l)) (q : Q (.bl false) H) : rNeD K (.ref a) (.ref b) H Q := by
  have g : Eqd 2 (.list (l.map fun (p : Nat) => .int (p : Int))) := Eqd.lst fun d hd => by obtain ⟨x, hx, rfl⟩ := List.mem_map.mp hd; exact Eqd.int _
  refine NeD.of (.lst h (dp_nv l)) (.lst h2 (dp_nv l)) (g.sh (by decide)) (g.sh (by decide)) ?_
  rw [SeqAt.eqv_refl _ g.c]
  exact q
theorem eq_nvB {K : PySem.W.Frag} {H : Hp} {a b : Addr} {l : List Nat} {Q : VK} (h : SqL K H a (nv l)) (h2 : SqL K H b (nv l)) (q : Q (.bl true) H) : rEqL K (.ref a) (.ref b) H Q := by
  have g : Eqd 2 (.list (l.map fun (p : Nat) => .int (p : Int))) := Eqd.lst fun d hd => by obtain ⟨x, hx, rfl⟩ := List.mem_map.mp hd; exact Eqd.int _
  refine Or.inl (EqD.of (.lst h (dp_nv l)) (.lst h2 (dp_nv l)) (g.sh (by decide)) (g.sh (by decide)) ?_)
  rw [SeqAt.eqv_refl _ g.c]
  exact q
/-! ### rows of a diagonal -/
/-- in which ways those that enter a cell go on -/
def ways (e : Nat) (l : Bool) : List (Nat × Nat) := if l = true then (List.range e).map fun r => (r, e - 1 - r) else if e = 0 then [(0, 0)] else (List.range (e - 1)).map fun r => (r + 1, e - (r + 1))
theorem ways_mem {e : Nat} {l : Bool} {r d : Nat} : (r, d) ∈ ways e l ↔ (l = true ∧ r + d + 1 = e) ∨ (l = false ∧ r + d = e ∧ (e = 0 ∨ (0 < r ∧ 0 < d))) := by
  unfold ways
  cases l with
  | true =>
    rw [if_pos rfl, List.mem_map]
    constructor
    · rintro ⟨a, ha, h⟩
      have := List.mem_range.mp ha
      cases h
      exact Or.inl ⟨rfl, by omega⟩
    · rintro (⟨_, h⟩ | ⟨h, _⟩)
      · exact ⟨r, List.mem_range.mpr (by omega), by rw [show e - 1 - r = d by omega]⟩
      · cases h
  | false =>
    rw [if_neg Bool.false_ne_true]
    split
    · rename_i e0
      rw [List.mem_singleton]
      constructor
      · intro h; cases h; exact Or.inr ⟨rfl, by omega, Or.inl e0⟩
      · rintro (⟨h, _⟩ | ⟨_, h, _⟩)
        · cases h
        · rw [show r = 0 by omega, show d = 0 by omega]
    · rename_i e0
      rw [List.mem_map]
      constructor
      · rintro ⟨a, ha, h⟩
        have := List.mem_range.mp ha
        cases h
        exact Or.inr ⟨rfl, by omega, Or.inr ⟨by omega, by omega⟩⟩
      · rintro (⟨h, _⟩ | ⟨_, h, h2⟩)
        · cases h
        · rcases h2 with h2 | ⟨h2, h3⟩
          · exact absurd h2 e0
          · exact ⟨r - 1, List.mem_range.mpr (by omega), by rw [show r - 1 + 1 = r by omega, show e - r = d by omega]⟩
theorem ways_len (e : Nat) (l : Bool) : (ways e l).length ≤ 2 ^ e := by
  have h : e ≤ 2 ^ e := Nat.le_of_lt Nat.lt_two_pow_self
  unfold ways
  split
  · rw [List.length_map, List.length_range]; exact h
  · split
    · rename_i e0; rw [e0]; decide
    · rw [List.length_map, List.length_range]; omega
/-- what a way of walking must keep -/
structure WayOk (wf : Nat → Bool → List (Nat × Nat)) : Prop where
  le : ∀ {e l r d}, (r, d) ∈ wf e l → r + d ≤ e
  lt : ∀ {e l r d}, 0 < e → (r, d) ∈ wf e l → r < e ∧ d < e
  len : ∀ e l, (wf e l).length ≤ 2 ^ e
theorem ways_ok : WayOk ways := ⟨fun {e l r d} h => by rcases ways_mem.mp h with ⟨_, h⟩ | ⟨_, h, _⟩ <;> omega, fun {e l r d} h0 h => by rcases ways_mem.mp h with ⟨_, h⟩ | ⟨_, h, h2⟩ <;> omega, ways_len⟩
def ext (a : List Nat) (r d : Nat) : List Nat := a.dropLast ++ [a.getLastD 0 + d, r]
/-- the row that a choice of ways gives -/
def mg : Nat → List (Nat × Nat) → List Nat
  | k, [] => [k]
  | k, (r, d) :: c => (k + d) :: mg r c
theorem ext_snoc (pre : List Nat) (k r d : Nat) : ext (pre ++ [k]) r d = (pre ++ [k + d]) ++ [r] := by
  unfold ext
  rw [List.dropLast_concat]
  simp
theorem fold_ext : ∀ (c : List (Nat × Nat)) (pre : List Nat) (k : Nat), c.foldl (fun a rd => ext a rd.1 rd.2) (pre ++ [k]) = pre ++ mg k c
  | [], _, _ => rfl
  | (r, d) :: c, pre, k => by
    rw [List.foldl_cons, ext_snoc, fold_ext c]
    show _ = pre ++ ((k + d) :: mg r c)
    rw [List.append_assoc]
    rfl
theorem mg_len : ∀ (c : List (Nat × Nat)) (k : Nat), (mg k c).length = c.length + 1
  | [], _ => rfl
  | (r, d) :: c, k => by show (mg r c).length + 1 = _; rw [mg_len c r]; rfl
theorem mg_sum : ∀ (c : List (Nat × Nat)) (k : Nat), (mg k c).sum = k + (c.map fun rd => rd.1 + rd.2).sum
  | [], k => by show k + 0 = k + 0; rfl
  | (r, d) :: c, k => by
    show ((k + d) :: mg r c).sum = _
    rw [List.sum_cons, mg_sum c r, List.map_cons, List.sum_cons]
    dsimp only
    omega
/-- a choice that fits to a row -/
def Fits (wf : Nat → Bool → List (Nat × Nat)) : List Nat → List Bool → List (Nat × Nat) → Prop
  | e :: row, l :: ls, rd :: c => rd ∈ wf e l ∧ Fits wf row ls c
  | [], [], [] => True
  | _, _, _ => False
/-- the rows that can follow, as the law makes them -/
def rowsGo (wf : Nat → Bool → List (Nat × Nat)) : List Nat → List Bool → List (List Nat) → List (List Nat)
  | e :: row, l :: ls, acc => rowsGo wf row ls (acc.flatMap fun a => (wf e l).map fun rd => ext a rd.1 rd.2)
  | _, _, acc => acc
def rowsFrom (wf : Nat → Bool → List (Nat × Nat)) (row : List Nat) (ls : List Bool) : List (List Nat) := rowsGo wf row ls [[0]]
theorem rowsGo_mem {wf : Nat → Bool → List (Nat × Nat)} : ∀ {row : List Nat} {ls : List Bool}, row.length = ls.length → ∀ {acc : List (List Nat)} {x : List Nat}, x ∈ rowsGo wf row ls acc ↔ ∃ a ∈ acc, ∃ c, Fits wf row ls c ∧ x = c.foldl (fun a rd => ext a rd.1 rd.2) a
  | [], [], _, acc, x => by
    constructor
    · intro h; exact ⟨x, h, [], trivial, rfl⟩
    · rintro ⟨a, ha, c, hc, rfl⟩
      cases c with
      | nil => exact ha
      | cons _ _ => exact hc.elim
  | e :: row, l :: ls, hl, acc, x => by
    show x ∈ rowsGo wf row ls _ ↔ _
    rw [rowsGo_mem (by simpa using hl)]
    constructor
    · rintro ⟨b, hb, c, hc, rfl⟩
      obtain ⟨a, ha, hb⟩ := List.mem_flatMap.mp hb
      obtain ⟨rd, hrd, rfl⟩ := List.mem_map.mp hb
      exact ⟨a, ha, rd :: c, ⟨hrd, hc⟩, rfl⟩
    · rintro ⟨a, ha, c, hc, rfl⟩
      cases c with
      | nil => exact hc.elim
      | cons rd c => exact ⟨_, List.mem_flatMap.mpr ⟨a, ha, List.mem_map.mpr ⟨rd, hc.1, rfl⟩⟩, c, hc.2, rfl⟩
theorem rows_mem {wf : Nat → Bool → List (Nat × Nat)} {row : List Nat} {ls : List Bool} (hl : row.length = ls.length) {x : List Nat} : x ∈ rowsFrom wf row ls ↔ ∃ c, Fits wf row ls c ∧ x = mg 0 c := by
  unfold rowsFrom
  rw [rowsGo_mem hl]
  constructor
  · rintro ⟨a, ha, c, hc, rfl⟩
    rw [List.mem_singleton.mp ha]
    exact ⟨c, hc, fold_ext c [] 0⟩
  · rintro ⟨c, hc, rfl⟩
    exact ⟨[0], List.mem_singleton.mpr rfl, c, hc, (fold_ext c [] 0).symm⟩
theorem Fits.len {wf : Nat → Bool → List (Nat × Nat)} : ∀ {row : List Nat} {ls : List Bool} {c : List (Nat × Nat)}, Fits wf row ls c → c.length = row.length ∧ ls.length = row.length
  | [], [], [], _ => ⟨rfl, rfl⟩
  | e :: row, l :: ls, rd :: c, h => by
    obtain ⟨h1, h2⟩ := Fits.len h.2
    exact ⟨congrArg (· + 1) h1, congrArg (· + 1) h2⟩
  | [], [], _ :: _, h => h.elim
  | [], _ :: _, _, h => h.elim
  | _ :: _, [], _, h => h.elim
  | _ :: _, _ :: _, [], h => h.elim
theorem Fits.sum {wf : Nat → Bool → List (Nat × Nat)} (ok : WayOk wf) : ∀ {row : List Nat} {ls : List Bool} {c : List (Nat × Nat)}, Fits wf row ls c → (c.map fun rd => rd.1 + rd.2).sum ≤ row.sum
  | [], [], [], _ => Nat.le_refl _
  | e :: row, l :: ls, (r, d) :: c, h => by
    have h1 := Fits.sum ok h.2
    have h2 := ok.le h.1
    rw [List.map_cons, List.sum_cons, List.sum_cons]
    dsimp only
    omega
  | [], [], _ :: _, h => h.elim
  | [], _ :: _, _, h => h.elim
  | _ :: _, [], _, h => h.elim
  | _ :: _, _ :: _, [], h => h.elim
def nls (ls : List Bool) : Nat := ls.countP (· = true)
theorem Fits.total : ∀ {row : List Nat} {ls : List Bool} {c : List (Nat × Nat)}, Fits ways row ls c → (c.map fun rd => rd.1 + rd.2).sum + nls ls = row.sum
  | [], [], [], _ => rfl
  | e :: row, l :: ls, (r, d) :: c, h => by
    have h1 := Fits.total h.2
    unfold nls at h1 ⊢
    rw [List.countP_cons, List.map_cons, List.sum_cons, List.sum_cons]
    dsimp only
    rcases ways_mem.mp h.1 with ⟨z, h2⟩ | ⟨z, h2, _⟩
    · subst z; simp only [decide_true, if_true]; omega
    · subst z; simp only [Bool.false_eq_true, decide_false, if_false]; omega
  | [], [], _ :: _, h => h.elim
  | [], _ :: _, _, h => h.elim
  | _ :: _, [], _, h => h.elim
  | _ :: _, _ :: _, [], h => h.elim
theorem rowsGo_len {wf : Nat → Bool → List (Nat × Nat)} (ok : WayOk wf) : ∀ (row : List Nat) (ls : List Bool) (acc : List (List Nat)), (rowsGo wf row ls acc).length ≤ acc.length * 2 ^ row.sum
  | [], _, acc => by
    show acc.length ≤ acc.length * 2 ^ 0
    omega
  | e :: row, [], acc => by
    show acc.length ≤ _
    exact Nat.le_mul_of_pos_right _ (Nat.two_pow_pos _)
  | e :: row, l :: ls, acc => by
    have h1 := rowsGo_len ok row ls (acc.flatMap fun a => (wf e l).map fun rd => ext a rd.1 rd.2)
    have h2 : (acc.flatMap fun a => (wf e l).map fun rd => ext a rd.1 rd.2).length ≤ acc.length * 2 ^ e := by
      rw [List.length_flatMap]
      have := ok.len e l
      generalize 2 ^ e = m at *
      clear h1
      induction acc with
      | nil => exact Nat.zero_le _
      | cons a r ih =>
        rw [List.map_cons, List.sum_cons, List.length_map, List.length_cons, Nat.add_mul]
        omega
    show (rowsGo wf row ls _).length ≤ acc.length * 2 ^ (e + row.sum)
    rw [Nat.pow_add, ← Nat.mul_assoc]
    exact Nat.le_trans h1 (Nat.mul_le_mul_right _ h2)
/-! ### how few come to a cell -/
def psum (f : Nat → Nat) : Nat → Nat
  | 0 => 0
  | n + 1 => psum f n + f n
theorem psum_mono {f : Nat → Nat} {i j : Nat} (h : i ≤ j) : psum f i ≤ psum f j := by
  induction j with
  | zero => rw [Nat.le_zero.mp h]; exact Nat.le_refl _
  | succ j ih =>
    rcases Nat.lt_or_ge i (j + 1) with c | c
    · exact Nat.le_trans (ih (by omega)) (Nat.le_add_right _ _)
    · rw [show i = j + 1 by omega]; exact Nat.le_refl _
def Few (n t : Nat) (f : Nat → Nat) : Prop := ∀ i j, i ≤ j → psum f i < psum f j → psum f j + t + 1 ≤ psum f i + n + (j - i)
theorem few_next {n t : Nat} {e r d g : Nat → Nat} (h : Few n t e) (h1 : ∀ k, r k + d k ≤ e k) (h2 : ∀ k, 0 < e k → r k < e k ∧ d k < e k) (g0 : g 0 = d 0) (g1 : ∀ k, g (k + 1) = d (k + 1) + r k) : Few n (t + 1) g := by
  have ps : ∀ j, psum g (j + 1) = psum d (j + 1) + psum r j := by
    intro j
    induction j with
    | zero => show 0 + g 0 = 0 + d 0 + 0; rw [g0]; omega
    | succ j ih =>
      show psum g (j + 1) + g (j + 1) = psum d (j + 1) + d (j + 1) + (psum r j + r j)
      rw [ih, g1]; omega
  have both : ∀ i j, i ≤ j → psum d j + psum r j + psum e i ≤ psum d i + psum r i + psum e j := by
    intro i j hij
    induction j with
    | zero => rw [Nat.le_zero.mp hij]; omega
    | succ j ih =>
      rcases Nat.lt_or_ge i (j + 1) with c | c
      · have := ih (by omega)
        have := h1 j
        show psum d j + d j + (psum r j + r j) + psum e i ≤ psum d i + psum r i + (psum e j + e j)
        omega
      · rw [show i = j + 1 by omega]; omega
  have z0 : ∀ k, e k = 0 → r k = 0 ∧ d k = 0 := fun k hk => by have := h1 k; omega
  intro i j hij hlt
  obtain ⟨j, rfl⟩ : ∃ j', j = j' + 1 := by
    cases j with
    | zero => rw [Nat.le_zero.mp hij] at hlt; omega
    | succ j => exact ⟨j, rfl⟩
  have hi : i ≤ j := by
    rcases Nat.lt_or_ge j i with c | c
    · rw [show i = j + 1 by omega] at hlt; omega
    · exact c
  rw [ps] at hlt ⊢
  have hb := both i j hi
  have pd : psum d (j + 1) = psum d j + d j := rfl
  have pe : psum e (j + 1) = psum e j + e j := rfl
  cases i with
  | zero =>
    have e0 : psum g 0 = 0 := rfl
    have a0 : psum d 0 = 0 := rfl
    have b0 : psum r 0 = 0 := rfl
    have c0 : psum e 0 = 0 := rfl
    by_cases cj : 0 < e j
    · have q := h 0 (j + 1) (by omega)
      have := (h2 j cj).2
      omega
    · have := z0 j (by omega)
      have q := h 0 j (by omega)
      omega
  | succ i =>
    rw [ps] at hlt ⊢
    have pr : psum r (i + 1) = psum r i + r i := rfl
    have pi : psum e (i + 1) = psum e i + e i := rfl
    by_cases ci : 0 < e i
    · have r1 := (h2 i ci).1
      by_cases cj : 0 < e j
      · have q := h i (j + 1) (by omega)
        have := (h2 j cj).2
        omega
      · have := z0 j (by omega)
        have q := h i j (by omega)
        omega
    · have r1 := z0 i (by omega)
      by_cases cj : 0 < e j
      · have q := h (i + 1) (j + 1) (by omega)
        have := (h2 j cj).2
        omega
      · have := z0 j (by omega)
        have q := h (i + 1) j (by omega)
        omega
theorem few_first (n : Nat) : Few n 0 fun k => [n].getD k 0 := by
  have ps : ∀ j, psum (fun k => [n].getD k 0) (j + 1) = n := by
    intro j
    induction j with
    | zero => show 0 + n = n; omega
    | succ j ih => show psum _ (j + 1) + 0 = n; rw [ih]; omega
  intro i j hij hlt
  cases j with
  | zero => rw [Nat.le_zero.mp hij] at hlt; omega
  | succ j =>
    cases i with
    | zero => rw [ps] at hlt ⊢; show n + 0 + 1 ≤ 0 + n + _; omega
    | succ i => rw [ps, ps] at hlt; omega
theorem few_cell {n t k : Nat} {f : Nat → Nat} (h : Few n t f) (h0 : 0 < f k) : f k + t ≤ n := by
  have := h k (k + 1) (by omega)
  have e : psum f (k + 1) = psum f k + f k := rfl
  omega
theorem mg_at : ∀ (c : List (Nat × Nat)) (k j : Nat), (mg k c).getD j 0 = (c.map Prod.snd).getD j 0 + (k :: c.map Prod.fst).getD j 0
  | [], k, 0 => (Nat.zero_add k).symm
  | [], k, j + 1 => rfl
  | (r, d) :: c, k, 0 => Nat.add_comm k d
  | (r, d) :: c, k, j + 1 => by
    show (mg r c).getD j 0 = (c.map Prod.snd).getD j 0 + (r :: c.map Prod.fst).getD j 0
    exact mg_at c r j
theorem Fits.at {wf : Nat → Bool → List (Nat × Nat)} (ok : WayOk wf) : ∀ {row : List Nat} {ls : List Bool} {c : List (Nat × Nat)}, Fits wf row ls c → ∀ k, (c.map Prod.fst).getD k 0 + (c.map Prod.snd).getD k 0 ≤ row.getD k 0 ∧ (0 < row.getD k 0 → (c.map Prod.fst).getD k 0 < row.getD k 0 ∧ (c.map Prod.snd).getD k 0 < row.getD k 0)
  | [], [], [], _, k => ⟨Nat.le_refl _, fun h => absurd h (Nat.lt_irrefl 0)⟩
  | e :: row, l :: ls, (r, d) :: c, h, 0 => ⟨ok.le h.1, fun h0 => ok.lt h0 h.1⟩
  | e :: row, l :: ls, (r, d) :: c, h, k + 1 => Fits.at ok (row := row) h.2 k
  | [], [], _ :: _, h, _ => h.elim
  | [], _ :: _, _, h, _ => h.elim
  | _ :: _, [], _, h, _ => h.elim
  | _ :: _, _ :: _, [], h, _ => h.elim
abbrev FewR (n t : Nat) (row : List Nat) : Prop := Few n t fun k => row.getD k 0
theorem few_row {wf : Nat → Bool → List (Nat × Nat)} (ok : WayOk wf) {n t : Nat} {row : List Nat} {ls : List Bool} {c : List (Nat × Nat)} (h : FewR n t row) (f : Fits wf row ls c) : FewR n (t + 1) (mg 0 c) := by
  refine few_next (e := fun k => row.getD k 0) (r := fun k => (c.map Prod.fst).getD k 0) (d := fun k => (c.map Prod.snd).getD k 0) h (fun k => (f.at ok k).1) (fun k => (f.at ok k).2) ?_ fun k => ?_
  · rw [mg_at]
    show _ + 0 = _
    omega
  · rw [mg_at]
    rfl
theorem zero_row {n t : Nat} {row : List Nat} (h : FewR n t row) (ht : n ≤ t) : row.sum = 0 := by
  have all : ∀ k, row.getD k 0 = 0 := fun k => by
    rcases Nat.eq_zero_or_pos (row.getD k 0) with c | c
    · exact c
    · have := few_cell (f := fun k => row.getD k 0) h (k := k) c
      omega
  clear h
  induction row with
  | nil => rfl
  | cons a r ih =>
    rw [List.sum_cons, ih fun k => all (k + 1)]
    have : a = 0 := all 0
    omega
/-! ### the stages, as the program keeps them -/
abbrev Way := List (Nat × Nat × Nat)
abbrev Stg := List (List Nat × Way)
def hasA (f : Stg) (k : List Nat) : Bool := f.any fun kv => decide (kv.1 = k)
def putA (f : Stg) (k : List Nat) (v : Way) : Stg := if hasA f k = true then f.map (fun kv => if kv.1 = k then (kv.1, v) else kv) else f ++ [(k, v)]
def wayPut (e : Nat) (lw : List Nat × Way) (acc : Stg) (rd : Nat × Nat) : Stg := putA acc (ext lw.1 rd.1 rd.2) (lw.2 ++ [(e, rd.1, rd.2)])
def wayOne (wf : Nat → Bool → List (Nat × Nat)) (e : Nat) (l : Bool) (acc : Stg) (lw : List Nat × Way) : Stg := (wf e l).foldl (wayPut e lw) acc
def wayCell (wf : Nat → Bool → List (Nat × Nat)) (e : Nat) (l : Bool) (f : Stg) : Stg := f.foldl (wayOne wf e l) []
def waysGo (wf : Nat → Bool → List (Nat × Nat)) : List Nat → List Bool → Stg → Stg
  | e :: row, l :: ls, f => waysGo wf row ls (wayCell wf e l f)
  | _, _, f => f
def waysFrom (wf : Nat → Bool → List (Nat × Nat)) (row : List Nat) (ls : List Bool) : Stg := waysGo wf row ls [([0], [])]
def stAdd (acc : Stg) (lw : List Nat × Way) : Stg := if hasA acc lw.1 = true then acc else acc ++ [lw]
def stAfter (wf : Nat → Bool → List (Nat × Nat)) (rows : List (List Nat)) (ls : List Bool) : Stg := rows.foldl (fun acc row => (waysFrom wf row ls).foldl stAdd acc) []
def lsAt (nm : Nat → Bool) (t : Nat) : List Bool := (List.range (t + 1)).map fun i => nm (t * (t + 1) / 2 + i)
def stagesGo (wf : Nat → Bool → List (Nat × Nat)) (nm : Nat → Bool) : Nat → Nat → List (List Nat) → List Stg
  | 0, _, _ => []
  | k + 1, t, rows => stAfter wf rows (lsAt nm t) :: (if stAfter wf rows (lsAt nm t) = [] then [] else stagesGo wf nm k (t + 1) ((stAfter wf rows (lsAt nm t)).map Prod.fst))
def stagesOf (wf : Nat → Bool → List (Nat × Nat)) (nm : Nat → Bool) (n : Nat) : List Stg := stagesGo wf nm n 0 [[n]]
theorem hasA_iff {f : Stg} {k : List Nat} : hasA f k = true ↔ k ∈ f.map Prod.fst := by
  unfold hasA
  rw [List.any_eq_true, List.mem_map]
  constructor
  · rintro ⟨x, h1, h2⟩; exact ⟨x, h1, by simpa using h2⟩
  · rintro ⟨x, h1, h2⟩; exact ⟨x, h1, by simpa using h2⟩
theorem putA_keys {f : Stg} {k : List Nat} {v : Way} : (putA f k v).map Prod.fst = if hasA f k = true then f.map Prod.fst else f.map Prod.fst ++ [k] := by
  unfold putA
  split
  · rw [List.map_map]
    refine List.map_congr_left fun x _ => ?_
    show (if x.1 = k then (x.1, v) else x).1 = x.1
    split <;> rfl
  · rw [List.map_append]; rfl
theorem putA_mem {f : Stg} {k x : List Nat} {v : Way} : x ∈ (putA f k v).map Prod.fst ↔ x = k ∨ x ∈ f.map Prod.fst := by
  rw [putA_keys]
  split
  · rename_i h
    constructor
    · exact Or.inr
    · rintro (rfl | h2)
      · exact hasA_iff.mp h
      · exact h2
  · rw [List.mem_append, List.mem_singleton]; exact Or.comm
theorem putA_nodup {f : Stg} {k : List Nat} {v : Way} (h : (f.map Prod.fst).Nodup) : ((putA f k v).map Prod.fst).Nodup := by
  rw [putA_keys]
  split
  · exact h
  · rename_i c
    rw [List.nodup_append]
    refine ⟨h, List.nodup_cons.mpr ⟨List.not_mem_nil, List.nodup_nil⟩, fun a ha b hb e => ?_⟩
    rw [List.mem_singleton.mp hb] at e
    rw [e] at ha
    exact c (hasA_iff.mpr ha)
theorem stAdd_mem {f : Stg} {lw : List Nat × Way} {x : List Nat} : x ∈ (stAdd f lw).map Prod.fst ↔ x = lw.1 ∨ x ∈ f.map Prod.fst := by
  unfold stAdd
  split
  · rename_i h
    constructor
    · exact Or.inr
    · rintro (rfl | h2)
      · exact hasA_iff.mp h
      · exact h2
  · rw [List.map_append, List.mem_append]
    show _ ∨ x ∈ [lw.1] ↔ _
    rw [List.mem_singleton]; exact Or.comm
theorem stAdd_nodup {f : Stg} {lw : List Nat × Way} (h : (f.map Prod.fst).Nodup) : ((stAdd f lw).map Prod.fst).Nodup := by
  unfold stAdd
  split
  · exact h
  · rename_i c
    rw [List.map_append, List.nodup_append]
    refine ⟨h, List.nodup_cons.mpr ⟨List.not_mem_nil, List.nodup_nil⟩, fun a ha b hb e => ?_⟩
    rw [List.mem_singleton.mp hb] at e
    rw [e] at ha
    exact c (hasA_iff.mpr ha)
theorem fold_mem {α : Type} {F : Stg → α → Stg} {G : α → List Nat → Prop} (h : ∀ f a x, x ∈ (F f a).map Prod.fst ↔ G a x ∨ x ∈ f.map Prod.fst) : ∀ (l : List α) (f : Stg) (x : List Nat), x ∈ (l.foldl F f).map Prod.fst ↔ (∃ a ∈ l, G a x) ∨ x ∈ f.map Prod.fst
  | [], f, x => by simp
  | a :: r, f, x => by
    rw [List.foldl_cons, fold_mem h r, h]
    constructor
    · rintro (⟨b, hb, hg⟩ | hg | hx)
      · exact Or.inl ⟨b, List.mem_cons_of_mem _ hb, hg⟩
      · exact Or.inl ⟨a, List.mem_cons_self, hg⟩
      · exact Or.inr hx
    · rintro (⟨b, hb, hg⟩ | hx)
      · rcases List.mem_cons.mp hb with rfl | hb
        · exact Or.inr (Or.inl hg)
        · exact Or.inl ⟨b, hb, hg⟩
      · exact Or.inr (Or.inr hx)
theorem fold_keep {α : Type} {F : Stg → α → Stg} {P : Stg → Prop} (h : ∀ f a, P f → P (F f a)) : ∀ (l : List α) (f : Stg), P f → P (l.foldl F f)
  | [], _, p => p
  | a :: r, f, p => fold_keep h r _ (h f a p)
theorem wayOne_mem {wf : Nat → Bool → List (Nat × Nat)} {e : Nat} {l : Bool} {f : Stg} {lw : List Nat × Way} {x : List Nat} : x ∈ (wayOne wf e l f lw).map Prod.fst ↔ (∃ rd ∈ wf e l, x = ext lw.1 rd.1 rd.2) ∨ x ∈ f.map Prod.fst :=
  fold_mem (F := wayPut e lw) (G := fun (rd : Nat × Nat) x => x = ext lw.1 rd.1 rd.2) (fun _ _ _ => putA_mem) _ _ _
theorem wayCell_mem {wf : Nat → Bool → List (Nat × Nat)} {e : Nat} {l : Bool} {f : Stg} {x : List Nat} : x ∈ (wayCell wf e l f).map Prod.fst ↔ ∃ a ∈ f.map Prod.fst, ∃ rd ∈ wf e l, x = ext a rd.1 rd.2 := by
  unfold wayCell
  rw [fold_mem (G := fun lw x => ∃ rd ∈ wf e l, x = ext lw.1 rd.1 rd.2) (fun f a x => wayOne_mem)]
  constructor
  · rintro (⟨lw, h, r⟩ | h)
    · exact ⟨lw.1, List.mem_map.mpr ⟨lw, h, rfl⟩, r⟩
    · cases h
  · rintro ⟨a, ha, r⟩
    obtain ⟨lw, h, rfl⟩ := List.mem_map.mp ha
    exact Or.inl ⟨lw, h, r⟩
theorem waysGo_mem {wf : Nat → Bool → List (Nat × Nat)} : ∀ (row : List Nat) (ls : List Bool) (f : Stg) (acc : List (List Nat)), (∀ x, x ∈ f.map Prod.fst ↔ x ∈ acc) → ∀ x, x ∈ (waysGo wf row ls f).map Prod.fst ↔ x ∈ rowsGo wf row ls acc
  | [], _, _, _, h, x => h x
  | _ :: _, [], _, _, h, x => h x
  | e :: row, l :: ls, f, acc, h, x => by
    refine waysGo_mem row ls _ _ (fun y => ?_) x
    rw [wayCell_mem, List.mem_flatMap]
    constructor
    · rintro ⟨a, ha, rd, hrd, rfl⟩
      exact ⟨a, (h a).mp ha, List.mem_map.mpr ⟨rd, hrd, rfl⟩⟩
    · rintro ⟨a, ha, hy⟩
      obtain ⟨rd, hrd, rfl⟩ := List.mem_map.mp hy
      exact ⟨a, (h a).mpr ha, rd, hrd, rfl⟩
theorem waysFrom_mem {wf : Nat → Bool → List (Nat × Nat)} {row : List Nat} {ls : List Bool} {x : List Nat} : x ∈ (waysFrom wf row ls).map Prod.fst ↔ x ∈ rowsFrom wf row ls := waysGo_mem row ls _ _ (fun _ => Iff.rfl) x
theorem stAfter_mem {wf : Nat → Bool → List (Nat × Nat)} {rows : List (List Nat)} {ls : List Bool} {x : List Nat} : x ∈ (stAfter wf rows ls).map Prod.fst ↔ ∃ row ∈ rows, x ∈ rowsFrom wf row ls := by
  unfold stAfter
  rw [fold_mem (G := fun row x => x ∈ rowsFrom wf row ls) (fun f row x => ?_)]
  · simp
  · rw [fold_mem (G := fun lw x => x = lw.1) (fun _ _ _ => stAdd_mem), ← waysFrom_mem]
    constructor
    · rintro (⟨a, h, rfl⟩ | h)
      · exact Or.inl (List.mem_map.mpr ⟨a, h, rfl⟩)
      · exact Or.inr h
    · rintro (h | h)
      · obtain ⟨a, h2, h3⟩ := List.mem_map.mp h
        exact Or.inl ⟨a, h2, h3.symm⟩
      · exact Or.inr h
/-! ### few rows -/
def boxes : Nat → Nat → List (List Nat)
  | _, 0 => [[]]
  | n, k + 1 => (List.range (n + 1)).flatMap fun a => (boxes (n - a) k).map (a :: ·)
def cbox : Nat → Nat → Nat
  | _, 0 => 1
  | n, k + 1 => ((List.range (n + 1)).map fun a => cbox (n - a) k).sum
theorem boxes_mem : ∀ {k n : Nat} {x : List Nat}, x.length = k → x.sum ≤ n → x ∈ boxes n k
  | 0, _, [], _, _ => List.mem_singleton.mpr rfl
  | k + 1, n, a :: r, hl, hs => by
    rw [List.sum_cons] at hs
    exact List.mem_flatMap.mpr ⟨a, List.mem_range.mpr (by omega), List.mem_map.mpr ⟨r, boxes_mem (by simpa using hl) (by omega), rfl⟩⟩
theorem boxes_len : ∀ (k n : Nat), (boxes n k).length = cbox n k
  | 0, _ => rfl
  | k + 1, n => by
    unfold boxes cbox
    rw [List.length_flatMap]
    congr 1
    refine List.map_congr_left fun a _ => ?_
    rw [List.length_map, boxes_len k]
theorem cbox_le : ∀ (k n : Nat), cbox n k ≤ 2 ^ (n + k)
  | 0, n => Nat.two_pow_pos _
  | k + 1, n => by
    have key : ∀ m, m ≤ n + 1 → ((List.range m).map fun a => cbox (n - a) k).sum + 2 ^ (n + 1 - m + k) ≤ 2 ^ (n + 1 + k) := by
      intro m
      induction m with
      | zero => intro _; rw [List.range_zero, List.map_nil, List.sum_nil, Nat.sub_zero, Nat.zero_add]; exact Nat.le_refl _
      | succ m ih =>
        intro hm
        have h1 := ih (by omega)
        have h2 := cbox_le k (n - m)
        rw [List.range_succ, List.map_append, List.sum_append]
        simp only [List.map_cons, List.map_nil, List.sum_cons, List.sum_nil, Nat.add_zero]
        have e : n + 1 - m + k = (n - m + k) + 1 := by omega
        rw [e, Nat.pow_succ] at h1
        rw [show n + 1 - (m + 1) + k = n - m + k by omega]
        omega
    have := key (n + 1) (Nat.le_refl _)
    unfold cbox
    rw [show n + (k + 1) = n + 1 + k by omega]
    exact Nat.le_trans (Nat.le_add_right _ _) this
/-- distinct rows of one length, with few processes -/
structure Good (k : Nat) (f : Stg) : Prop where
  nd : (f.map Prod.fst).Nodup
  bx : ∀ x ∈ f.map Prod.fst, x.length = k ∧ x.sum ≤ 8
theorem rows_few {k : Nat} {l : List (List Nat)} (hk : k ≤ 10) (nd : l.Nodup) (h : ∀ x ∈ l, x.length = k ∧ x.sum ≤ 8) : l.length ≤ 262144 := by
  have := nd.length_le_of_subset (l₂ := boxes 8 k) fun x hx => boxes_mem (h x hx).1 (h x hx).2
  rw [boxes_len] at this
  exact Nat.le_trans this (Nat.le_trans (cbox_le k 8) (Nat.le_trans (Nat.pow_le_pow_right (by decide) (show 8 + k ≤ 18 by omega)) (by decide)))
theorem Good.few {k : Nat} {f : Stg} (h : Good k f) (hk : k ≤ 10) : f.length ≤ 262144 := by
  have := rows_few hk h.nd h.bx
  rwa [List.length_map] at this
theorem Good.put {k : Nat} {f : Stg} {x : List Nat} {v : Way} (h : Good k f) (h1 : x.length = k) (h2 : x.sum ≤ 8) : Good k (putA f x v) := ⟨putA_nodup h.nd, fun y hy => by
  rcases putA_mem.mp hy with rfl | hy
  · exact ⟨h1, h2⟩
  · exact h.bx y hy⟩
theorem Good.add {k : Nat} {f : Stg} {lw : List Nat × Way} (h : Good k f) (h1 : lw.1.length = k) (h2 : lw.1.sum ≤ 8) : Good k (stAdd f lw) := ⟨stAdd_nodup h.nd, fun y hy => by
  rcases stAdd_mem.mp hy with rfl | hy
  · exact ⟨h1, h2⟩
  · exact h.bx y hy⟩
theorem Good.nil (k : Nat) : Good k [] := ⟨List.nodup_nil, fun x h => absurd h List.not_mem_nil⟩
theorem ext_len {a : List Nat} {r d : Nat} (h : 0 < a.length) : (ext a r d).length = a.length + 1 := by
  unfold ext
  rw [List.length_append, List.length_dropLast]
  simp
  omega
theorem row_split {a : List Nat} (h : 0 < a.length) : a = a.dropLast ++ [a.getLastD 0] := by
  cases a with
  | nil => exact absurd h (Nat.lt_irrefl 0)
  | cons x r =>
    have := (List.dropLast_concat_getLast (List.cons_ne_nil x r)).symm
    rw [this]
    simp
theorem nv_split {a : List Nat} (h : 0 < a.length) : nv a = nv a.dropLast ++ [V.int (a.getLastD 0 : Nat)] := by
  have := congrArg nv (row_split h)
  rw [nv_app] at this
  exact this
theorem cut_last (xs : List V) (v : V) : cutV (xs ++ [v]) none (some (-1)) = xs := by
  unfold cutV HT.sIx
  simp
  rw [show (-1 + ((xs.length : Int) + 1)).toNat = xs.length by omega, List.take_left]
theorem ext_sum {a : List Nat} {r d : Nat} (h : 0 < a.length) : (ext a r d).sum = a.sum + r + d := by
  have e : a = a.dropLast ++ [a.getLastD 0] := by
    cases a with
    | nil => exact absurd h (Nat.lt_irrefl 0)
    | cons x r =>
      have := (List.dropLast_concat_getLast (List.cons_ne_nil x r)).symm
      rw [this]
      simp
  unfold ext
  rw [List.sum_append]
  have e2 : a.sum = a.dropLast.sum + a.getLastD 0 := by
    have := congrArg List.sum e
    rw [List.sum_append] at this
    simpa using this
  rw [e2]
  simp
  omega
theorem waysGo_snoc {wf : Nat → Bool → List (Nat × Nat)} {e : Nat} {l : Bool} : ∀ {row : List Nat} {ls : List Bool} {f : Stg}, row.length = ls.length → waysGo wf (row ++ [e]) (ls ++ [l]) f = wayCell wf e l (waysGo wf row ls f)
  | [], [], _, _ => rfl
  | x :: row, y :: ls, f, h => by
    show waysGo wf (row ++ [e]) (ls ++ [l]) (wayCell wf x y f) = wayCell wf e l (waysGo wf row ls (wayCell wf x y f))
    exact waysGo_snoc (by simpa using h)
theorem waysGo_nodup {wf : Nat → Bool → List (Nat × Nat)} : ∀ (row : List Nat) (ls : List Bool) (f : Stg), (f.map Prod.fst).Nodup → ((waysGo wf row ls f).map Prod.fst).Nodup
  | [], _, _, h => h
  | _ :: _, [], _, h => h
  | e :: row, l :: ls, f, h => by
    refine waysGo_nodup row ls _ ?_
    unfold wayCell
    refine fold_keep (P := fun f => (f.map Prod.fst).Nodup) (fun f a h => ?_) _ _ List.nodup_nil
    unfold wayOne
    exact fold_keep (P := fun f => (f.map Prod.fst).Nodup) (fun f a h => putA_nodup h) _ _ h
theorem ways_keys {wf : Nat → Bool → List (Nat × Nat)} (ok : WayOk wf) {row : List Nat} {ls : List Bool} (hl : row.length = ls.length) {x : List Nat} (h : x ∈ (waysFrom wf row ls).map Prod.fst) : x.length = row.length + 1 ∧ x.sum ≤ row.sum := by
  rw [waysFrom_mem, rows_mem hl] at h
  obtain ⟨c, hc, rfl⟩ := h
  rw [mg_len, mg_sum]
  have := hc.len.1
  have := Fits.sum ok hc
  omega
theorem good_ways {wf : Nat → Bool → List (Nat × Nat)} (ok : WayOk wf) {row : List Nat} {ls : List Bool} (hl : row.length = ls.length) (hs : row.sum ≤ 8) : Good (row.length + 1) (waysFrom wf row ls) := ⟨waysGo_nodup _ _ _ (List.nodup_cons.mpr ⟨List.not_mem_nil, List.nodup_nil⟩), fun x hx => by
  have := ways_keys ok hl hx
  omega⟩
theorem putA_all {P : Way → Prop} {f : Stg} {k : List Nat} {v : Way} (h : ∀ x ∈ f, P x.2) (hv : P v) : ∀ x ∈ putA f k v, P x.2 := by
  intro x hx
  unfold putA at hx
  split at hx
  · obtain ⟨y, hy, rfl⟩ := List.mem_map.mp hx
    split
    · exact hv
    · exact h y hy
  · rcases List.mem_append.mp hx with z | z
    · exact h x z
    · rw [List.mem_singleton.mp z]; exact hv
theorem wayOne_wlen {wf : Nat → Bool → List (Nat × Nat)} {e k : Nat} {l : Bool} {lw : List Nat × Way} (h2 : lw.2.length = k) {acc : Stg} (h : ∀ x ∈ acc, x.2.length = k + 1) : ∀ x ∈ wayOne wf e l acc lw, x.2.length = k + 1 := by
  unfold wayOne
  generalize wf e l = rs
  induction rs generalizing acc with
  | nil => exact h
  | cons rd rs ih =>
    rw [List.foldl_cons]
    refine ih ?_
    exact putA_all (P := fun w => w.length = k + 1) h (by rw [List.length_append, h2]; rfl)
theorem wayCell_wlen {wf : Nat → Bool → List (Nat × Nat)} {e k : Nat} {l : Bool} {f : Stg} (h : ∀ x ∈ f, x.2.length = k) : ∀ x ∈ wayCell wf e l f, x.2.length = k + 1 := by
  unfold wayCell
  have go : ∀ (f acc : Stg), (∀ x ∈ f, x.2.length = k) → (∀ x ∈ acc, x.2.length = k + 1) → ∀ x ∈ f.foldl (wayOne wf e l) acc, x.2.length = k + 1 := by
    intro f
    induction f with
    | nil => intro acc _ h; exact h
    | cons a r ih => intro acc h1 h2; exact ih _ (fun x hx => h1 x (List.mem_cons_of_mem _ hx)) (wayOne_wlen (h1 a List.mem_cons_self) h2)
  exact go f [] h fun x hx => absurd hx List.not_mem_nil
theorem waysGo_wlen {wf : Nat → Bool → List (Nat × Nat)} : ∀ (row : List Nat) (ls : List Bool) (f : Stg) (k : Nat), row.length = ls.length → (∀ x ∈ f, x.2.length = k) → ∀ x ∈ waysGo wf row ls f, x.2.length = k + row.length
  | [], [], _, _, _, h => h
  | e :: row, l :: ls, f, k, hl, h => by
    intro x hx
    have := waysGo_wlen row ls _ (k + 1) (by simpa using hl) (wayCell_wlen h) x hx
    rw [List.length_cons]
    omega
theorem waysFrom_wlen {wf : Nat → Bool → List (Nat × Nat)} {row : List Nat} {ls : List Bool} (hl : row.length = ls.length) : ∀ x ∈ waysFrom wf row ls, x.2.length = row.length := by
  intro x hx
  have := waysGo_wlen (wf := wf) row ls [([0], [])] 0 hl (fun x hx => by rw [List.mem_singleton.mp hx]; rfl) x hx
  omega
theorem take_snoc {α : Type} {l : List α} {i : Nat} {p : α} (h : l[i]? = some p) : l.take (i + 1) = l.take i ++ [p] := by rw [List.take_add_one, h]; rfl
theorem sum_take : ∀ (l : List Nat) (i : Nat), (l.take i).sum ≤ l.sum
  | [], i => by rw [List.take_nil]; exact Nat.le_refl _
  | a :: r, 0 => Nat.zero_le _
  | a :: r, i + 1 => by
    have := sum_take r i
    rw [List.take_succ_cons, List.sum_cons, List.sum_cons]
    omega
/-! ### the way back from the stages -/
structure RowOk (n t : Nat) (row : List Nat) : Prop where
  len : row.length = t + 1
  few : FewR n t row
/-- the rows in which they can come to diagonal t -/
def RowAt (wf : Nat → Bool → List (Nat × Nat)) (nm : Nat → Bool) (n : Nat) : Nat → List Nat → Prop
  | 0, row => row = [n]
  | t + 1, row => ∃ r0, RowAt wf nm n t r0 ∧ row ∈ rowsFrom wf r0 (lsAt nm t)
theorem lsAt_len (nm : Nat → Bool) (t : Nat) : (lsAt nm t).length = t + 1 := by unfold lsAt; rw [List.length_map, List.length_range]
theorem RowAt.ok {wf : Nat → Bool → List (Nat × Nat)} (w : WayOk wf) {nm : Nat → Bool} {n : Nat} : ∀ {t : Nat} {row : List Nat}, RowAt wf nm n t row → RowOk n t row ∧ row.sum ≤ n
  | 0, row, h => by
    have h : row = [n] := h
    subst h
    exact ⟨⟨rfl, few_first n⟩, by simp⟩
  | t + 1, row, ⟨r0, h, hr⟩ => by
    obtain ⟨⟨l0, f0⟩, s0⟩ := RowAt.ok w h
    rw [rows_mem (by rw [l0, lsAt_len])] at hr
    obtain ⟨c, hc, rfl⟩ := hr
    refine ⟨⟨by rw [mg_len, hc.len.1, l0], few_row w f0 hc⟩, ?_⟩
    rw [mg_sum]
    have := Fits.sum w hc
    omega
theorem RowAt.total {nm : Nat → Bool} {n : Nat} : ∀ {t : Nat} {row : List Nat}, RowAt ways nm n t row → row.sum + ((List.range t).map fun k => nls (lsAt nm k)).sum = n
  | 0, row, h => by
    have h : row = [n] := h
    subst h
    simp
  | t + 1, row, ⟨r0, h, hr⟩ => by
    have := RowAt.total h
    obtain ⟨⟨l0, _⟩, _⟩ := RowAt.ok ways_ok h
    rw [rows_mem (by rw [l0, lsAt_len])] at hr
    obtain ⟨c, hc, rfl⟩ := hr
    have ht := hc.total
    rw [mg_sum, List.range_succ, List.map_append, List.sum_append]
    simp only [List.map_cons, List.map_nil, List.sum_cons, List.sum_nil]
    omega
/-- where it is stuck -/
def IsStuck (nm : Nat → Bool) (n : Nat) : Option Nat → Prop
  | some t => t < n ∧ (∀ k, k ≤ t → ∃ row, RowAt ways nm n k row) ∧ ¬ ∃ row, RowAt ways nm n (t + 1) row
  | none => ∀ k, k ≤ n → ∃ row, RowAt ways nm n k row
theorem IsStuck.inj {nm : Nat → Bool} {n : Nat} : ∀ {a b : Option Nat}, IsStuck nm n a → IsStuck nm n b → a = b
  | some s, some t, ⟨_, h1, h2⟩, ⟨_, h3, h4⟩ => by
    rcases Nat.lt_trichotomy s t with c | c | c
    · exact absurd (h3 (s + 1) (by omega)) h2
    · rw [c]
    · exact absurd (h1 (t + 1) (by omega)) h4
  | some s, none, ⟨l, _, h2⟩, h => absurd (h (s + 1) (by omega)) h2
  | none, some s, h, ⟨l, _, h2⟩ => absurd (h (s + 1) (by omega)) h2
  | none, none, _, _ => rfl
def stkIn (ss : List Stg) : Option Nat := if ss.getLast? = some [] then some (ss.length - 1) else none
theorem stAfter_at {wf : Nat → Bool → List (Nat × Nat)} {nm : Nat → Bool} {n t : Nat} {rows : List (List Nat)} (h : ∀ x, x ∈ rows ↔ RowAt wf nm n t x) (x : List Nat) : x ∈ (stAfter wf rows (lsAt nm t)).map Prod.fst ↔ RowAt wf nm n (t + 1) x := by
  rw [stAfter_mem]
  constructor
  · rintro ⟨r, hr, hx⟩; exact ⟨r, (h r).mp hr, hx⟩
  · rintro ⟨r, hr, hx⟩; exact ⟨r, (h r).mpr hr, hx⟩
theorem stagesGo_spec {wf : Nat → Bool → List (Nat × Nat)} {nm : Nat → Bool} {n : Nat} : ∀ (k t : Nat) (rows : List (List Nat)), (∀ x, x ∈ rows ↔ RowAt wf nm n t x) → (∃ row, RowAt wf nm n t row) →
    (∃ j, j < k + 1 ∧ (stagesGo wf nm (k + 1) t rows).length = j + 1 ∧ (stagesGo wf nm (k + 1) t rows).getLast? = some [] ∧ (∀ i, i ≤ j → ∃ row, RowAt wf nm n (t + i) row) ∧ ¬ ∃ row, RowAt wf nm n (t + j + 1) row) ∨
    ((stagesGo wf nm (k + 1) t rows).length = k + 1 ∧ (stagesGo wf nm (k + 1) t rows).getLast? ≠ some [] ∧ ∀ i, i ≤ k + 1 → ∃ row, RowAt wf nm n (t + i) row)
  | k, t, rows, h, h0 => by
    have hs := stAfter_at h
    unfold stagesGo
    by_cases c : stAfter wf rows (lsAt nm t) = []
    · refine Or.inl ⟨0, by omega, by rw [if_pos c]; rfl, by rw [if_pos c, c]; rfl, fun i hi => by rw [show i = 0 by omega]; exact h0, ?_⟩
      rintro ⟨row, hr⟩
      have := (hs row).mpr hr
      rw [c] at this
      cases this
    · rw [if_neg c]
      have h1 : ∃ row, RowAt wf nm n (t + 1) row := by
        cases e : stAfter wf rows (lsAt nm t) with
        | nil => exact absurd e c
        | cons x r => exact ⟨x.1, (hs x.1).mp (by rw [e]; exact List.mem_cons_self)⟩
      cases k with
      | zero =>
        refine Or.inr ⟨rfl, ?_, fun i hi => ?_⟩
        · intro z
          exact c (Option.some.inj z)
        · rcases Nat.lt_or_ge i 1 with z | z
          · rw [show i = 0 by omega]; exact h0
          · rw [show i = 1 by omega]; exact h1
      | succ k =>
        have ih := stagesGo_spec k (t + 1) _ hs h1
        have ne : stagesGo wf nm (k + 1) (t + 1) ((stAfter wf rows (lsAt nm t)).map Prod.fst) ≠ [] := by
          rcases ih with ⟨j, _, l, _⟩ | ⟨l, _⟩ <;> (intro z; rw [z] at l; cases l)
        rcases ih with ⟨j, hj, l, g, a, b⟩ | ⟨l, g, a⟩
        · refine Or.inl ⟨j + 1, by omega, by rw [List.length_cons, l], by rw [List.getLast?_cons_of_ne_nil ne]; exact g, fun i hi => ?_, by rw [show t + (j + 1) + 1 = t + 1 + j + 1 by omega]; exact b⟩
          cases i with
          | zero => exact h0
          | succ i => rw [show t + (i + 1) = t + 1 + i by omega]; exact a i (by omega)
        · refine Or.inr ⟨by rw [List.length_cons, l], by rw [List.getLast?_cons_of_ne_nil ne]; exact g, fun i hi => ?_⟩
          cases i with
          | zero => exact h0
          | succ i => rw [show t + (i + 1) = t + 1 + i by omega]; exact a i (by omega)
theorem stk_isStuck {nm : Nat → Bool} {n : Nat} (hn : 0 < n) : IsStuck nm n (stkIn (stagesOf ways nm n)) := by
  obtain ⟨m, rfl⟩ : ∃ m, n = m + 1 := ⟨n - 1, by omega⟩
  unfold stagesOf stkIn
  rcases stagesGo_spec (wf := ways) (nm := nm) (n := m + 1) m 0 [[m + 1]] (fun x => by rw [List.mem_singleton]; exact Iff.rfl) ⟨_, rfl⟩ with ⟨j, hj, l, g, a, b⟩ | ⟨l, g, a⟩
  · rw [if_pos g, l]
    refine ⟨by omega, fun k hk => ?_, ?_⟩
    · have := a k (by omega)
      rwa [Nat.zero_add] at this
    · rw [Nat.zero_add] at b
      exact b
  · rw [if_neg g]
    intro k hk
    have := a k hk
    rwa [Nat.zero_add] at this
/-! ### all names behind -/
def tri (t : Nat) : Nat := t * (t + 1) / 2
theorem tri_succ (t : Nat) : tri (t + 1) = tri t + (t + 1) := by
  unfold tri
  have e : (t + 1) * (t + 1 + 1) = t * (t + 1) + 2 * (t + 1) := by rw [Nat.mul_comm (t + 1), ← Nat.add_mul]
  rw [e, Nat.add_mul_div_left _ _ (by decide)]
theorem lsAt_count (nm : Nat → Bool) : ∀ T, ((List.range T).map fun k => nls (lsAt nm k)).sum = (List.range (tri T)).countP nm
  | 0 => rfl
  | T + 1 => by
    rw [List.range_succ, List.map_append, List.sum_append, lsAt_count nm T, tri_succ, List.range_add, List.countP_append]
    simp only [List.map_cons, List.map_nil, List.sum_cons, List.sum_nil, Nat.add_zero]
    unfold nls lsAt
    rw [List.countP_map, List.countP_map]
    congr 1
    refine List.countP_congr fun x _ => ?_
    show decide (nm (T * (T + 1) / 2 + x) = true) = true ↔ nm (tri T + x) = true
    rw [decide_eq_true_iff]
    exact Iff.rfl
theorem names_in {names : List Nat} (nd : names.Nodup) (N : Nat) : (List.range N).countP (fun x => decide (x ∈ names)) = (names.filter fun x => decide (x < N)).length := by
  rw [List.countP_eq_length_filter]
  apply Nat.le_antisymm
  · refine List.Nodup.length_le_of_subset (List.Pairwise.filter _ List.nodup_range) fun x hx => ?_
    rw [List.mem_filter] at hx ⊢
    exact ⟨of_decide_eq_true hx.2, decide_eq_true (List.mem_range.mp hx.1)⟩
  · refine List.Nodup.length_le_of_subset (List.Pairwise.filter _ nd) fun x hx => ?_
    rw [List.mem_filter] at hx ⊢
    exact ⟨List.mem_range.mpr (of_decide_eq_true hx.2), decide_eq_true hx.1⟩
theorem lsAt_mem {nm : Nat → Bool} {t : Nat} {l : Bool} (h : l ∈ lsAt nm t) : ∃ i, i ≤ t ∧ l = nm (tri t + i) := by
  obtain ⟨i, hi, rfl⟩ := List.mem_map.mp h
  exact ⟨i, by have := List.mem_range.mp hi; omega, rfl⟩
theorem tri_mono {s t : Nat} (h : s ≤ t) : tri s ≤ tri t := by
  induction t with
  | zero => rw [Nat.le_zero.mp h]; exact Nat.le_refl _
  | succ t ih =>
    rcases Nat.lt_or_ge s (t + 1) with c | c
    · exact Nat.le_trans (ih (by omega)) (by rw [tri_succ]; omega)
    · rw [show s = t + 1 by omega]; exact Nat.le_refl _
/-- nobody on the way: no name lies further on -/
theorem none_after {names : List Nat} (nd : names.Nodup) {T : Nat} {row : List Nat} (h : RowAt ways (fun x => decide (x ∈ names)) names.length T row) (h0 : row.sum = 0) {t : Nat} (ht : T ≤ t) : ∀ l ∈ lsAt (fun x => decide (x ∈ names)) t, l = false := by
  have tot := h.total
  rw [h0, lsAt_count, names_in nd, Nat.zero_add] at tot
  have all := List.length_filter_eq_length_iff.mp tot
  intro l hl
  obtain ⟨i, hi, rfl⟩ := lsAt_mem hl
  rw [decide_eq_false_iff_not]
  intro hm
  have h1 := of_decide_eq_true (all _ hm)
  have := tri_mono ht
  omega
theorem fits_zero : ∀ (row : List Nat) (ls : List Bool), row.length = ls.length → row.sum = 0 → (∀ l ∈ ls, l = false) → ∃ c, Fits ways row ls c
  | [], [], _, _, _ => ⟨[], trivial⟩
  | e :: row, l :: ls, hl, hs, h => by
    rw [List.sum_cons] at hs
    obtain ⟨c, hc⟩ := fits_zero row ls (by simpa using hl) (by omega) fun x hx => h x (List.mem_cons_of_mem _ hx)
    refine ⟨(0, 0) :: c, ?_, hc⟩
    rw [ways_mem]
    exact Or.inr ⟨h l List.mem_cons_self, by omega, Or.inl (by omega)⟩
theorem stuck_none {names : List Nat} (nd : names.Nodup) {T : Nat} (hT : ∀ k, k ≤ T → ∃ row, RowAt ways (fun x => decide (x ∈ names)) names.length k row) {row : List Nat} (h : RowAt ways (fun x => decide (x ∈ names)) names.length T row) (h0 : row.sum = 0) : IsStuck (fun x => decide (x ∈ names)) names.length none := by
  have go : ∀ k, ∃ row, RowAt ways (fun x => decide (x ∈ names)) names.length (T + k) row ∧ row.sum = 0 := by
    intro k
    induction k with
    | zero => exact ⟨row, h, h0⟩
    | succ k ih =>
      obtain ⟨r, hr, hs⟩ := ih
      obtain ⟨⟨l0, _⟩, _⟩ := RowAt.ok ways_ok hr
      have hl : r.length = (lsAt (fun x => decide (x ∈ names)) (T + k)).length := by rw [l0, lsAt_len]
      obtain ⟨c, hc⟩ := fits_zero r _ hl hs (none_after nd h h0 (Nat.le_add_right T k))
      refine ⟨mg 0 c, ⟨r, hr, (rows_mem hl).mpr ⟨c, hc, rfl⟩⟩, ?_⟩
      rw [mg_sum]
      have := hc.total
      omega
  intro k hk
  rcases Nat.lt_or_ge T k with c | c
  · obtain ⟨r, hr, _⟩ := go (k - T)
    rw [show T + (k - T) = k by omega] at hr
    exact ⟨r, hr⟩
  · exact hT k c
theorem stuck_some {nm : Nat → Bool} {n t : Nat} (hT : ∀ k, k ≤ t → ∃ row, RowAt ways nm n k row) {row : List Nat} (h : RowAt ways nm n t row) (h0 : 0 < row.sum) (he : ¬ ∃ row, RowAt ways nm n (t + 1) row) : IsStuck nm n (some t) := by
  refine ⟨?_, hT, he⟩
  apply Classical.byContradiction
  intro c
  have := zero_row (RowAt.ok ways_ok h).1.few (by omega)
  omega
/-! ### rows in the heap -/
def rk (row : List Nat) : List Key := row.map fun (n : Nat) => .inl (n : Int)
theorem rk_kV (row : List Nat) : (rk row).map kV = nv row := by
  unfold rk nv
  rw [List.map_map]
  exact List.map_congr_left fun x _ => rfl
theorem rk_inj : ∀ {a b : List Nat}, rk a = rk b → a = b
  | [], [], _ => rfl
  | x :: a, y :: b, h => by
    injection h with h1 h2
    have h1 := Sum.inl.inj h1
    rw [rk_inj h2, show x = y by omega]
  | [], _ :: _, h => by cases h
  | _ :: _, [], h => by cases h
def PrAt (B : Hp) (c : Addr) (x : Nat × Nat) : Prop := B c = some (.tup [.int x.1, .int x.2])
def TriAt (B : Hp) (c : Addr) (x : Nat × Nat × Nat) : Prop := B c = some (.tup [.int x.1, .int x.2.1, .int x.2.2])
def WayAt (B : Hp) (v : V) (way : Way) : Prop := ∃ q cs, v = .ref q ∧ B q = some (.tup (cs.map V.ref)) ∧ Paired (TriAt B) cs way
def StgAt (B : Hp) (kvs : List (List Key × V)) (f : Stg) : Prop := Paired (fun kv lw => kv.1 = rk lw.1 ∧ WayAt B kv.2 lw.2) kvs f
def RowsAt (B : Hp) (as : List Addr) (rows : List (List Nat)) : Prop := Paired (fun a row => B a = some (.tup (nv row))) as rows
theorem WayAt.mono {B B' : Hp} (s : Same B B') {v : V} {way : Way} (h : WayAt B v way) : WayAt B' v way := by
  obtain ⟨q, cs, e, hq, hp⟩ := h
  exact ⟨q, cs, e, s _ _ hq, Paired.mapP hp fun _ _ z => s _ _ z⟩
theorem StgAt.mono {B B' : Hp} (s : Same B B') {kvs : List (List Key × V)} {f : Stg} (h : StgAt B kvs f) : StgAt B' kvs f := Paired.mapP h fun _ _ z => ⟨z.1, z.2.mono s⟩
theorem RowsAt.mono {B B' : Hp} (s : Same B B') {as : List Addr} {rows : List (List Nat)} (h : RowsAt B as rows) : RowsAt B' as rows := Paired.mapP h fun _ _ z => s _ _ z
/-- tuples that stand go over -/
def Tks (B B' : Hp) : Prop := ∀ q xs, B q = some (.tup xs) → B' q = some (.tup xs)
theorem WayAt.via {B B' : Hp} (s : Tks B B') {v : V} {way : Way} (h : WayAt B v way) : WayAt B' v way := by
  obtain ⟨q, cs, e, hq, hp⟩ := h
  exact ⟨q, cs, e, s _ _ hq, Paired.mapP hp fun _ _ z => s _ _ z⟩
theorem StgAt.via {B B' : Hp} (s : Tks B B') {kvs : List (List Key × V)} {f : Stg} (h : StgAt B kvs f) : StgAt B' kvs f := Paired.mapP h fun _ _ z => ⟨z.1, z.2.via s⟩
theorem RowsAt.via {B B' : Hp} (s : Tks B B') {as : List Addr} {rows : List (List Nat)} (h : RowsAt B as rows) : RowsAt B' as rows := Paired.mapP h fun _ _ z => s _ _ z
theorem tks_of {B B' : Hp} {l : List (Addr × HO)} (k : ∀ q o, B q = some o → (∀ e ∈ l, e.2 ≠ o) → B' q = some o) (hl : ∀ e ∈ l, ∀ ys, e.2 ≠ .tup ys) : Tks B B' := fun q xs h => k q _ h fun e he => hl e he xs
theorem StgAt.has {B : Hp} (k : List Nat) : ∀ {kvs : List (List Key × V)} {f : Stg}, StgAt B kvs f → (kvs.any fun kv => decide (kv.1 = rk k)) = hasA f k
  | _, _, .nil => rfl
  | _, _, .cons (a := kv) (b := lw) h r => by
    unfold hasA
    rw [List.any_cons, List.any_cons]
    have ih := StgAt.has k r
    unfold hasA at ih
    rw [ih]
    congr 1
    rw [h.1]
    exact decide_eq_decide.mpr ⟨rk_inj, fun z => by rw [z]⟩
theorem StgAt.put {B : Hp} {k : List Nat} {v : V} {way : Way} (hv : WayAt B v way) {kvs : List (List Key × V)} {f : Stg} (h : StgAt B kvs f) : StgAt B (putK kvs (rk k) v) (putA f k way) := by
  unfold putK putA
  rw [← h.has k]
  split
  · have : ∀ {kvs : List (List Key × V)} {f : Stg}, StgAt B kvs f → StgAt B (kvs.map fun kv => if kv.1 = rk k then (kv.1, v) else kv) (f.map fun lw => if lw.1 = k then (lw.1, way) else lw) := by
      intro kvs f h
      unfold StgAt at h
      induction h with
      | nil => exact .nil
      | @cons kv lw _ _ h1 _ ih =>
        rw [List.map_cons, List.map_cons]
        refine .cons ?_ ih
        by_cases c : lw.1 = k
        · rw [if_pos c, if_pos (by rw [h1.1, c])]
          exact ⟨h1.1, hv⟩
        · rw [if_neg c, if_neg (fun z => c (rk_inj (by rw [← h1.1, z])))]
          exact h1
    exact this h
  · exact Paired.snoc h ⟨rfl, hv⟩
theorem StgAt.valV {B : Hp} {k : List Nat} {kvs : List (List Key × V)} {f : Stg} (h : StgAt B kvs f) : (valV kvs (rk k)).isSome = hasA f k := by rw [← valV_any, h.has k]
theorem StgAt.len {B : Hp} {kvs : List (List Key × V)} {f : Stg} (h : StgAt B kvs f) : kvs.length = f.length := Paired.length h
theorem size_few {n : Nat} (h : n ≤ 262144) : n < sizeLine := Nat.lt_of_le_of_lt h (by decide)
/-! ### processes sent on, diagonal by diagonal -/
theorem mg_snoc (c : List (Nat × Nat)) (r d : Nat) : mg 0 (c ++ [(r, d)]) = ext (mg 0 c) r d := by
  have h1 := fold_ext (c ++ [(r, d)]) [] 0
  have h2 := fold_ext c [] 0
  rw [List.foldl_append, h2, List.nil_append, List.nil_append] at h1
  exact h1.symm
theorem Fits.snoc {wf : Nat → Bool → List (Nat × Nat)} {e : Nat} {l : Bool} {rd : Nat × Nat} : ∀ {row : List Nat} {ls : List Bool} {c : List (Nat × Nat)}, Fits wf row ls c → rd ∈ wf e l → Fits wf (row ++ [e]) (ls ++ [l]) (c ++ [rd])
  | [], [], [], _, h => ⟨h, trivial⟩
  | _ :: _, _ :: _, _ :: _, h, h2 => ⟨h.1, Fits.snoc h.2 h2⟩
  | [], [], _ :: _, h, _ => h.elim
  | [], _ :: _, _, h, _ => h.elim
  | _ :: _, [], _, h, _ => h.elim
  | _ :: _, _ :: _, [], h, _ => h.elim
/-- the listed cells, the first one numbered f -/
def lstd : Nat → List Bool → List Nat
  | _, [] => []
  | f, b :: r => if b = true then f :: lstd (f + 1) r else lstd (f + 1) r
theorem lstd_snoc : ∀ (ls : List Bool) (f : Nat) (b : Bool), lstd f (ls ++ [b]) = lstd f ls ++ (if b = true then [f + ls.length] else [])
  | [], f, b => by
    cases b <;> rfl
  | x :: r, f, b => by
    show (if x = true then f :: lstd (f + 1) (r ++ [b]) else lstd (f + 1) (r ++ [b])) = (if x = true then f :: lstd (f + 1) r else lstd (f + 1) r) ++ _
    rw [lstd_snoc r (f + 1) b, List.length_cons, show f + 1 + r.length = f + (r.length + 1) by omega]
    cases x <;> rfl
theorem lstd_mem : ∀ {ls : List Bool} {f x : Nat}, x ∈ lstd f ls ↔ f ≤ x ∧ ls[x - f]? = some true
  | [], f, x => by
    constructor
    · intro h; cases h
    · rintro ⟨_, h⟩; cases h
  | b :: r, f, x => by
    have ih := lstd_mem (ls := r) (f := f + 1) (x := x)
    rcases Nat.lt_trichotomy x f with c | c | c
    · constructor
      · intro h
        have : x ∈ f :: lstd (f + 1) r := by
          unfold lstd at h
          split at h
          · exact h
          · exact List.mem_cons_of_mem _ h
        rcases List.mem_cons.mp this with z | z
        · omega
        · have := (ih.mp z).1; omega
      · rintro ⟨h, _⟩; omega
    · subst c
      have hn : x ∉ lstd (x + 1) r := fun z => by have := (ih.mp z).1; omega
      unfold lstd
      rw [Nat.sub_self]
      cases b with
      | true => exact ⟨fun _ => ⟨Nat.le_refl _, rfl⟩, fun _ => by rw [if_pos rfl]; exact List.mem_cons_self⟩
      | false =>
        rw [if_neg Bool.false_ne_true]
        exact ⟨fun z => (hn z).elim, fun z => by cases z.2⟩
    · have e : x - f = (x - (f + 1)) + 1 := by omega
      rw [e, List.getElem?_cons_succ]
      have : x ∈ lstd f (b :: r) ↔ x ∈ lstd (f + 1) r := by
        show x ∈ (if b = true then f :: lstd (f + 1) r else lstd (f + 1) r) ↔ _
        split
        · rw [List.mem_cons]
          constructor
          · rintro (z | z)
            · omega
            · exact z
          · exact Or.inr
        · exact Iff.rfl
      rw [this, ih]
      constructor
      · rintro ⟨_, h⟩; exact ⟨by omega, h⟩
      · rintro ⟨_, h⟩; exact ⟨by omega, h⟩
theorem lstd_asc : ∀ (ls : List Bool) (f : Nat), (lstd f ls).Pairwise (· < ·)
  | [], _ => List.Pairwise.nil
  | b :: r, f => by
    show (if b = true then f :: lstd (f + 1) r else lstd (f + 1) r).Pairwise (· < ·)
    split
    · exact List.pairwise_cons.mpr ⟨fun x hx => by have := (lstd_mem.mp hx).1; omega, lstd_asc r (f + 1)⟩
    · exact lstd_asc r (f + 1)
theorem lstd_len : ∀ (ls : List Bool) (f : Nat), (lstd f ls).length = nls ls
  | [], _ => rfl
  | b :: r, f => by
    have ih := lstd_len r (f + 1)
    show (if b = true then f :: lstd (f + 1) r else lstd (f + 1) r).length = _
    unfold nls at ih ⊢
    rw [List.countP_cons]
    cases b with
    | true => rw [if_pos rfl, List.length_cons, ih]; simp
    | false => rw [if_neg Bool.false_ne_true, ih]; simp
def nmOf (names : List Nat) : Nat → Bool := fun x => decide (x ∈ names)
theorem RowAt.congr {nm nm' : Nat → Bool} {n : Nat} : ∀ {t : Nat} {row : List Nat}, (∀ x, x < tri t → nm x = nm' x) → RowAt ways nm n t row → RowAt ways nm' n t row
  | 0, _, _, h => h
  | t + 1, row, e, ⟨r0, h, hr⟩ => by
    refine ⟨r0, RowAt.congr (fun x hx => e x (by rw [tri_succ]; omega)) h, ?_⟩
    have : lsAt nm' t = lsAt nm t := List.map_congr_left fun i hi => by
      have := List.mem_range.mp hi
      have e2 := tri_succ t
      exact (e _ (by show t * (t + 1) / 2 + i < tri (t + 1); rw [e2]; show tri t + i < _; omega)).symm
    rw [this]
    exact hr
/-- sent to diagonal t: in which row they are, and which names they have -/
structure Sent (n t : Nat) (ms row : List Nat) : Prop where
  here : RowAt ways (nmOf ms) n t row
  asc : ms.Pairwise (· < ·)
  lt : ∀ x ∈ ms, x < tri t
  tot : row.sum + ms.length = n
theorem Sent.first (n : Nat) : Sent n 0 [] [n] := ⟨rfl, List.Pairwise.nil, fun x hx => absurd hx List.not_mem_nil, by simp⟩
theorem Sent.next {n t : Nat} {ms row : List Nat} {ls : List Bool} {c : List (Nat × Nat)} (h : Sent n t ms row) (hf : Fits ways row ls c) : Sent n (t + 1) (ms ++ lstd (tri t) ls) (mg 0 c) := by
  obtain ⟨⟨hl, _⟩, _⟩ := RowAt.ok ways_ok h.here
  have hc := hf.len
  have old : ∀ x, x < tri t → nmOf ms x = nmOf (ms ++ lstd (tri t) ls) x := fun x hx => by
    unfold nmOf
    refine decide_eq_decide.mpr ⟨fun z => List.mem_append_left _ z, fun z => ?_⟩
    rcases List.mem_append.mp z with z | z
    · exact z
    · have := (lstd_mem.mp z).1; omega
  have els : lsAt (nmOf (ms ++ lstd (tri t) ls)) t = ls := by
    refine List.ext_getElem? fun i => ?_
    unfold lsAt
    rw [List.getElem?_map]
    rcases Nat.lt_or_ge i (t + 1) with z | z
    · rw [List.getElem?_range z]
      obtain ⟨b, hb⟩ : ∃ b, ls[i]? = some b := ⟨_, List.getElem?_eq_getElem (by omega)⟩
      rw [hb]
      show some (nmOf _ (tri t + i)) = _
      congr 1
      unfold nmOf
      have : tri t + i ∈ ms ++ lstd (tri t) ls ↔ b = true := by
        rw [List.mem_append, lstd_mem, show tri t + i - tri t = i by omega, hb]
        constructor
        · rintro (w | ⟨_, w⟩)
          · have := h.lt _ w; omega
          · exact Option.some.inj w
        · intro w; exact Or.inr ⟨by omega, by rw [w]⟩
      cases b with
      | true => exact decide_eq_true (this.mpr rfl)
      | false => exact decide_eq_false fun w => Bool.false_ne_true (this.mp w)
    · rw [List.getElem?_eq_none (by rw [List.length_range]; omega), List.getElem?_eq_none (by omega)]
      rfl
  refine ⟨⟨row, RowAt.congr old h.here, ?_⟩, ?_, fun x hx => ?_, ?_⟩
  · rw [els]
    exact (rows_mem (by omega)).mpr ⟨c, hf, rfl⟩
  · refine List.pairwise_append.mpr ⟨h.asc, lstd_asc _ _, fun a ha b hb => ?_⟩
    have := h.lt a ha
    have := (lstd_mem.mp hb).1
    omega
  · rw [tri_succ]
    rcases List.mem_append.mp hx with z | z
    · have := h.lt x z; omega
    · obtain ⟨z1, z2⟩ := lstd_mem.mp z
      have := (List.getElem?_eq_some_iff.mp z2).1
      omega
  · have h1 := hf.total
    have h2 := h.tot
    rw [mg_sum, List.length_append, lstd_len]
    omega
/-- a possible name list, as it is sent -/
structure Poss (n : Nat) (ms : List Nat) : Prop where
  asc : ms.Pairwise (· < ·)
  len : ms.length = n
  lt : ∀ x ∈ ms, x < tri n
  ok : IsStuck (nmOf ms) n none
theorem RowAt.prev {nm : Nat → Bool} {n : Nat} : ∀ {t : Nat} {row : List Nat}, RowAt ways nm n t row → ∀ k, k ≤ t → ∃ r, RowAt ways nm n k r
  | 0, row, h, k, hk => ⟨row, by rw [Nat.le_zero.mp hk]; exact h⟩
  | t + 1, row, h, k, hk => by
    rcases Nat.lt_or_ge k (t + 1) with c | c
    · obtain ⟨r0, h0, _⟩ := h
      exact RowAt.prev h0 k (by omega)
    · exact ⟨row, by rw [show k = t + 1 by omega]; exact h⟩
theorem Sent.done {n t : Nat} {ms row : List Nat} (h : Sent n t ms row) (ht : t ≤ n) (h0 : row.sum = 0) : Poss n ms := by
  have e := h.tot
  have e : ms.length = n := by omega
  refine ⟨h.asc, e, fun x hx => Nat.lt_of_lt_of_le (h.lt x hx) (tri_mono ht), ?_⟩
  have nd : ms.Nodup := h.asc.imp fun z => Nat.ne_of_lt z
  have hh := h.here
  rw [← e] at hh ⊢
  exact stuck_none nd (RowAt.prev hh) hh h0
theorem Sent.more {n t : Nat} {ms row : List Nat} (h : Sent n t ms row) (h0 : 0 < row.sum) : t < n := by
  obtain ⟨⟨_, f⟩, _⟩ := RowAt.ok ways_ok h.here
  rcases Nat.lt_or_ge t n with c | c
  · exact c
  · have := zero_row f c; omega
theorem set_fst (k x : Nat) (Y : List Nat) : ∀ A : List Nat, (A ++ k :: Y).set A.length x = A ++ x :: Y
  | [] => rfl
  | a :: A => by
    show a :: (A ++ k :: Y).set A.length x = _
    rw [set_fst k x Y A]; rfl
theorem set_snd (k x y : Nat) (Y : List Nat) : ∀ A : List Nat, (A ++ k :: y :: Y).set (A.length + 1) x = A ++ k :: x :: Y
  | [] => rfl
  | a :: A => by
    show a :: (A ++ k :: y :: Y).set (A.length + 1) x = _
    rw [set_snd k x y Y A]; rfl
/-- the next row while its cells are gone through: done so far, zeros behind -/
theorem later_step {c : List (Nat × Nat)} {i t r d : Nat} (hc : c.length = i) (hi : i ≤ t) :
    ∃ (k : Nat), (mg 0 c ++ List.replicate (t + 1 - i) 0)[i + 1]? = some 0 ∧ ((mg 0 c ++ List.replicate (t + 1 - i) 0).set (i + 1) r)[i]? = some k ∧
      ((mg 0 c ++ List.replicate (t + 1 - i) 0).set (i + 1) r).set i (k + d) = mg 0 (c ++ [(r, d)]) ++ List.replicate (t + 1 - (i + 1)) 0 := by
  have hl := mg_len c 0
  have hs := row_split (a := mg 0 c) (by omega)
  have hA : (mg 0 c).dropLast.length = i := by rw [List.length_dropLast]; omega
  rw [mg_snoc]
  unfold ext
  obtain ⟨m, hm⟩ : ∃ m, t + 1 - i = m + 1 := ⟨t - i, by omega⟩
  rw [show t + 1 - (i + 1) = m by omega, hm, List.replicate_succ]
  generalize (mg 0 c).dropLast = A at *
  generalize (mg 0 c).getLastD 0 = k at *
  rw [hs]
  have e : (A ++ [k] ++ 0 :: List.replicate m 0) = A ++ k :: 0 :: List.replicate m 0 := by rw [List.append_assoc]; rfl
  rw [e, ← hA, set_snd]
  refine ⟨k, ?_, ?_, ?_⟩
  · rw [List.getElem?_append_right (by omega), show A.length + 1 - A.length = 1 by omega]; rfl
  · rw [List.getElem?_append_right (by omega), Nat.sub_self]; rfl
  · rw [set_fst, List.append_assoc]; rfl
def StsAt (B : Hp) (ds : List Addr) (ss : List Stg) : Prop := Paired (fun a f => ∃ kvs, B a = some (.dT kvs) ∧ StgAt B kvs f) ds ss
theorem StsAt.mono {B B' : Hp} (s : Same B B') {ds : List Addr} {ss : List Stg} (h : StsAt B ds ss) : StsAt B' ds ss := Paired.mapP h fun _ _ ⟨kvs, h1, h2⟩ => ⟨kvs, s _ _ h1, h2.mono s⟩
theorem sum_cast : ∀ l : List Nat, (l.map fun (p : Nat) => (p : Int)).sum = (l.sum : Int)
  | [] => rfl
  | a :: r => by rw [List.map_cons, List.sum_cons, List.sum_cons, sum_cast r]; omega
theorem nats_of : ∀ {ns : List Int}, (∀ x ∈ ns, 0 ≤ x) → ns.map V.int = nv (ns.map Int.toNat)
  | [], _ => rfl
  | a :: r, h => by
    have h1 := h a List.mem_cons_self
    rw [List.map_cons, List.map_cons, nats_of fun x hx => h x (List.mem_cons_of_mem _ hx)]
    show V.int a :: _ = V.int ((a.toNat : Nat) : Int) :: nv _
    rw [Int.toNat_of_nonneg h1]
theorem asc_of {ns : List Int} (h : ∀ x ∈ ns, 0 ≤ x) (p : ns.Pairwise (· < ·)) : Asc (ns.map Int.toNat) := by
  unfold Asc
  rw [List.pairwise_map]
  refine List.Pairwise.imp_of_mem (fun {a b} ha hb hab => ?_) p
  have := h a ha
  omega
theorem srt_nats {xs : List Nat} {ns : List Int} (p : ns.Pairwise (· < ·)) (h : ∀ k : Int, k ∈ ns ↔ k ∈ xs.map fun (p : Nat) => (p : Int)) : ∃ ms : List Nat, ns.map V.int = nv ms ∧ Asc ms ∧ (∀ x, x ∈ ms ↔ x ∈ xs) ∧ ms.length ≤ xs.length := by
  have h0 : ∀ x ∈ ns, 0 ≤ x := fun x hx => by
    obtain ⟨p, _, rfl⟩ := List.mem_map.mp ((h x).mp hx)
    omega
  have hm : ∀ x, x ∈ ns.map Int.toNat ↔ x ∈ xs := fun x => by
    rw [List.mem_map]
    constructor
    · rintro ⟨y, hy, rfl⟩
      obtain ⟨p, hp, rfl⟩ := List.mem_map.mp ((h y).mp hy)
      rw [Int.toNat_natCast]; exact hp
    · intro hx
      exact ⟨(x : Int), (h _).mpr (List.mem_map.mpr ⟨x, hx, rfl⟩), Int.toNat_natCast x⟩
  have ha := asc_of h0 p
  refine ⟨_, nats_of h0, ha, hm, ?_⟩
  exact List.Nodup.length_le_of_subset (ha.imp fun z => Nat.ne_of_lt z) fun x hx => (hm x).mp hx
theorem pickV {l : List V} {r : Int} (h0 : 0 ≤ r) (h : r < l.length) : ∃ x ∈ l, atI l r = some x := ⟨_, List.getElem_mem _, atI_in h0 h⟩
theorem rgV_nv (n : Nat) : rgV 0 (n : Int) = nv (List.range n) := by
  unfold rgV nv
  rw [show ((n : Int) - 0).toNat = n by omega]
  exact List.map_congr_left fun i _ => by rw [Int.zero_add]
section
variable {P : Program} {w : World} {K : PySem.W.Frag} {mg : Str → Option Value} {bs : Heap} {d : Ad}
/-! cut is_integer -/
def sp_is_integer (K : PySem.W.Frag) : Sp := fun vs H Q _ => ∃ a : Int, vs = [.int a] ∧ Q (.bl true) H
theorem ok_is_integer (m : Mo K mg d) (sm : SM bs) : FnOk P w K mg bs CX0 1 d.a_is_integer d.fd_is_integer ["value"] (sp_is_integer K) := by
  refine m.F_is_integer.ok (k := 0) sc_is_integer (fun vs H Q E h => ?_) (fun cdv A fr s H vs Q E hr h => ?_)
  · obtain ⟨a, rfl, q⟩ := h
    rfl
  · obtain ⟨a, rfl, q⟩ := h
    refine ⟨_, (pss_one (ps_ret (pe_and (pe_callB cr_is (by rfl) m.n_isinstance (by decide +kernel) (pa_cons (pv 0) (pa_cons (pe_bltn (v := .ty "int") (by rfl) m.n_int (by decide +kernel) rfl) pa_nil))) (pe_one (pe_not (pe_callB cr_is (by rfl) m.n_isinstance (by decide +kernel) (pa_cons (pv 0) (pa_cons (pe_bltn (v := .ty "bool") (by rfl) m.n_bool (by decide +kernel) rfl) pa_nil)))))))), ?_⟩
    walk_at "vc"
    exact q
/-! cut is_integer_within -/
def sp_is_integer_within (K : PySem.W.Frag) : Sp := fun vs H Q _ => ∃ a lo hi : Int, vs = [.int a, .int lo, .int hi] ∧ Q (.bl (decide (lo ≤ a) && decide (a ≤ hi))) H
theorem ok_is_integer_within (m : Mo K mg d) (sm : SM bs) (G_is_integer : FnOk P w K mg bs CX0 1 d.a_is_integer d.fd_is_integer ["value"] (sp_is_integer K)) : FnOk P w K mg bs CX0 2 d.a_is_integer_within d.fd_is_integer_within ["value", "least", "greatest"] (sp_is_integer_within K) := by
  refine m.F_is_integer_within.ok (k := 1) sc_is_integer_within (fun vs H Q E h => ?_) (fun cdv A fr s H vs Q E hr h => ?_)
  · obtain ⟨a, lo, hi, rfl, q⟩ := h
    rfl
  · obtain ⟨a, lo, hi, rfl, q⟩ := h
    refine ⟨_, (pss_one (ps_ret (pe_and (pe_call G_is_integer (hr.mono (by decide)) (by rfl) m.g_is_integer m.F_is_integer.kp m.b_is_integer .nil pass0 (pa_cons (pv 0) pa_nil)) (pe_one (pe_chain op_le op_le (pv 1) (pv 0) (pv 2)))))), ?_⟩
    walk_at "vc"
    refine ⟨_, rfl, ?_⟩
    walk_at "vc"
    split
    · rename_i h1
      rw [decide_eq_true h1] at q
      exact q
    · rename_i h1
      rw [decide_eq_false h1] at q
      exact q
/-! cut check_count -/
def sp_check_count (K : PySem.W.Frag) : Sp := fun vs H Q _ => ∃ c g : Int, vs = [.int c, .int g] ∧ 1 ≤ c ∧ c ≤ g ∧ Q .non H
theorem ok_check_count (m : Mo K mg d) (sm : SM bs) (G_is_integer_within : FnOk P w K mg bs CX0 2 d.a_is_integer_within d.fd_is_integer_within ["value", "least", "greatest"] (sp_is_integer_within K)) : FnOk P w K mg bs CX0 3 d.a_check_count d.fd_check_count ["count", "greatest"] (sp_check_count K) := by
  refine m.F_check_count.ok (k := 2) sc_check_count (fun vs H Q E h => ?_) (fun cdv A fr s H vs Q E hr h => ?_)
  · obtain ⟨c, g, rfl, h0, h1, q⟩ := h
    rfl
  · obtain ⟨c, g, rfl, h0, h1, q⟩ := h
    refine ⟨_, (pss_one (ps_if (pt_not (pt_val (pe_call G_is_integer_within (hr.mono (by decide)) (by rfl) m.g_is_integer_within m.F_is_integer_within.kp m.b_is_integer_within .nil pass0 (pa_cons (pv 0) (pa_cons pe_int (pa_cons (pv 1) pa_nil))))))
      (pss_one ps_never)
      pss_nil)), ?_⟩
    walk_at "vc"
    refine ⟨_, _, _, rfl, ?_⟩
    walk_at "vc"
    rw [decide_eq_true h0, decide_eq_true h1]
    walk_at "vc"
    exact q
/-! cut ways_on -/
def PrsAt (B : Hp) (as : List Addr) (l : List (Nat × Nat)) : Prop := Paired (PrAt B) as l
theorem PrsAt.mono {B B' : Hp} (s : Same B B') {as : List Addr} {l : List (Nat × Nat)} (h : PrsAt B as l) : PrsAt B' as l := Paired.mapP h fun _ _ z => s _ _ z
def sp_ways_on (K : PySem.W.Frag) : Sp := fun vs H Q _ => ∃ (e : Nat) (b : Bool), vs = [.int e, .bl b] ∧ e ≤ 100 ∧ ∀ p H' B' as, Same H B' → PrsAt B' as (ways e b) → Led B' H' [(p, .lst (as.map V.ref))] → Q (.ref p) H'
theorem ok_ways_on (m : Mo K mg d) (sm : SM bs) : FnOk P w K mg bs CX0 1 d.a_ways_on d.fd_ways_on ["entered", "listed"] (sp_ways_on K) := by
  refine m.F_ways_on.ok (k := 0) sc_ways_on (fun vs H Q E h => ?_) (fun cdv A fr s H vs Q E hr h => ?_)
  · obtain ⟨e, b, rfl, he, q⟩ := h
    rfl
  · obtain ⟨e, b, rfl, he, q⟩ := h
    refine ⟨_, (pss_cons (ps_if (pt_val (pv 1))
      (pss_one (ps_ret (pe_lc (own := [("right", 2)]) (by rfl) sc_ways_on.nd (pi_range1 (by rfl) m.n_range (pa_cons (pv 0) pa_nil)) (blkOk_by (own := [("right", 2)]) (N := ["entered", "listed", "right"]) (sc := defScope s_ways_on) (by decide +kernel)) (fun _ _ _ _ _ => by exact (pg_name (i := 2) sc_ways_on.nd rfl (.inl rfl))) (fun _ _ _ _ _ => by exact pts_nil) (fun _ _ _ _ _ => by exact (pe_tup (pa_cons (pv 2) (pa_cons (pe_op op_sub (pe_op op_sub (pv 0) pe_int) (pv 2)) pa_nil)))))))
      pss_nil)
      (pss_cons (ps_if (pt_cmpR op_eq (pv 0) pe_int (nomark _))
      (pss_one (ps_ret (pe_lst (pa_cons (pe_tup (pa_cons pe_int (pa_cons pe_int pa_nil))) pa_nil))))
      pss_nil)
      (pss_one (ps_ret (pe_lc (own := [("right", 2)]) (by rfl) sc_ways_on.nd (pi_range2 (by rfl) m.n_range (pa_cons pe_int (pa_cons (pv 0) pa_nil))) (blkOk_by (own := [("right", 2)]) (N := ["entered", "listed", "right"]) (sc := defScope s_ways_on) (by decide +kernel)) (fun _ _ _ _ _ => by exact (pg_name (i := 2) sc_ways_on.nd rfl (.inl rfl))) (fun _ _ _ _ _ => by exact pts_nil) (fun _ _ _ _ _ => by exact (pe_tup (pa_cons (pv 2) (pa_cons (pe_op op_sub (pv 0) (pv 2)) pa_nil))))))))), ?_⟩
    unfold ways at q
    walk_at "vc"
    cases b with
    | true =>
      rw [if_pos rfl] at q ⊢
      refine ⟨by omega, by omega, ?_⟩
      refine comp_range (fun j z acc H' => ∃ B2 as, Same H B2 ∧ acc = as.map V.ref ∧ PrsAt B2 as ((List.range j).map fun r => (r, e - 1 - r)) ∧ Led B2 H' [(z, .lst acc)]) (fun z hz => ⟨H, [], Same.refl _, rfl, .nil, (Led.nil H).new hz⟩) ?_ ?_
      · rintro z acc H6 ⟨B2, as, s2, rfl, hr, L⟩
        rw [Int.toNat_natCast] at hr
        exact q z H6 B2 as s2 hr L
      · rintro j z acc H6 N hj ⟨B2, as, s2, rfl, hr, L⟩ hN
        rw [Int.toNat_natCast] at hj
        unfold TurnK
        walk_at "vc"
        refine NewK.of L fun t H7 L => ?_
        obtain ⟨B3, s3, h3, L⟩ := L.sink
        have hl : as.length = j := by rw [Paired.length hr, List.length_map, List.length_range]
        refine AppK.of L (by walk_at "mem") (Nat.lt_of_lt_of_le (m := 200) (by rw [List.length_map]; omega) (by decide)) (by walk_at "put") fun H8 L => hN _ _ ⟨B3, as ++ [t], s2.trans s3, by rw [List.map_append]; rfl, ?_, L⟩
        rw [List.range_succ, List.map_append]
        refine Paired.snoc (PrsAt.mono s3 hr) ?_
        unfold PrAt
        rw [h3]
        dsimp only
        rw [show ((e - 1 - j : Nat) : Int) = (e : Int) - 1 - (j : Int) by omega]
    | false =>
      rw [if_neg Bool.false_ne_true] at q ⊢
      split
      · rename_i c
        rw [if_pos (by omega)] at q
        refine NewK.of (Led.nil H) fun t H7 L => ?_
        obtain ⟨B3, s3, h3, L⟩ := L.sink
        refine NewK.of L fun p H8 L => q p H8 B3 [t] s3 (.cons h3 .nil) L
      · rename_i c
        rw [if_neg (by omega)] at q
        refine ⟨by decide, by decide, by omega, by omega, ?_⟩
        refine comp_range (fun j z acc H' => ∃ B2 as, Same H B2 ∧ acc = as.map V.ref ∧ PrsAt B2 as ((List.range j).map fun r => (r + 1, e - (r + 1))) ∧ Led B2 H' [(z, .lst acc)]) (fun z hz => ⟨H, [], Same.refl _, rfl, .nil, (Led.nil H).new hz⟩) ?_ ?_
        · rintro z acc H6 ⟨B2, as, s2, rfl, hr, L⟩
          rw [show ((e : Int) - 1).toNat = e - 1 by omega] at hr
          exact q z H6 B2 as s2 hr L
        · rintro j z acc H6 N hj ⟨B2, as, s2, rfl, hr, L⟩ hN
          rw [show ((e : Int) - 1).toNat = e - 1 by omega] at hj
          unfold TurnK
          walk_at "vc"
          refine NewK.of L fun t H7 L => ?_
          obtain ⟨B3, s3, h3, L⟩ := L.sink
          have hl : as.length = j := by rw [Paired.length hr, List.length_map, List.length_range]
          refine AppK.of L (by walk_at "mem") (Nat.lt_of_lt_of_le (m := 200) (by rw [List.length_map]; omega) (by decide)) (by walk_at "put") fun H8 L => hN _ _ ⟨B3, as ++ [t], s2.trans s3, by rw [List.map_append]; rfl, ?_, L⟩
          rw [List.range_succ, List.map_append]
          refine Paired.snoc (PrsAt.mono s3 hr) ?_
          unfold PrAt
          rw [h3]
          dsimp only
          rw [show ((e - (j + 1) : Nat) : Int) = (e : Int) - (1 + (j : Int)) by omega, show ((j + 1 : Nat) : Int) = 1 + (j : Int) by omega]
/-! cut row_with_cell -/
def sp_row_with_cell (K : PySem.W.Frag) : Sp := fun vs H Q _ => ∃ (a : Addr) (row : List Nat) (r d : Nat), vs = [.ref a, .int r, .int d] ∧ H a = some (.tup (nv row)) ∧ 0 < row.length ∧ row.length ≤ 100 ∧ ∀ p B' H', Same H B' → B' p = some (.tup (nv (ext row r d))) → Led B' H' [] → Q (.ref p) H'
theorem ok_row_with_cell (m : Mo K mg d) (sm : SM bs) : FnOk P w K mg bs CX0 1 d.a_row_with_cell d.fd_row_with_cell ["later", "right", "down"] (sp_row_with_cell K) := by
  refine m.F_row_with_cell.ok (k := 0) sc_row_with_cell (fun vs H Q E h => ?_) (fun cdv A fr s H vs Q E hr h => ?_)
  · obtain ⟨a, row, r0, d', rfl, ha, h0, hl, q⟩ := h
    rfl
  · obtain ⟨a, row, r0, d', rfl, ha, h0, hl, q⟩ := h
    refine ⟨_, (pss_one (ps_ret (pe_op op_catA (pe_slice sl_tupA (pv 0) po_none (po_some (pe_un un_neg pe_int))) (pe_tup (pa_cons (pe_op op_add (pe_ix ix_tup (pv 0) (pe_un un_neg pe_int) (fun _ _ => rfl)) (pv 2)) (pa_cons (pv 1) pa_nil)))))), ?_⟩
    walk_at "vc"
    refine SlTK.of (Led.nil H) ha fun s B1 H1 s1 hs L => ?_
    rw [nv_split h0, cut_last] at hs
    refine IxTK.of (.inl (.inl ((s1.trans L.sm) _ _ ha))) (i := -1) (v := .int (row.getLastD 0 : Nat)) (by rw [nv_split h0]; exact atI_last _ _) ?_
    walk_at "vc"
    refine NewK.of L fun t H2 L => ?_
    obtain ⟨B2, s2, h2, L⟩ := L.sink
    refine CatTK.of L (s2 _ _ hs) h2 (Nat.le_trans (m := 200) (by rw [nv_len, List.length_dropLast]; simp; omega) (by decide)) fun r B3 H3 s3 h3 L => ?_
    refine q r B3 H3 ((s1.trans s2).trans s3) ?_ L
    rw [h3]
    unfold ext
    rw [show row.dropLast ++ [row.getLastD 0 + d', r0] = (row.dropLast ++ [row.getLastD 0 + d']) ++ [r0] by simp, nv_app, nv_app, List.append_assoc]
    rfl
/-! cut ends_of -/
/-! all possible lists, by sending -/
abbrev Part := List Nat × List Nat
theorem ref_at {as : List Addr} {i : Nat} {x : V} (h : (as.map V.ref)[i]? = some x) : ∃ c, as[i]? = some c ∧ x = .ref c := by
  rw [List.getElem?_map] at h
  cases z : as[i]? with
  | none => rw [z] at h; cases h
  | some c => rw [z] at h; cases h; exact ⟨c, rfl, rfl⟩
def lsOf (e : Nat) : List Bool := if 0 < e then [false, true] else [false]
def pcell (f e : Nat) (p : Part) : List Part := (lsOf e).flatMap fun b => (ways e b).map fun rd => (p.1 ++ (if b = true then [f] else []), ext p.2 rd.1 rd.2)
def pb (f e : Nat) (p : Part) (b : Bool) : List Part := (ways e b).map fun rd => (p.1 ++ (if b = true then [f] else []), ext p.2 rd.1 rd.2)
def pstep (f e : Nat) (ps : List Part) : List Part := ps.flatMap (pcell f e)
def pgo : Nat → List Nat → List Part → List Part
  | _, [], ps => ps
  | f, e :: row, ps => pgo (f + 1) row (pstep f e ps)
theorem pgo_snoc {e : Nat} : ∀ (row : List Nat) (f : Nat) (ps : List Part), pgo f (row ++ [e]) ps = pstep (f + row.length) e (pgo f row ps)
  | [], f, ps => rfl
  | x :: row, f, ps => by
    show pgo (f + 1) (row ++ [e]) (pstep f x ps) = _
    rw [pgo_snoc row, List.length_cons, show f + 1 + row.length = f + (row.length + 1) by omega]
    rfl
theorem pcell_mem {f e : Nat} {p x : Part} : x ∈ pcell f e p ↔ ∃ b rd, rd ∈ ways e b ∧ x = (p.1 ++ (if b = true then [f] else []), ext p.2 rd.1 rd.2) := by
  unfold pcell
  rw [List.mem_flatMap]
  constructor
  · rintro ⟨b, _, h⟩
    obtain ⟨rd, h1, h2⟩ := List.mem_map.mp h
    exact ⟨b, rd, h1, h2.symm⟩
  · rintro ⟨b, rd, h1, h2⟩
    refine ⟨b, ?_, List.mem_map.mpr ⟨rd, h1, h2.symm⟩⟩
    unfold lsOf
    by_cases c : 0 < e
    · rw [if_pos c]; cases b <;> simp
    · rw [if_neg c]
      have e0 : e = 0 := by omega
      subst e0
      cases b with
      | false => simp
      | true => cases h1
theorem pgo_mem : ∀ {row : List Nat} {f : Nat} {ps : List Part} {x : Part}, x ∈ pgo f row ps ↔ ∃ p ∈ ps, ∃ ls c, Fits ways row ls c ∧ x = (p.1 ++ lstd f ls, c.foldl (fun a rd => ext a rd.1 rd.2) p.2)
  | [], f, ps, x => by
    constructor
    · intro h
      refine ⟨x, h, [], [], trivial, ?_⟩
      show x = (x.1 ++ [], x.2)
      rw [List.append_nil]
    · rintro ⟨p, hp, ls, c, hf, rfl⟩
      cases ls with
      | cons _ _ => cases c <;> exact hf.elim
      | nil =>
        cases c with
        | cons _ _ => exact hf.elim
        | nil =>
          show (p.1 ++ [], p.2) ∈ ps
          rw [List.append_nil]; exact hp
  | e :: row, f, ps, x => by
    show x ∈ pgo (f + 1) row (pstep f e ps) ↔ _
    rw [pgo_mem]
    constructor
    · rintro ⟨q, hq, ls, c, hf, rfl⟩
      obtain ⟨p, hp, hq⟩ := List.mem_flatMap.mp hq
      obtain ⟨b, rd, h1, rfl⟩ := pcell_mem.mp hq
      refine ⟨p, hp, b :: ls, rd :: c, ⟨h1, hf⟩, ?_⟩
      show (p.1 ++ (if b = true then [f] else []) ++ lstd (f + 1) ls, _) = (p.1 ++ (if b = true then f :: lstd (f + 1) ls else lstd (f + 1) ls), _)
      cases b with
      | true => rw [if_pos rfl, if_pos rfl, List.append_assoc]; rfl
      | false => rw [if_neg Bool.false_ne_true, if_neg Bool.false_ne_true, List.append_nil]; rfl
    · rintro ⟨p, hp, ls, c, hf, rfl⟩
      cases ls with
      | nil => cases c <;> exact hf.elim
      | cons b ls =>
        cases c with
        | nil => exact hf.elim
        | cons rd c =>
          refine ⟨_, List.mem_flatMap.mpr ⟨p, hp, pcell_mem.mpr ⟨b, rd, hf.1, rfl⟩⟩, ls, c, hf.2, ?_⟩
          show (p.1 ++ (if b = true then f :: lstd (f + 1) ls else lstd (f + 1) ls), _) = (p.1 ++ (if b = true then [f] else []) ++ lstd (f + 1) ls, _)
          cases b with
          | true => rw [if_pos rfl, if_pos rfl, List.append_assoc]; rfl
          | false => rw [if_neg Bool.false_ne_true, if_neg Bool.false_ne_true, List.append_nil]; rfl
theorem RepBK.of {K : PySem.W.Frag} {B H : Hp} {l : List (Addr × HO)} {t : Addr} {x : V} {b : Bool} {G : Addr → Hp → Prop} (L : Led B H l) (ht : B t = some (.tup [x])) (k : ∀ tm B' H', Same B B' → B' tm = some (.tup (if b = true then [x] else [])) → Led B' H' l → G tm H') : RepBK K t (if b = true then 1 else 0) H G := by
  refine ⟨[x], .inl (.inl (L.sm _ _ ht)), fun z => (by cases z), ?_⟩
  by_cases hbt : b = true
  · rw [if_pos hbt]
    exact .inl ⟨rfl, k t B H (Same.refl _) (by rw [if_pos hbt]; exact ht) L⟩
  · rw [if_neg hbt]
    refine .inr ⟨rfl, NewK.of L fun p0 H12 L => ?_⟩
    obtain ⟨B13, s13, hp0, L⟩ := L.sink
    exact k p0 B13 H12 s13 (by rw [if_neg hbt]; exact hp0) L
theorem Led.grabR {H : Hp} {l : List (Addr × HO)} (hl : ∀ e ∈ l, ∀ ys, e.2 ≠ .tup ys) : ∀ {bs : List Addr} {rows : List (List Int)}, RowsT H bs rows → ∀ {B : Hp}, Led B H l → ∃ B', Same B B' ∧ RowsT B' bs rows ∧ Led B' H l
  | _, _, .nil, B, L => ⟨B, Same.refl B, .nil, L⟩
  | _, _, .cons h r, B, L => by
    obtain ⟨B1, s1, h1, L1⟩ := L.grab h hl
    obtain ⟨B2, s2, h2, L2⟩ := Led.grabR hl r L1
    exact ⟨B2, s1.trans s2, .cons (s2 _ _ h1) h2, L2⟩
theorem nv_cat (a b : List Nat) : nv (a ++ b) = nv a ++ nv b := by unfold nv; rw [List.map_append]
theorem two_le : ∀ e : Nat, 1 ≤ e → 2 * e ≤ 2 ^ e
  | 1, _ => by decide
  | e + 2, _ => by
    have := two_le (e + 1) (by omega)
    rw [Nat.pow_succ]
    omega
theorem pcell_len (f e : Nat) (p : Part) : (pcell f e p).length ≤ 2 ^ e := by
  unfold pcell lsOf
  by_cases c : 0 < e
  · rw [if_pos c]
    have := two_le e c
    simp only [List.flatMap_cons, List.flatMap_nil, List.append_nil, List.length_append, List.length_map]
    unfold ways
    rw [if_neg Bool.false_ne_true, if_pos rfl, if_neg (by omega), List.length_map, List.length_map, List.length_range, List.length_range]
    omega
  · have e0 : e = 0 := by omega
    subst e0
    exact Nat.le_refl _
theorem flat_len {α β : Type} {F : α → List β} {k : Nat} : ∀ (l : List α), (∀ x ∈ l, (F x).length ≤ k) → (l.flatMap F).length ≤ l.length * k
  | [], _ => by simp
  | x :: r, h => by
    have h1 := h x List.mem_cons_self
    have h2 := flat_len r fun y hy => h y (List.mem_cons_of_mem _ hy)
    rw [List.flatMap_cons, List.length_append, List.length_cons, Nat.succ_mul]
    omega
theorem pgo_len : ∀ (row : List Nat) (f : Nat) (ps : List Part), (pgo f row ps).length ≤ ps.length * 2 ^ row.sum
  | [], _, _ => by simp [pgo]
  | e :: row, f, ps => by
    have h1 := pgo_len row (f + 1) (pstep f e ps)
    have h2 : (pstep f e ps).length ≤ ps.length * 2 ^ e := flat_len ps fun p _ => pcell_len f e p
    show (pgo (f + 1) row (pstep f e ps)).length ≤ _
    rw [List.sum_cons, Nat.pow_add, ← Nat.mul_assoc]
    exact Nat.le_trans h1 (Nat.mul_le_mul_right _ h2)
def putF (F : List (List Nat)) (ms : List Nat) : List (List Nat) := if ms ∈ F then F else F ++ [ms]
def putP (L : List Part) (x : Part) : List Part := if x ∈ L then L else L ++ [x]
abbrev LF := List Part × List (List Nat)
def endPut (a : LF) (x : Part) : LF := if x.2.sum = 0 then (a.1, putF a.2 x.1) else (putP a.1 x, a.2)
def stState (f : Nat) (a : LF) (p : Part) : LF := (pgo f p.2 [(p.1, [0])]).foldl endPut a
def stLevel (f : Nat) (lvl : List Part) (F : List (List Nat)) : LF := lvl.foldl (stState f) ([], F)
def allAt (n : Nat) : Nat → LF
  | 0 => ([([], [n])], [])
  | t + 1 => stLevel (tri t) (allAt n t).1 (allAt n t).2
theorem putF_mem {F : List (List Nat)} {ms x : List Nat} : x ∈ putF F ms ↔ x ∈ F ∨ x = ms := by
  unfold putF
  split
  · rename_i c
    exact ⟨.inl, fun h => h.elim id fun z => by rw [z]; exact c⟩
  · rw [List.mem_append, List.mem_singleton]
theorem putP_mem {F : List Part} {ms x : Part} : x ∈ putP F ms ↔ x ∈ F ∨ x = ms := by
  unfold putP
  split
  · rename_i c
    exact ⟨.inl, fun h => h.elim id fun z => by rw [z]; exact c⟩
  · rw [List.mem_append, List.mem_singleton]
theorem putF_nodup {F : List (List Nat)} {ms : List Nat} (h : F.Nodup) : (putF F ms).Nodup := by
  unfold putF
  split
  · exact h
  · rename_i c
    refine List.nodup_append.mpr ⟨h, List.nodup_cons.mpr ⟨List.not_mem_nil, List.nodup_nil⟩, fun a ha b hb e => c ?_⟩
    rw [← List.mem_singleton.mp hb, ← e]; exact ha
theorem putP_len (L : List Part) (x : Part) : (putP L x).length ≤ L.length + 1 := by
  unfold putP
  split
  · omega
  · rw [List.length_append]; exact Nat.le_refl _
theorem end_fst {l : List Part} : ∀ {a : LF} {x : Part}, x ∈ (l.foldl endPut a).1 ↔ x ∈ a.1 ∨ (x ∈ l ∧ x.2.sum ≠ 0) := by
  induction l with
  | nil => intro a x; simp
  | cons y r ih =>
    intro a x
    rw [List.foldl_cons, ih]
    unfold endPut
    by_cases c : y.2.sum = 0
    · rw [if_pos c]
      constructor
      · rintro (h | ⟨h, h2⟩)
        · exact .inl h
        · exact .inr ⟨List.mem_cons_of_mem _ h, h2⟩
      · rintro (h | ⟨h, h2⟩)
        · exact .inl h
        · rcases List.mem_cons.mp h with rfl | h
          · exact absurd c h2
          · exact .inr ⟨h, h2⟩
    · rw [if_neg c]
      dsimp only
      rw [putP_mem]
      constructor
      · rintro ((h | rfl) | ⟨h, h2⟩)
        · exact .inl h
        · exact .inr ⟨List.mem_cons_self, c⟩
        · exact .inr ⟨List.mem_cons_of_mem _ h, h2⟩
      · rintro (h | ⟨h, h2⟩)
        · exact .inl (.inl h)
        · rcases List.mem_cons.mp h with rfl | h
          · exact .inl (.inr rfl)
          · exact .inr ⟨h, h2⟩
theorem end_snd {l : List Part} : ∀ {a : LF} {ms : List Nat}, ms ∈ (l.foldl endPut a).2 ↔ ms ∈ a.2 ∨ ∃ x ∈ l, x.2.sum = 0 ∧ x.1 = ms := by
  induction l with
  | nil => intro a x; simp
  | cons y r ih =>
    intro a ms
    rw [List.foldl_cons, ih]
    unfold endPut
    by_cases c : y.2.sum = 0
    · rw [if_pos c]
      dsimp only
      rw [putF_mem]
      constructor
      · rintro ((h | rfl) | ⟨x, h, h2⟩)
        · exact .inl h
        · exact .inr ⟨y, List.mem_cons_self, c, rfl⟩
        · exact .inr ⟨x, List.mem_cons_of_mem _ h, h2⟩
      · rintro (h | ⟨x, h, h2, h3⟩)
        · exact .inl (.inl h)
        · rcases List.mem_cons.mp h with rfl | h
          · exact .inl (.inr h3.symm)
          · exact .inr ⟨x, h, h2, h3⟩
    · rw [if_neg c]
      constructor
      · rintro (h | ⟨x, h, h2⟩)
        · exact .inl h
        · exact .inr ⟨x, List.mem_cons_of_mem _ h, h2⟩
      · rintro (h | ⟨x, h, h2, h3⟩)
        · exact .inl h
        · rcases List.mem_cons.mp h with rfl | h
          · exact absurd h2 c
          · exact .inr ⟨x, h, h2, h3⟩
theorem end_nodup {l : List Part} : ∀ {a : LF}, a.2.Nodup → (l.foldl endPut a).2.Nodup := by
  induction l with
  | nil => intro a h; exact h
  | cons y r ih =>
    intro a h
    rw [List.foldl_cons]
    refine ih ?_
    unfold endPut
    split
    · exact putF_nodup h
    · exact h
theorem end_len {l : List Part} : ∀ {a : LF}, (l.foldl endPut a).1.length ≤ a.1.length + l.length := by
  induction l with
  | nil => intro a; exact Nat.le_refl _
  | cons y r ih =>
    intro a
    rw [List.foldl_cons]
    refine Nat.le_trans ih ?_
    rw [List.length_cons]
    unfold endPut
    split
    · dsimp only; omega
    · have := putP_len a.1 y
      dsimp only; omega
/-- one that is sent on from here -/
def Nxt (t : Nat) (p x : Part) : Prop := ∃ ls c, Fits ways p.2 ls c ∧ x = (p.1 ++ lstd (tri t) ls, My.mg 0 c)
theorem pgo_nxt {t : Nat} {p x : Part} : x ∈ pgo (tri t) p.2 [(p.1, [0])] ↔ Nxt t p x := by
  rw [pgo_mem]
  constructor
  · rintro ⟨q, hq, ls, c, hf, rfl⟩
    rw [List.mem_singleton.mp hq]
    exact ⟨ls, c, hf, by rw [show My.mg 0 c = [] ++ My.mg 0 c from rfl, ← fold_ext c [] 0]; rfl⟩
  · rintro ⟨ls, c, hf, rfl⟩
    exact ⟨_, List.mem_singleton.mpr rfl, ls, c, hf, by rw [show My.mg 0 c = [] ++ My.mg 0 c from rfl, ← fold_ext c [] 0]; rfl⟩
theorem pgo_nxt' {f : Nat} {row ms : List Nat} {x : Part} (h : x ∈ pgo f row [(ms, [0])]) : ∃ ls c, Fits ways row ls c ∧ x = (ms ++ lstd f ls, My.mg 0 c) := by
  rw [pgo_mem] at h
  obtain ⟨q, hq, ls, c, hf, rfl⟩ := h
  rw [List.mem_singleton.mp hq]
  exact ⟨ls, c, hf, by rw [show My.mg 0 c = [] ++ My.mg 0 c from rfl, ← fold_ext c [] 0]; rfl⟩
theorem lev_fst {t : Nat} {l : List Part} : ∀ {a : LF} {x : Part}, x ∈ (l.foldl (stState (tri t)) a).1 ↔ x ∈ a.1 ∨ ((∃ p ∈ l, Nxt t p x) ∧ x.2.sum ≠ 0) := by
  induction l with
  | nil => intro a x; simp
  | cons y r ih =>
    intro a x
    rw [List.foldl_cons, ih]
    unfold stState
    rw [end_fst, pgo_nxt]
    constructor
    · rintro ((h | ⟨h, h2⟩) | ⟨⟨p, hp, h⟩, h2⟩)
      · exact .inl h
      · exact .inr ⟨⟨y, List.mem_cons_self, h⟩, h2⟩
      · exact .inr ⟨⟨p, List.mem_cons_of_mem _ hp, h⟩, h2⟩
    · rintro (h | ⟨⟨p, hp, h⟩, h2⟩)
      · exact .inl (.inl h)
      · rcases List.mem_cons.mp hp with rfl | hp
        · exact .inl (.inr ⟨h, h2⟩)
        · exact .inr ⟨⟨p, hp, h⟩, h2⟩
theorem lev_snd {t : Nat} {l : List Part} : ∀ {a : LF} {ms : List Nat}, ms ∈ (l.foldl (stState (tri t)) a).2 ↔ ms ∈ a.2 ∨ ∃ p ∈ l, ∃ x, Nxt t p x ∧ x.2.sum = 0 ∧ x.1 = ms := by
  induction l with
  | nil => intro a x; simp
  | cons y r ih =>
    intro a ms
    rw [List.foldl_cons, ih]
    unfold stState
    rw [end_snd]
    constructor
    · rintro ((h | ⟨x, h, h2⟩) | ⟨p, hp, x, h, h2⟩)
      · exact .inl h
      · exact .inr ⟨y, List.mem_cons_self, x, pgo_nxt.mp h, h2⟩
      · exact .inr ⟨p, List.mem_cons_of_mem _ hp, x, h, h2⟩
    · rintro (h | ⟨p, hp, x, h, h2⟩)
      · exact .inl (.inl h)
      · rcases List.mem_cons.mp hp with rfl | hp
        · exact .inl (.inr ⟨x, pgo_nxt.mpr h, h2⟩)
        · exact .inr ⟨p, hp, x, h, h2⟩
theorem lev_nodup {f : Nat} {l : List Part} : ∀ {a : LF}, a.2.Nodup → (l.foldl (stState f) a).2.Nodup := by
  induction l with
  | nil => intro a h; exact h
  | cons y r ih =>
    intro a h
    rw [List.foldl_cons]
    exact ih (end_nodup h)
theorem lev_len {f : Nat} {l : List Part} : ∀ {a : LF}, (∀ p ∈ l, p.2.sum ≤ 5) → (l.foldl (stState f) a).1.length ≤ a.1.length + 32 * l.length := by
  induction l with
  | nil => intro a _; exact Nat.le_refl _
  | cons y r ih =>
    intro a h
    rw [List.foldl_cons]
    refine Nat.le_trans (ih fun p hp => h p (List.mem_cons_of_mem _ hp)) ?_
    have h1 : (stState f a y).1.length ≤ _ := end_len (l := pgo f y.2 [(y.1, [0])]) (a := a)
    have h2 := pgo_len y.2 f [(y.1, [0])]
    have h3 : 2 ^ y.2.sum ≤ 2 ^ 5 := Nat.pow_le_pow_right (by decide) (h y List.mem_cons_self)
    rw [List.length_singleton, Nat.one_mul] at h2
    rw [List.length_cons]
    omega
/-- all are named who have been sent to diagonal s, in the row r -/
def Done (n s : Nat) (ms : List Nat) : Prop := ∃ p x, Sent n s p.1 p.2 ∧ 0 < p.2.sum ∧ Nxt s p x ∧ x.2.sum = 0 ∧ x.1 = ms
theorem Nxt.sent {n t : Nat} {p x : Part} (h : Sent n t p.1 p.2) (hn : Nxt t p x) : Sent n (t + 1) x.1 x.2 := by
  obtain ⟨ls, c, hf, rfl⟩ := hn
  exact h.next hf
theorem asc_filter {ms : List Nat} (h : ms.Pairwise (· < ·)) (P : Nat → Bool) : (ms.filter P).Pairwise (· < ·) := h.sublist (List.filter_sublist)
theorem asc_ext : ∀ {a b : List Nat}, a.Pairwise (· < ·) → b.Pairwise (· < ·) → (∀ x, x ∈ a ↔ x ∈ b) → a = b
  | [], [], _, _, _ => rfl
  | [], y :: b, _, _, h => by have := (h y).mpr List.mem_cons_self; cases this
  | x :: a, [], _, _, h => by have := (h x).mp List.mem_cons_self; cases this
  | x :: a, y :: b, ha, hb, h => by
    obtain ⟨ha1, ha2⟩ := List.pairwise_cons.mp ha
    obtain ⟨hb1, hb2⟩ := List.pairwise_cons.mp hb
    have e : x = y := by
      rcases List.mem_cons.mp ((h x).mp List.mem_cons_self) with c | c
      · exact c
      · rcases List.mem_cons.mp ((h y).mpr List.mem_cons_self) with d | d
        · exact d.symm
        · have := ha1 y d; have := hb1 x c; omega
    subst e
    rw [asc_ext ha2 hb2 fun z => ?_]
    constructor
    · intro hz
      rcases List.mem_cons.mp ((h z).mp (List.mem_cons_of_mem _ hz)) with c | c
      · have := ha1 z hz; omega
      · exact c
    · intro hz
      rcases List.mem_cons.mp ((h z).mpr (List.mem_cons_of_mem _ hz)) with c | c
      · have := hb1 z hz; omega
      · exact c
theorem row_congr {nm nm' : Nat → Bool} {n t : Nat} {row : List Nat} (e : ∀ x, x < tri t → nm x = nm' x) (h : RowAt ways nm n t row) : RowAt ways nm' n t row := RowAt.congr e h
theorem sent_of {n t : Nat} {ms row : List Nat} (ha : ms.Pairwise (· < ·)) (hl : ms.length = n) (h : RowAt ways (nmOf ms) n t row) : Sent n t (ms.filter fun x => decide (x < tri t)) row := by
  have nd : ms.Nodup := ha.imp fun z => Nat.ne_of_lt z
  refine ⟨row_congr (fun x hx => ?_) h, asc_filter ha _, fun x hx => of_decide_eq_true (List.mem_filter.mp hx).2, ?_⟩
  · unfold nmOf
    refine decide_eq_decide.mpr ⟨fun z => List.mem_filter.mpr ⟨z, decide_eq_true hx⟩, fun z => (List.mem_filter.mp z).1⟩
  · have h1 := RowAt.total h
    have h2 := lsAt_count (nmOf ms) t
    have h3 := names_in nd (tri t)
    unfold nmOf at h1 h2
    omega
theorem nxt_of {n t : Nat} {ms r0 row : List Nat} (ha : ms.Pairwise (· < ·)) (h0 : RowAt ways (nmOf ms) n t r0) (hr : row ∈ rowsFrom ways r0 (lsAt (nmOf ms) t)) : Nxt t (ms.filter (fun x => decide (x < tri t)), r0) (ms.filter (fun x => decide (x < tri (t + 1))), row) := by
  obtain ⟨⟨l0, _⟩, _⟩ := RowAt.ok ways_ok h0
  rw [rows_mem (by rw [l0, lsAt_len])] at hr
  obtain ⟨c, hc, rfl⟩ := hr
  refine ⟨lsAt (nmOf ms) t, c, hc, ?_⟩
  congr 1
  refine asc_ext (asc_filter ha _) ?_ fun x => ?_
  · refine List.pairwise_append.mpr ⟨asc_filter ha _, lstd_asc _ _, fun a h1 b h2 => ?_⟩
    have := of_decide_eq_true (List.mem_filter.mp h1).2
    have := (lstd_mem.mp h2).1
    omega
  · rw [List.mem_append, lstd_mem, List.mem_filter, List.mem_filter, decide_eq_true_iff, decide_eq_true_iff, tri_succ]
    constructor
    · rintro ⟨h1, h2⟩
      by_cases c : x < tri t
      · exact .inl ⟨h1, c⟩
      · refine .inr ⟨by omega, ?_⟩
        unfold lsAt
        rw [List.getElem?_map, List.getElem?_range (by omega)]
        show some (nmOf ms (tri t + (x - tri t))) = _
        rw [show tri t + (x - tri t) = x by omega]
        unfold nmOf
        rw [decide_eq_true h1]
    · rintro (⟨h1, h2⟩ | ⟨h1, h2⟩)
      · exact ⟨h1, by omega⟩
      · have hi := (List.getElem?_eq_some_iff.mp h2).1
        rw [lsAt_len] at hi
        unfold lsAt at h2
        rw [List.getElem?_map, List.getElem?_range hi] at h2
        have h2 : some (nmOf ms (tri t + (x - tri t))) = some true := h2
        rw [show tri t + (x - tri t) = x by omega] at h2
        exact ⟨of_decide_eq_true (Option.some.inj h2), by omega⟩
theorem Sent.len_le {n t : Nat} {ms row : List Nat} (h : Sent n t ms row) : row.sum ≤ n := by have := h.tot; omega
/-- whoever is sent on was sent here -/
theorem Sent.back {n t : Nat} {ms row : List Nat} (h : Sent n (t + 1) ms row) : ∃ p, Sent n t p.1 p.2 ∧ Nxt t p (ms, row) := by
  obtain ⟨r0, h0, hr⟩ := h.here
  have nd : ms.Nodup := h.asc.imp fun z => Nat.ne_of_lt z
  have hx := nxt_of h.asc h0 hr
  have e : ms.filter (fun x => decide (x < tri (t + 1))) = ms := List.filter_eq_self.mpr fun x hx => decide_eq_true (h.lt x hx)
  rw [e] at hx
  refine ⟨_, ⟨row_congr (fun x hx => ?_) h0, asc_filter h.asc _, fun x hx => of_decide_eq_true (List.mem_filter.mp (show x ∈ ms.filter (fun x => decide (x < tri t)) from hx)).2, ?_⟩, hx⟩
  · unfold nmOf
    refine decide_eq_decide.mpr ⟨fun z => List.mem_filter.mpr ⟨z, decide_eq_true hx⟩, fun z => (List.mem_filter.mp z).1⟩
  · have h1 := RowAt.total h0
    have h2 := lsAt_count (nmOf ms) t
    have h3 := names_in nd (tri t)
    unfold nmOf at h1 h2
    show r0.sum + (ms.filter _).length = n
    omega
theorem nxt_zero {t : Nat} {p x : Part} (h : Nxt t p x) (h0 : p.2.sum = 0) : x.2.sum = 0 := by
  obtain ⟨ls, c, hf, rfl⟩ := h
  have := Fits.sum ways_ok hf
  show (My.mg 0 c).sum = 0
  rw [mg_sum]
  omega
structure AllOk (n t : Nat) (a : LF) : Prop where
  snd : ∀ p ∈ a.1, Sent n t p.1 p.2 ∧ 0 < p.2.sum
  cpl : ∀ p : Part, Sent n t p.1 p.2 → 0 < p.2.sum → p ∈ a.1
  fnd : ∀ ms, ms ∈ a.2 ↔ ∃ s, s < t ∧ Done n s ms
  nd : a.2.Nodup
theorem allAt_ok {n : Nat} (hn : 0 < n) : ∀ t, AllOk n t (allAt n t)
  | 0 => by
    refine ⟨fun p hp => ?_, fun p h h0 => ?_, fun ms => Iff.intro (fun h => absurd h List.not_mem_nil) (fun h => by obtain ⟨s, h, _⟩ := h; omega), List.nodup_nil⟩
    · rw [List.mem_singleton.mp hp]
      exact ⟨Sent.first n, by simpa using hn⟩
    · have h1 : p.2 = [n] := h.here
      have h2 := h.tot
      have h4 : p.2.sum = n := by rw [h1]; simp
      have h3 : p.1 = [] := List.length_eq_zero_iff.mp (by omega)
      exact List.mem_singleton.mpr (Prod.ext h3 h1)
  | t + 1 => by
    have ih := allAt_ok hn t
    generalize hA : allAt n t = A at ih
    have e : allAt n (t + 1) = A.1.foldl (stState (tri t)) ([], A.2) := by rw [← hA]; rfl
    rw [e]
    refine ⟨fun p hp => ?_, fun p h h0 => ?_, fun ms => ?_, lev_nodup ih.nd⟩
    · rcases lev_fst.mp hp with h | ⟨⟨q, hq, h⟩, h2⟩
      · cases h
      · exact ⟨h.sent (ih.snd q hq).1, by omega⟩
    · obtain ⟨q, hq, hx⟩ := Sent.back (ms := p.1) (row := p.2) h
      refine lev_fst.mpr (.inr ⟨⟨q, ih.cpl q hq ?_, hx⟩, by omega⟩)
      rcases Nat.eq_zero_or_pos q.2.sum with c | c
      · have : p.2.sum = 0 := nxt_zero hx c
        omega
      · exact c
    · rw [lev_snd]
      dsimp only
      rw [ih.fnd]
      constructor
      · rintro (⟨s, h1, h2⟩ | ⟨p, hp, x, h1, h2, h3⟩)
        · exact ⟨s, by omega, h2⟩
        · exact ⟨t, by omega, p, x, (ih.snd p hp).1, (ih.snd p hp).2, h1, h2, h3⟩
      · rintro ⟨s, h1, h2⟩
        rcases Nat.lt_or_ge s t with c | c
        · exact .inl ⟨s, c, h2⟩
        · have : s = t := by omega
          subst this
          obtain ⟨p, x, a1, a2, a3, a4, a5⟩ := h2
          exact .inr ⟨p, ih.cpl p a1 a2, x, a3, a4, a5⟩
theorem Done.poss {n s : Nat} {ms : List Nat} (hs : s < n) (h : Done n s ms) : Poss n ms := by
  obtain ⟨p, x, h1, _, h3, h4, h5⟩ := h
  have := (h3.sent h1).done (by omega) h4
  rw [h5] at this
  exact this
theorem Poss.done {n : Nat} (hn : 0 < n) {ms : List Nat} (h : Poss n ms) : ∃ s, s < n ∧ Done n s ms := by
  obtain ⟨rn, hrn⟩ := h.ok n (Nat.le_refl n)
  have key : ∀ t row, RowAt ways (nmOf ms) n t row → row.sum = 0 → ∃ s, s < t ∧ ∃ p x : Part, Sent n s p.1 p.2 ∧ 0 < p.2.sum ∧ Nxt s p x ∧ x.2.sum = 0 ∧ x.1 = ms.filter fun y => decide (y < tri (s + 1)) := by
    intro t
    induction t with
    | zero =>
      intro row hr h0
      have hr : row = [n] := hr
      rw [hr] at h0
      simp at h0
      omega
    | succ t ih =>
      rintro row ⟨r0, h0, hr⟩ hz
      rcases Nat.eq_zero_or_pos r0.sum with c | c
      · obtain ⟨s, hs, r⟩ := ih r0 h0 c
        exact ⟨s, by omega, r⟩
      · exact ⟨t, by omega, _, _, sent_of h.asc h.len h0, c, nxt_of h.asc h0 hr, hz, rfl⟩
  have hz : rn.sum = 0 := by
    obtain ⟨⟨_, f⟩, _⟩ := RowAt.ok ways_ok hrn
    exact zero_row f (Nat.le_refl _)
  obtain ⟨s, hs, p, x, h1, h2, h3, h4, h5⟩ := key n rn hrn hz
  refine ⟨s, hs, p, x, h1, h2, h3, h4, ?_⟩
  rw [h5]
  have ht := (h3.sent h1).tot
  rw [h4, h5, Nat.zero_add] at ht
  have := List.length_filter_eq_length_iff.mp (ht.trans h.len.symm)
  exact List.filter_eq_self.mpr this
theorem all_mem {n : Nat} (hn : 0 < n) (ms : List Nat) : ms ∈ (allAt n n).2 ↔ Poss n ms := by
  rw [(allAt_ok hn n).fnd]
  exact ⟨fun ⟨s, hs, h⟩ => h.poss hs, fun h => h.done hn⟩
def code (ms : List Nat) : Nat := ms.foldr (fun x a => a ||| 2 ^ x) 0
theorem code_bit (i : Nat) : ∀ ms : List Nat, (code ms).testBit i = decide (i ∈ ms)
  | [] => by simp [code]
  | x :: r => by
    show ((code r) ||| 2 ^ x).testBit i = _
    rw [Nat.testBit_or, code_bit i r, Nat.testBit_two_pow]
    by_cases c : i = x
    · subst c; simp
    · have e : decide (x = i) = false := decide_eq_false (fun z => c z.symm)
      rw [e, Bool.or_false]
      refine decide_eq_decide.mpr ⟨fun z => List.mem_cons_of_mem _ z, fun z => ?_⟩
      rcases List.mem_cons.mp z with z | z
      · exact absurd z c
      · exact z
theorem code_lt {k : Nat} : ∀ {ms : List Nat}, (∀ x ∈ ms, x < k) → code ms < 2 ^ k
  | [], _ => Nat.two_pow_pos k
  | x :: r, h => by
    show (code r) ||| 2 ^ x < 2 ^ k
    exact Nat.or_lt_two_pow (code_lt fun y hy => h y (List.mem_cons_of_mem _ hy)) (Nat.pow_lt_pow_right (by decide) (h x List.mem_cons_self))
theorem poss_few {n : Nat} (h5 : n ≤ 5) {l : List (List Nat)} (nd : l.Nodup) (h : ∀ ms ∈ l, Poss n ms) : l.length ≤ 32768 := by
  have inj : (l.map code).Nodup := by
    rw [List.nodup_iff_pairwise_ne, List.pairwise_map]
    refine List.Pairwise.imp_of_mem (fun {a b} ha hb hne e => hne ?_) nd
    refine asc_ext (h a ha).asc (h b hb).asc fun x => ?_
    have := congrArg (fun z => Nat.testBit z x) e
    rw [code_bit, code_bit] at this
    exact decide_eq_decide.mp this
  have := inj.length_le_of_subset (l₂ := List.range (2 ^ 15)) fun x hx => by
    obtain ⟨ms, hms, rfl⟩ := List.mem_map.mp hx
    refine List.mem_range.mpr (code_lt fun y hy => ?_)
    have h1 := (h ms hms).lt y hy
    have h2 : tri n ≤ tri 5 := tri_mono h5
    have h3 : tri 5 = 15 := rfl
    omega
  rw [List.length_map, List.length_range] at this
  exact this
def GoodA (n b : Nat) (a : LF) : Prop := a.2.Nodup ∧ (∀ ms ∈ a.2, Poss n ms) ∧ a.1.length ≤ b
theorem AllOk.good {n t : Nat} {a : LF} (h : AllOk n t a) (ht : t ≤ n) : a.2.Nodup ∧ ∀ ms ∈ a.2, Poss n ms := ⟨h.nd, fun ms hm => by
  obtain ⟨s, hs, hd⟩ := (h.fnd ms).mp hm
  exact hd.poss (by omega)⟩
theorem allAt_len {n : Nat} (hn : 0 < n) (h5 : n ≤ 5) : ∀ t, (allAt n t).1.length ≤ 32 ^ t
  | 0 => Nat.le_refl _
  | t + 1 => by
    have ih := allAt_len hn h5 t
    have ok := allAt_ok hn t
    have : (allAt n (t + 1)).1.length ≤ 0 + 32 * (allAt n t).1.length := lev_len (a := ([], (allAt n t).2)) fun p hp => by
      have := (ok.snd p hp).1.len_le
      omega
    rw [Nat.pow_succ]
    omega
/-! how it stands in the heap -/
def zs (l : List Nat) : List Int := l.map fun (n : Nat) => (n : Int)
theorem zs_nv (l : List Nat) : (zs l).map V.int = nv l := (nv_ints l).symm
theorem zs_inj : ∀ {a b : List Nat}, zs a = zs b → a = b
  | [], [], _ => rfl
  | [], _ :: _, h => by cases h
  | _ :: _, [], h => by cases h
  | x :: a, y :: b, h => by
    have h : (x : Int) :: zs a = (y : Int) :: zs b := h
    injection h with h1 h2
    rw [zs_inj h2, Int.ofNat.inj h1]
def toNK (p : Part) : NK := (zs p.1, zs p.2)
theorem toNK_inj {p q : Part} (h : toNK p = toNK q) : p = q := by
  injection h with h1 h2
  exact Prod.ext (zs_inj h1) (zs_inj h2)
theorem PK.of {B : Hp} {q r s : Addr} {p : Part} (h : B q = some (.tup [.ref r, .ref s])) (h1 : B r = some (.tup (nv p.1))) (h2 : B s = some (.tup (nv p.2))) : PK B q (toNK p) :=
  ⟨r, s, h, by rw [h1]; exact congrArg (fun z => some (HO.tup z)) (zs_nv p.1).symm, by rw [h2]; exact congrArg (fun z => some (HO.tup z)) (zs_nv p.2).symm⟩
theorem PK.get {B : Hp} {q : Addr} {p : Part} (h : PK B q (toNK p)) : ∃ r s, B q = some (.tup [.ref r, .ref s]) ∧ B r = some (.tup (nv p.1)) ∧ B s = some (.tup (nv p.2)) := by
  obtain ⟨r, s, h1, h2, h3⟩ := h
  refine ⟨r, s, h1, ?_, ?_⟩
  · rw [h2]; exact congrArg (fun z => some (HO.tup z)) (zs_nv p.1)
  · rw [h3]; exact congrArg (fun z => some (HO.tup z)) (zs_nv p.2)
def NsAt (B : Hp) (xs : List (NK × Addr)) (lvl : List Part) : Prop := Paired (fun x p => x.1 = toNK p ∧ PK B x.2 (toNK p)) xs lvl
theorem NsAt.mono {B B' : Hp} (s : Same B B') {xs : List (NK × Addr)} {lvl : List Part} (h : NsAt B xs lvl) : NsAt B' xs lvl := Paired.mapP h fun _ _ z => ⟨z.1, z.2.mono s⟩
theorem NsAt.keys {B : Hp} {xs : List (NK × Addr)} {lvl : List Part} (h : NsAt B xs lvl) : xs.map (·.1) = lvl.map toNK := by
  unfold NsAt at h
  induction h with
  | nil => rfl
  | cons h _ ih => rw [List.map_cons, List.map_cons, ih, h.1]
theorem NsAt.all {B : Hp} {xs : List (NK × Addr)} {lvl : List Part} (h : NsAt B xs lvl) : ∀ x ∈ xs, PK B x.2 x.1 := by
  unfold NsAt at h
  induction h with
  | nil => intro x hx; cases hx
  | cons h _ ih =>
    intro x hx
    rcases List.mem_cons.mp hx with e | hx
    · rw [e, h.1]; exact h.2
    · exact ih x hx
theorem NsAt.put {B : Hp} {xs : List (NK × Addr)} {lvl : List Part} {q : Addr} {p : Part} (h : NsAt B xs lvl) (hq : PK B q (toNK p)) : NsAt B (putN xs (toNK p) q) (putP lvl p) := by
  unfold putN putP
  rw [h.keys]
  by_cases c : p ∈ lvl
  · rw [if_pos (List.mem_map_of_mem c), if_pos c]; exact h
  · rw [if_neg (fun z => c (by obtain ⟨y, hy, e⟩ := List.mem_map.mp z; rw [← toNK_inj e]; exact hy)), if_neg c]
    exact Paired.snoc h ⟨rfl, hq⟩
def fk (F : List (List Nat)) : List (List Key × V) := F.map fun ms => (rk ms, V.bl true)
theorem fk_any (F : List (List Nat)) (ms : List Nat) : ((fk F).any fun kv => decide (kv.1 = rk ms)) = decide (ms ∈ F) := by
  unfold fk
  rw [List.any_map]
  induction F with
  | nil => rfl
  | cons y r ih =>
    rw [List.any_cons, ih]
    by_cases c : y = ms
    · subst c
      rw [decide_eq_true (List.mem_cons_self)]
      show (decide (rk y = rk y) || _) = true
      rw [decide_eq_true rfl, Bool.true_or]
    · show (decide (rk y = rk ms) || _) = _
      rw [decide_eq_false (fun z => c (rk_inj z)), Bool.false_or]
      refine decide_eq_decide.mpr ⟨fun z => List.mem_cons_of_mem _ z, fun z => ?_⟩
      rcases List.mem_cons.mp z with z | z
      · exact absurd z.symm c
      · exact z
theorem fk_put (F : List (List Nat)) (ms : List Nat) : putK (fk F) (rk ms) (.bl true) = fk (putF F ms) := by
  unfold putK putF
  rw [fk_any]
  by_cases c : ms ∈ F
  · rw [if_pos (decide_eq_true c), if_pos c]
    unfold fk
    rw [List.map_map]
    refine List.map_congr_left fun y _ => ?_
    show (if rk y = rk ms then (rk y, V.bl true) else (rk y, V.bl true)) = _
    split <;> rfl
  · rw [if_neg (by rw [decide_eq_false c]; exact Bool.false_ne_true), if_neg c]
    unfold fk
    rw [List.map_append]
    rfl
def PtAt (B : Hp) (as : List Addr) (ps : List Part) : Prop := Paired (fun a p => PK B a (toNK p)) as ps
theorem PtAt.mono {B B' : Hp} (s : Same B B') {as : List Addr} {ps : List Part} (h : PtAt B as ps) : PtAt B' as ps := Paired.mapP h fun _ _ z => z.mono s
/-! the ends of a row, as the program makes them -/
def ecell (f e : Nat) (p : Part) : List Part := ((ways e false).map fun rd => (p.1, ext p.2 rd.1 rd.2)) ++ (ways e true).map fun rd => (p.1 ++ [f], ext p.2 rd.1 rd.2)
def estep (f e : Nat) (E : List Part) : List Part := (E.flatMap (ecell f e)).foldl putP []
def ego : Nat → List Nat → List Part → List Part
  | _, [], ps => ps
  | f, e :: row, ps => ego (f + 1) row (estep f e ps)
def endsOf (f : Nat) (row : List Nat) : List Part := ego f row [([], [0])]
theorem ego_snoc {e : Nat} : ∀ (row : List Nat) (f : Nat) (ps : List Part), ego f (row ++ [e]) ps = estep (f + row.length) e (ego f row ps)
  | [], f, ps => rfl
  | x :: row, f, ps => by
    show ego (f + 1) (row ++ [e]) (estep f x ps) = _
    rw [ego_snoc row, List.length_cons, show f + 1 + row.length = f + (row.length + 1) by omega]
    rfl
theorem ecell_mem {f e : Nat} {p x : Part} : x ∈ ecell f e p ↔ x ∈ pcell f e p := by
  rw [pcell_mem]
  unfold ecell
  rw [List.mem_append, List.mem_map, List.mem_map]
  constructor
  · rintro (⟨rd, h, rfl⟩ | ⟨rd, h, rfl⟩)
    · exact ⟨false, rd, h, by rw [if_neg Bool.false_ne_true, List.append_nil]⟩
    · exact ⟨true, rd, h, by rw [if_pos rfl]⟩
  · rintro ⟨b, rd, h, rfl⟩
    cases b with
    | false => exact .inl ⟨rd, h, by rw [if_neg Bool.false_ne_true, List.append_nil]⟩
    | true => exact .inr ⟨rd, h, by rw [if_pos rfl]⟩
theorem ecell_len (f e : Nat) (p : Part) : (ecell f e p).length ≤ 2 ^ e := by
  unfold ecell
  rw [List.length_append, List.length_map, List.length_map]
  by_cases c : 0 < e
  · have := two_le e c
    unfold ways
    rw [if_neg Bool.false_ne_true, if_pos rfl, if_neg (by omega), List.length_map, List.length_map, List.length_range, List.length_range]
    omega
  · have e0 : e = 0 := by omega
    subst e0
    exact Nat.le_refl _
theorem foldP_mem {l : List Part} : ∀ {a : List Part} {x : Part}, x ∈ l.foldl putP a ↔ x ∈ a ∨ x ∈ l := by
  induction l with
  | nil => intro a x; simp
  | cons y r ih =>
    intro a x
    rw [List.foldl_cons, ih, putP_mem, List.mem_cons]
    constructor
    · rintro ((h | h) | h)
      · exact .inl h
      · exact .inr (.inl h)
      · exact .inr (.inr h)
    · rintro (h | h | h)
      · exact .inl (.inl h)
      · exact .inl (.inr h)
      · exact .inr h
theorem foldP_len {l : List Part} : ∀ {a : List Part}, (l.foldl putP a).length ≤ a.length + l.length := by
  induction l with
  | nil => intro a; exact Nat.le_refl _
  | cons y r ih =>
    intro a
    rw [List.foldl_cons, List.length_cons]
    have h1 := ih (a := putP a y)
    have h2 := putP_len a y
    omega
theorem ego_mem : ∀ {row : List Nat} {f : Nat} {ps qs : List Part} (_ : ∀ x, x ∈ ps ↔ x ∈ qs) {x : Part}, x ∈ ego f row ps ↔ x ∈ pgo f row qs
  | [], f, ps, qs, h, x => h x
  | e :: row, f, ps, qs, h, x => by
    show x ∈ ego (f + 1) row (estep f e ps) ↔ x ∈ pgo (f + 1) row (pstep f e qs)
    refine ego_mem (fun y => ?_)
    unfold estep pstep
    rw [foldP_mem, List.mem_flatMap, List.mem_flatMap]
    constructor
    · rintro (h1 | ⟨p, h1, h2⟩)
      · cases h1
      · exact ⟨p, (h p).mp h1, ecell_mem.mp h2⟩
    · rintro ⟨p, h1, h2⟩
      exact .inr ⟨p, (h p).mpr h1, ecell_mem.mpr h2⟩
theorem ends_mem {f : Nat} {row : List Nat} {x : Part} : x ∈ endsOf f row ↔ x ∈ pgo f row [([], [0])] := ego_mem fun _ => Iff.rfl
theorem ego_len : ∀ (row : List Nat) (f : Nat) (ps : List Part), (ego f row ps).length ≤ ps.length * 2 ^ row.sum
  | [], _, _ => by simp [ego]
  | e :: row, f, ps => by
    have h1 := ego_len row (f + 1) (estep f e ps)
    have h2 : (estep f e ps).length ≤ ps.length * 2 ^ e := by
      have h3 : (estep f e ps).length ≤ 0 + _ := foldP_len
      have h4 := flat_len (F := ecell f e) ps fun p _ => ecell_len f e p
      omega
    show (ego (f + 1) row (estep f e ps)).length ≤ _
    rw [List.sum_cons, Nat.pow_add, ← Nat.mul_assoc]
    exact Nat.le_trans h1 (Nat.mul_le_mul_right _ h2)
/-- the pair (row, names) as a key -/
def swp (p : Part) : Part := (p.2, p.1)
theorem putP_swp (L : List Part) (p : Part) : (putP L p).map swp = putP (L.map swp) (swp p) := by
  unfold putP
  by_cases c : p ∈ L
  · rw [if_pos c, if_pos (List.mem_map_of_mem c)]
  · rw [if_neg c, if_neg (fun z => c (by obtain ⟨y, hy, e⟩ := List.mem_map.mp z; injection e with e1 e2; rw [← Prod.ext e2 e1]; exact hy)), List.map_append]
    rfl
theorem NsAt.pts {B : Hp} {xs : List (NK × Addr)} {l : List Part} (h : NsAt B xs l) : PtAt B (xs.map (·.2)) l := by
  unfold NsAt at h
  induction h with
  | nil => exact .nil
  | cons h _ ih => exact .cons h.2 ih
def sp_ends_of (K : PySem.W.Frag) : Sp := fun vs H Q _ => ∃ (a : Addr) (row : List Nat) (f : Nat), vs = [.ref a, .int f] ∧ H a = some (.tup (nv row)) ∧ row.length ≤ 8 ∧ row.sum ≤ 5 ∧
  ∀ p as B' H', Same H B' → PtAt B' as ((endsOf f row).map swp) → Led B' H' [(p, .lst (as.map V.ref))] → Q (.ref p) H'
/-! rows, and the names that are taken before them -/
abbrev FD := List (List Nat × List (List Nat))
def hasF (D : FD) (k : List Nat) : Bool := D.any fun e => decide (e.1 = k)
def addTo (D : FD) (k : List Nat) (nss : List (List Nat)) : FD := if hasF D k = true then D.map (fun e => if e.1 = k then (e.1, nss.foldl putF e.2) else e) else D ++ [(k, nss.foldl putF [])]
def faRow (t : Nat) (acc : FD) (e : List Nat × List (List Nat)) : FD := (endsOf (tri t) e.1).foldl (fun acc x => addTo acc x.2 (e.2.map fun ns => ns ++ x.1)) acc
def faAll (t : Nat) (D : FD) : FD := D.foldl (faRow t) []
/-- the row k is entered by those who have the names ns -/
def InF (D : FD) (k ns : List Nat) : Prop := ∃ e ∈ D, e.1 = k ∧ ns ∈ e.2
theorem hasF_iff {D : FD} {k : List Nat} : hasF D k = true ↔ ∃ e ∈ D, e.1 = k := by
  unfold hasF
  rw [List.any_eq_true]
  exact ⟨fun ⟨e, h, z⟩ => ⟨e, h, of_decide_eq_true z⟩, fun ⟨e, h, z⟩ => ⟨e, h, decide_eq_true z⟩⟩
theorem foldF_mem {l : List (List Nat)} : ∀ {a : List (List Nat)} {x : List Nat}, x ∈ l.foldl putF a ↔ x ∈ a ∨ x ∈ l := by
  induction l with
  | nil => intro a x; simp
  | cons y r ih =>
    intro a x
    rw [List.foldl_cons, ih, putF_mem, List.mem_cons]
    constructor
    · rintro ((h | h) | h)
      · exact .inl h
      · exact .inr (.inl h)
      · exact .inr (.inr h)
    · rintro (h | h | h)
      · exact .inl (.inl h)
      · exact .inl (.inr h)
      · exact .inr h
theorem foldF_nodup {l : List (List Nat)} : ∀ {a : List (List Nat)}, a.Nodup → (l.foldl putF a).Nodup := by
  induction l with
  | nil => intro a h; exact h
  | cons y r ih => intro a h; exact ih (putF_nodup h)
theorem addTo_keys {D : FD} {k : List Nat} {nss : List (List Nat)} : (addTo D k nss).map Prod.fst = if hasF D k = true then D.map Prod.fst else D.map Prod.fst ++ [k] := by
  unfold addTo
  split
  · rw [List.map_map]
    refine List.map_congr_left fun e _ => ?_
    show (if e.1 = k then (e.1, nss.foldl putF e.2) else e).1 = e.1
    split <;> rfl
  · rw [List.map_append]
    rfl
theorem addTo_in {D : FD} {k k2 x : List Nat} {nss : List (List Nat)} : InF (addTo D k nss) k2 x ↔ InF D k2 x ∨ (k2 = k ∧ x ∈ nss) ∨ (k2 = k ∧ False) := by
  unfold addTo InF
  split
  · rename_i hk
    constructor
    · rintro ⟨e, he, h1, h2⟩
      obtain ⟨e0, he0, rfl⟩ := List.mem_map.mp he
      by_cases c : e0.1 = k
      · rw [if_pos c] at h1 h2
        rcases foldF_mem.mp h2 with h2 | h2
        · exact .inl ⟨e0, he0, h1, h2⟩
        · exact .inr (.inl ⟨by rw [← h1, ← c], h2⟩)
      · rw [if_neg c] at h1 h2
        exact .inl ⟨e0, he0, h1, h2⟩
    · rintro (⟨e, he, h1, h2⟩ | ⟨rfl, h2⟩ | ⟨_, h⟩)
      · refine ⟨_, List.mem_map_of_mem he, ?_⟩
        by_cases c : e.1 = k
        · rw [if_pos c]
          exact ⟨h1, foldF_mem.mpr (.inl h2)⟩
        · rw [if_neg c]
          exact ⟨h1, h2⟩
      · obtain ⟨e, he, h1⟩ := hasF_iff.mp hk
        refine ⟨_, List.mem_map_of_mem he, ?_⟩
        rw [if_pos h1]
        exact ⟨h1, foldF_mem.mpr (.inr h2)⟩
      · exact h.elim
  · constructor
    · rintro ⟨e, he, h1, h2⟩
      rcases List.mem_append.mp he with he | he
      · exact .inl ⟨e, he, h1, h2⟩
      · rw [List.mem_singleton.mp he] at h1 h2
        rcases foldF_mem.mp h2 with h2 | h2
        · cases h2
        · exact .inr (.inl ⟨h1.symm, h2⟩)
    · rintro (⟨e, he, h1, h2⟩ | ⟨rfl, h2⟩ | ⟨_, h⟩)
      · exact ⟨e, List.mem_append_left _ he, h1, h2⟩
      · exact ⟨_, List.mem_append_right _ (List.mem_singleton.mpr rfl), rfl, foldF_mem.mpr (.inr h2)⟩
      · exact h.elim
/-- one set for each row, each name list once -/
structure FdOk (D : FD) : Prop where
  keys : (D.map Prod.fst).Nodup
  sets : ∀ e ∈ D, e.2.Nodup
theorem FdOk.add {D : FD} {k : List Nat} {nss : List (List Nat)} (h : FdOk D) : FdOk (addTo D k nss) := by
  refine ⟨?_, fun e he => ?_⟩
  · rw [addTo_keys]
    split
    · exact h.keys
    · rename_i c
      refine List.nodup_append.mpr ⟨h.keys, List.nodup_cons.mpr ⟨List.not_mem_nil, List.nodup_nil⟩, fun a ha b hb e => c ?_⟩
      rw [List.mem_singleton.mp hb] at e
      obtain ⟨y, hy, e2⟩ := List.mem_map.mp ha
      exact hasF_iff.mpr ⟨y, hy, by rw [e2, e]⟩
  · unfold addTo at he
    split at he
    · obtain ⟨e0, he0, rfl⟩ := List.mem_map.mp he
      split
      · exact foldF_nodup (h.sets e0 he0)
      · exact h.sets e0 he0
    · rcases List.mem_append.mp he with he | he
      · exact h.sets e he
      · rw [List.mem_singleton.mp he]
        exact foldF_nodup List.nodup_nil
theorem fold_add {α : Type} {K : α → List Nat} {S : α → List (List Nat)} {l : List α} : ∀ {D : FD}, (FdOk D → FdOk (l.foldl (fun acc x => addTo acc (K x) (S x)) D)) ∧ ∀ k ns, InF (l.foldl (fun acc x => addTo acc (K x) (S x)) D) k ns ↔ InF D k ns ∨ ∃ x ∈ l, k = K x ∧ ns ∈ S x := by
  induction l with
  | nil => intro D; exact ⟨id, fun k ns => by simp⟩
  | cons y r ih =>
    intro D
    rw [List.foldl_cons]
    obtain ⟨h1, h2⟩ := ih (D := addTo D (K y) (S y))
    refine ⟨fun h => h1 h.add, fun k ns => ?_⟩
    rw [h2, addTo_in]
    constructor
    · rintro ((h | ⟨h, h3⟩ | ⟨_, h⟩) | ⟨x, hx, h⟩)
      · exact .inl h
      · exact .inr ⟨y, List.mem_cons_self, h, h3⟩
      · exact h.elim
      · exact .inr ⟨x, List.mem_cons_of_mem _ hx, h⟩
    · rintro (h | ⟨x, hx, h, h3⟩)
      · exact .inl (.inl h)
      · rcases List.mem_cons.mp hx with rfl | hx
        · exact .inl (.inr (.inl ⟨h, h3⟩))
        · exact .inr ⟨x, hx, h, h3⟩
theorem faRow_spec {t : Nat} {acc : FD} {e : List Nat × List (List Nat)} : (FdOk acc → FdOk (faRow t acc e)) ∧ ∀ k ns, InF (faRow t acc e) k ns ↔ InF acc k ns ∨ ∃ x ∈ endsOf (tri t) e.1, k = x.2 ∧ ∃ ms ∈ e.2, ns = ms ++ x.1 := by
  obtain ⟨h1, h2⟩ := fold_add (K := fun x : Part => x.2) (S := fun x : Part => e.2.map fun ns => ns ++ x.1) (l := endsOf (tri t) e.1) (D := acc)
  refine ⟨h1, fun k ns => ?_⟩
  unfold faRow
  rw [h2]
  constructor
  · rintro (h | ⟨x, hx, h, h3⟩)
    · exact .inl h
    · obtain ⟨ms, hms, rfl⟩ := List.mem_map.mp h3
      exact .inr ⟨x, hx, h, ms, hms, rfl⟩
  · rintro (h | ⟨x, hx, h, ms, hms, rfl⟩)
    · exact .inl h
    · exact .inr ⟨x, hx, h, List.mem_map_of_mem hms⟩
theorem faFold_spec {t : Nat} {D : FD} : ∀ {acc : FD}, (FdOk acc → FdOk (D.foldl (faRow t) acc)) ∧ ∀ k ns, InF (D.foldl (faRow t) acc) k ns ↔ InF acc k ns ∨ ∃ e ∈ D, ∃ x ∈ endsOf (tri t) e.1, k = x.2 ∧ ∃ ms ∈ e.2, ns = ms ++ x.1 := by
  induction D with
  | nil => intro acc; exact ⟨id, fun k ns => by simp⟩
  | cons y r ih =>
    intro acc
    rw [List.foldl_cons]
    obtain ⟨h1, h2⟩ := ih (acc := faRow t acc y)
    obtain ⟨g1, g2⟩ := faRow_spec (t := t) (acc := acc) (e := y)
    refine ⟨fun h => h1 (g1 h), fun k ns => ?_⟩
    rw [h2, g2]
    constructor
    · rintro ((h | h) | ⟨e, he, h⟩)
      · exact .inl h
      · exact .inr ⟨y, List.mem_cons_self, h⟩
      · exact .inr ⟨e, List.mem_cons_of_mem _ he, h⟩
    · rintro (h | ⟨e, he, h⟩)
      · exact .inl (.inl h)
      · rcases List.mem_cons.mp he with rfl | he
        · exact .inl (.inr h)
        · exact .inr ⟨e, he, h⟩
/-- those who are sent to diagonal t -/
structure FdAt (n t : Nat) (D : FD) : Prop where
  ok : FdOk D
  iff : ∀ k ns, InF D k ns ↔ Sent n t ns k
  ne : ∀ e ∈ D, e.2 ≠ []
theorem addTo_ne {D : FD} {k : List Nat} {nss : List (List Nat)} (h : ∀ e ∈ D, e.2 ≠ []) (hn : nss ≠ []) : ∀ e ∈ addTo D k nss, e.2 ≠ [] := by
  have key : ∀ a : List (List Nat), nss.foldl putF a ≠ [] := fun a z => by
    obtain ⟨y, hy⟩ := List.exists_mem_of_ne_nil _ hn
    have : y ∈ nss.foldl putF a := foldF_mem.mpr (.inr hy)
    rw [z] at this
    cases this
  intro e he
  unfold addTo at he
  split at he
  · obtain ⟨e0, he0, rfl⟩ := List.mem_map.mp he
    split
    · exact key _
    · exact h e0 he0
  · rcases List.mem_append.mp he with he | he
    · exact h e he
    · rw [List.mem_singleton.mp he]; exact key _
theorem faAll_ne {t : Nat} {D : FD} (h : ∀ e ∈ D, e.2 ≠ []) : ∀ e ∈ faAll t D, e.2 ≠ [] := by
  have row : ∀ (e : List Nat × List (List Nat)) (he : e.2 ≠ []) (l : List Part) (acc : FD), (∀ e ∈ acc, e.2 ≠ []) → ∀ y ∈ l.foldl (fun acc (x : Part) => addTo acc x.2 (e.2.map fun ns => ns ++ x.1)) acc, y.2 ≠ [] := by
    intro e he l
    induction l with
    | nil => intro acc h; exact h
    | cons x r ih => intro acc h; exact ih _ (addTo_ne h fun z => he (List.map_eq_nil_iff.mp z))
  have all : ∀ (D : FD) (acc : FD), (∀ e ∈ D, e.2 ≠ []) → (∀ e ∈ acc, e.2 ≠ []) → ∀ y ∈ D.foldl (faRow t) acc, y.2 ≠ [] := by
    intro D
    induction D with
    | nil => intro acc _ h; exact h
    | cons x r ih => intro acc h1 h2; exact ih _ (fun e he => h1 e (List.mem_cons_of_mem _ he)) (row x (h1 x List.mem_cons_self) _ _ h2)
  exact all D [] h fun e he => by cases he
theorem FdAt.next {n t : Nat} {D : FD} (h : FdAt n t D) : FdAt n (t + 1) (faAll t D) := by
  obtain ⟨h1, h2⟩ := faFold_spec (t := t) (D := D) (acc := [])
  refine ⟨h1 ⟨List.nodup_nil, fun e he => by cases he⟩, fun k ns => ?_, faAll_ne h.ne⟩
  show InF (D.foldl (faRow t) []) k ns ↔ _
  rw [h2]
  constructor
  · rintro (⟨e, he, _⟩ | ⟨e, he, x, hx, rfl, ms, hms, rfl⟩)
    · cases he
    · have hs := (h.iff e.1 ms).mp ⟨e, he, rfl, hms⟩
      obtain ⟨ls, c, hf, hx2⟩ := pgo_nxt' (ends_mem.mp hx)
      rw [hx2]
      exact hs.next hf
  · intro hs
    obtain ⟨p, hp, ls, c, hf, hx⟩ := hs.back
    injection hx with hx1 hx2
    obtain ⟨e, he, he1, he2⟩ := (h.iff p.2 p.1).mpr hp
    refine .inr ⟨e, he, (lstd (tri t) ls, My.mg 0 c), ends_mem.mpr (pgo_mem.mpr ⟨_, List.mem_singleton.mpr rfl, ls, c, by rw [he1]; exact hf, ?_⟩), hx2, p.1, he2, hx1⟩
    rw [List.nil_append]
    congr 1
    exact (fold_ext c [] 0).symm
def fdGo (n : Nat) : Nat → FD
  | 0 => [([n], [[]])]
  | t + 1 => faAll t (fdGo n t)
theorem fdGo_at (n : Nat) : ∀ t, FdAt n t (fdGo n t)
  | 0 => by
    refine ⟨⟨List.nodup_cons.mpr ⟨List.not_mem_nil, List.nodup_nil⟩, fun e he => ?_⟩, fun k ns => ?_, fun e he => ?_⟩
    · rw [List.mem_singleton.mp he]; exact List.nodup_cons.mpr ⟨List.not_mem_nil, List.nodup_nil⟩
    · constructor
      · rintro ⟨e, he, rfl, h2⟩
        rw [List.mem_singleton.mp he] at h2 ⊢
        rw [List.mem_singleton.mp h2]
        exact Sent.first n
      · intro h
        have h1 : k = [n] := h.here
        have h2 := h.tot
        have h3 : k.sum = n := by rw [h1]; simp
        have h4 : ns = [] := List.length_eq_zero_iff.mp (by omega)
        exact ⟨_, List.mem_singleton.mpr rfl, h1.symm, by rw [h4]; exact List.mem_singleton.mpr rfl⟩
    · rw [List.mem_singleton.mp he]; exact fun z => by cases z
  | t + 1 => (fdGo_at n t).next
theorem fd_mem {n : Nat} (hn : 0 < n) (ms : List Nat) : (∃ e ∈ fdGo n n, ms ∈ e.2) ↔ Poss n ms := by
  have h := fdGo_at n n
  constructor
  · rintro ⟨e, he, hm⟩
    have hs := (h.iff e.1 ms).mp ⟨e, he, rfl, hm⟩
    obtain ⟨⟨_, f⟩, _⟩ := RowAt.ok ways_ok hs.here
    exact hs.done (Nat.le_refl n) (zero_row f (Nat.le_refl _))
  · intro hp
    obtain ⟨row, hr⟩ := hp.ok n (Nat.le_refl n)
    have hs := sent_of hp.asc hp.len hr
    have e : ms.filter (fun x => decide (x < tri n)) = ms := List.filter_eq_self.mpr fun x hx => decide_eq_true (hp.lt x hx)
    rw [e] at hs
    obtain ⟨e2, he, h1, h2⟩ := (h.iff row ms).mpr hs
    exact ⟨e2, he, h2⟩
theorem few_asc {k : Nat} {l : List (List Nat)} (nd : l.Nodup) (h : ∀ ms ∈ l, ms.Pairwise (· < ·) ∧ ∀ x ∈ ms, x < k) : l.length ≤ 2 ^ k := by
  have inj : (l.map code).Nodup := by
    rw [List.nodup_iff_pairwise_ne, List.pairwise_map]
    refine List.Pairwise.imp_of_mem (fun {a b} ha hb hne e => hne ?_) nd
    refine asc_ext (h a ha).1 (h b hb).1 fun x => ?_
    have := congrArg (fun z => Nat.testBit z x) e
    rw [code_bit, code_bit] at this
    exact decide_eq_decide.mp this
  have := inj.length_le_of_subset (l₂ := List.range (2 ^ k)) fun x hx => by
    obtain ⟨ms, hms, rfl⟩ := List.mem_map.mp hx
    exact List.mem_range.mpr (code_lt (h ms hms).2)
  rw [List.length_map, List.length_range] at this
  exact this
structure AccOk (n t : Nat) (acc : FD) : Prop where
  ok : FdOk acc
  snt : ∀ k ns, InF acc k ns → Sent n (t + 1) ns k
  ne : ∀ e ∈ acc, e.2 ≠ []
theorem AccOk.nil (n t : Nat) : AccOk n t [] := ⟨⟨List.nodup_nil, fun e he => (by cases he)⟩, fun k ns ⟨e, he, _⟩ => (by cases he), fun e he => (by cases he)⟩
theorem AccOk.add {n t : Nat} {acc : FD} {k : List Nat} {nss : List (List Nat)} (h : AccOk n t acc) (hn : nss ≠ []) (hs : ∀ ns ∈ nss, Sent n (t + 1) ns k) : AccOk n t (addTo acc k nss) := ⟨h.ok.add, fun k2 ns hi => by
  rcases addTo_in.mp hi with h2 | ⟨rfl, h2⟩ | ⟨_, h2⟩
  · exact h.snt k2 ns h2
  · exact hs ns h2
  · exact h2.elim, addTo_ne h.ne hn⟩
theorem AccOk.rows {n t : Nat} {acc : FD} (h : AccOk n t acc) (hn : n ≤ 5) (ht : t < n) : acc.length ≤ 262144 := by
  have := rows_few (k := t + 2) (by omega) h.ok.keys fun k hk => by
    obtain ⟨e, he, rfl⟩ := List.mem_map.mp hk
    obtain ⟨ns, hns⟩ := List.exists_mem_of_ne_nil _ (h.ne e he)
    have hs := h.snt e.1 ns ⟨e, he, rfl, hns⟩
    obtain ⟨⟨l, _⟩, s⟩ := RowAt.ok ways_ok hs.here
    exact ⟨l, by omega⟩
  rwa [List.length_map] at this
theorem sent_few {n t : Nat} {k : List Nat} {l : List (List Nat)} (hn : n ≤ 5) (ht : t < n) (nd : l.Nodup) (h : ∀ ns ∈ l, Sent n (t + 1) ns k) : l.length ≤ 32768 := by
  have := few_asc (k := 15) nd fun ns hns => ⟨(h ns hns).asc, fun x hx => by
    have h1 := (h ns hns).lt x hx
    have h2 : tri (t + 1) ≤ tri 5 := tri_mono (by omega)
    have h3 : tri 5 = 15 := rfl
    omega⟩
  exact this
/-! in the heap -/
def kvsOf (qs : List Addr) (D : FD) : List (List Key × V) := List.zipWith (fun q e => (rk e.1, V.ref q)) qs D
def subsOf (qs : List Addr) (D : FD) : List (Addr × HO) := List.zipWith (fun q e => (q, HO.dT (fk e.2))) qs D
theorem kvs_at : ∀ {qs : List Addr} {D : FD} {i : Nat} {k : List Key} {v : V}, (kvsOf qs D)[i]? = some (k, v) → ∃ e q, D[i]? = some e ∧ qs[i]? = some q ∧ k = rk e.1 ∧ v = .ref q
  | [], _, i, k, v, h => by simp [kvsOf] at h
  | _ :: _, [], i, k, v, h => by simp [kvsOf] at h
  | q :: qs, e :: D, 0, k, v, h => by
    have h : (rk e.1, V.ref q) = (k, v) := Option.some.inj h
    injection h with h1 h2
    exact ⟨e, q, rfl, rfl, h1.symm, h2.symm⟩
  | q :: qs, e :: D, i + 1, k, v, h => by
    have h : (kvsOf qs D)[i]? = some (k, v) := h
    obtain ⟨e2, q2, h1, h2, h3, h4⟩ := kvs_at h
    exact ⟨e2, q2, h1, h2, h3, h4⟩
theorem kvs_len : ∀ {qs : List Addr} {D : FD}, qs.length = D.length → (kvsOf qs D).length = D.length
  | [], [], _ => rfl
  | q :: qs, e :: D, h => congrArg (· + 1) (kvs_len (by simpa using h))
theorem subs_no {qs : List Addr} {D : FD} : ∀ e ∈ subsOf qs D, ∀ ys, e.2 ≠ HO.tup ys := by
  induction qs generalizing D with
  | nil => intro e he; simp [subsOf] at he
  | cons q qs ih =>
    cases D with
    | nil => intro e he; simp [subsOf] at he
    | cons d D =>
      intro e he ys
      have he : e ∈ (q, HO.dT (fk d.2)) :: subsOf qs D := he
      rcases List.mem_cons.mp he with rfl | he
      · intro z; cases z
      · exact ih e he ys
theorem subs_drop {qs : List Addr} : ∀ {D : FD} {i : Nat} {e : List Nat × List (List Nat)} {q : Addr}, D[i]? = some e → qs[i]? = some q → subsOf (qs.drop i) (D.drop i) = (q, .dT (fk e.2)) :: subsOf (qs.drop (i + 1)) (D.drop (i + 1)) := by
  induction qs with
  | nil => intro D i e q h1 h2; simp at h2
  | cons q0 qs ih =>
    intro D i e q h1 h2
    cases D with
    | nil => simp at h1
    | cons e0 D =>
      cases i with
      | zero => cases h1; cases h2; rfl
      | succ i => exact ih (D := D) (i := i) h1 h2
theorem subs_mid {qs : List Addr} {D : FD} {m : Nat} {e : List Nat × List (List Nat)} {q : Addr} (h1 : D[m]? = some e) (h2 : qs[m]? = some q) : subsOf qs D = subsOf (qs.take m) (D.take m) ++ (q, .dT (fk e.2)) :: subsOf (qs.drop (m + 1)) (D.drop (m + 1)) := by
  induction qs generalizing D m with
  | nil => simp at h2
  | cons q0 qs ih =>
    cases D with
    | nil => simp at h1
    | cons e0 D =>
      cases m with
      | zero => cases h1; cases h2; rfl
      | succ m =>
        have h1 : D[m]? = some e := h1
        have h2 : qs[m]? = some q := h2
        show (q0, HO.dT (fk e0.2)) :: subsOf qs D = (q0, HO.dT (fk e0.2)) :: (subsOf (qs.take m) (D.take m) ++ _)
        rw [ih h1 h2]
        rfl
theorem subs_app {qs rs : List Addr} {D E : FD} (h : qs.length = D.length) : subsOf (qs ++ rs) (D ++ E) = subsOf qs D ++ subsOf rs E := by
  unfold subsOf
  exact List.zipWith_append h
theorem kvs_app {qs rs : List Addr} {D E : FD} (h : qs.length = D.length) : kvsOf (qs ++ rs) (D ++ E) = kvsOf qs D ++ kvsOf rs E := by
  unfold kvsOf
  exact List.zipWith_append h
theorem kvs_set {S : List (List Nat)} : ∀ {qs : List Addr} {D : FD} {m : Nat} {e : List Nat × List (List Nat)}, D[m]? = some e → kvsOf qs (D.set m (e.1, S)) = kvsOf qs D
  | [], _, _, _, _ => by simp [kvsOf]
  | _ :: _, [], _, _, h => by simp at h
  | q :: qs, e0 :: D, 0, e, h => by cases h; rfl
  | q :: qs, e0 :: D, m + 1, e, h => by
    have h : D[m]? = some e := h
    show (rk e0.1, V.ref q) :: kvsOf qs (D.set m (e.1, S)) = _
    rw [kvs_set h]
    rfl
theorem kvs_val : ∀ {qs : List Addr} {D : FD} {k : List Nat}, qs.length = D.length → (∀ v, valV (kvsOf qs D) (rk k) = some v → ∃ (m : Nat) (e : List Nat × List (List Nat)) (q : Addr), D[m]? = some e ∧ qs[m]? = some q ∧ e.1 = k ∧ v = .ref q) ∧ (valV (kvsOf qs D) (rk k) = none → hasF D k = false)
  | [], [], k, _ => And.intro (fun v h => (by cases h)) (fun _ => rfl)
  | q :: qs, e :: D, k, hl => by
    obtain ⟨ih1, ih2⟩ := kvs_val (qs := qs) (D := D) (k := k) (by simpa using hl)
    have hc : kvsOf (q :: qs) (e :: D) = (rk e.1, V.ref q) :: kvsOf qs D := rfl
    rw [hc]
    by_cases c : e.1 = k
    · rw [valV_pos (by show rk e.1 = rk k; rw [c])]
      refine ⟨fun v h => ⟨0, e, q, rfl, rfl, c, (Option.some.inj h).symm⟩, fun h => by cases h⟩
    · rw [valV_neg (fun z => c (rk_inj z))]
      refine ⟨fun v h => ?_, fun h => ?_⟩
      · obtain ⟨m, e2, q2, h1, h2, h3, h4⟩ := ih1 v h
        exact ⟨m + 1, e2, q2, h1, h2, h3, h4⟩
      · have := ih2 h
        unfold hasF at this ⊢
        rw [List.any_cons, this, decide_eq_false c]
        rfl
theorem kvs_putN {qs : List Addr} {D : FD} {k : List Nat} {q : Addr} (h : qs.length = D.length) (hn : valV (kvsOf qs D) (rk k) = none) : putK (kvsOf qs D) (rk k) (.ref q) = kvsOf (qs ++ [q]) (D ++ [(k, [])]) := by
  rw [kvs_app h]
  unfold putK
  rw [valV_any, hn, if_neg (by decide)]
  rfl
theorem set_map {k : List Nat} {G : List (List Nat) → List (List Nat)} : ∀ {D : FD} {m : Nat} {e : List Nat × List (List Nat)}, (D.map Prod.fst).Nodup → D[m]? = some e → e.1 = k → D.map (fun e => if e.1 = k then (e.1, G e.2) else e) = D.set m (k, G e.2)
  | [], _, _, _, h, _ => by simp at h
  | e0 :: D, 0, e, nd, h, hk => by
    cases h
    rw [List.map_cons] at nd
    obtain ⟨n1, n2⟩ := List.nodup_cons.mp nd
    rw [List.map_cons, if_pos hk]
    have : D.map (fun e => if e.1 = k then (e.1, G e.2) else e) = D := by
      refine (List.map_congr_left fun y hy => ?_).trans (List.map_id D)
      rw [if_neg (fun z => n1 (by rw [hk, ← z]; exact List.mem_map_of_mem hy))]
      rfl
    rw [this, hk]
    rfl
  | e0 :: D, m + 1, e, nd, h, hk => by
    have h : D[m]? = some e := h
    rw [List.map_cons] at nd
    obtain ⟨n1, n2⟩ := List.nodup_cons.mp nd
    rw [List.map_cons, if_neg (fun z => n1 (by rw [z, ← hk]; exact List.mem_map_of_mem (List.mem_of_getElem? h))), set_map n2 h hk]
    rfl
theorem PK.via {B B' : Hp} (s : Tks B B') {q : Addr} {k : NK} (h : PK B q k) : PK B' q k := by
  obtain ⟨r, t, h1, h2, h3⟩ := h
  exact ⟨r, t, s _ _ h1, s _ _ h2, s _ _ h3⟩
theorem PtAt.via {B B' : Hp} (s : Tks B B') {as : List Addr} {ps : List Part} (h : PtAt B as ps) : PtAt B' as ps := Paired.mapP h fun _ _ z => PK.via s z
theorem setd_fd {B H : Hp} {p d0 r : Addr} {qb : List Addr} {acc : FD} {k : List Nat} {l : List (Addr × HO)} {Q : V → Hp → Prop} (hql : qb.length = acc.length) (L : Led B H ((p, .dT (kvsOf qb acc)) :: (d0, .dT []) :: (subsOf qb acc ++ l))) (hr : H r = some (.tup (nv k))) (hz : acc.length < sizeLine)
    (g : ∀ (kn : Addr) (accb : FD) (qb2 : List Addr) (m : Nat) (S : List (List Nat)) (H1 : Hp), accb = (if hasF acc k = true then acc else acc ++ [(k, [])]) → qb2.length = accb.length → accb[m]? = some (k, S) → qb2[m]? = some kn → Led B H1 ((p, .dT (kvsOf qb2 accb)) :: (subsOf qb2 accb ++ l)) → Q (.ref kn) H1) : SetdK H p r (.ref d0) Q := by
  obtain ⟨v1, v2⟩ := kvs_val (k := k) hql
  refine SetdK.of L (.head _) (by rw [rk_kV]; exact hr) (by rw [kvs_len hql]; exact hz) (fun v hv => ?_) (fun hn H1 L1 => ?_)
  · obtain ⟨m, e, q, h1, h2, h3, rfl⟩ := v1 v hv
    have hk : hasF acc k = true := hasF_iff.mpr ⟨e, List.mem_of_getElem? h1, h3⟩
    obtain ⟨ek, S⟩ := e
    have h3 : ek = k := h3
    subst h3
    exact g q acc qb m S H (if_pos hk).symm hql h1 h2 (L.sel (.cons .hd (.skip .all)))
  · have hk := v2 hn
    have e1 : putL ((p, HO.dT (kvsOf qb acc)) :: (d0, .dT []) :: (subsOf qb acc ++ l)) p (.dT (putK (kvsOf qb acc) (rk k) (.ref d0))) = (p, .dT (kvsOf (qb ++ [d0]) (acc ++ [(k, [])]))) :: (d0, .dT []) :: (subsOf qb acc ++ l) := by
      rw [putL_cons, if_pos rfl, kvs_putN hql hn]
      congr 1
      refine putL_not ?_
      have := L.nd
      rw [List.map_cons] at this
      exact (List.nodup_cons.mp this).1
    rw [e1] at L1
    refine g d0 (acc ++ [(k, [])]) (qb ++ [d0]) acc.length [] H1 (by rw [hk, if_neg Bool.false_ne_true]) (by rw [List.length_append, List.length_append, hql]; rfl) (by rw [List.getElem?_append_right (Nat.le_refl _), Nat.sub_self]; rfl) (by rw [← hql, List.getElem?_append_right (Nat.le_refl _), Nat.sub_self]; rfl) (L1.perm ?_)
    refine .cons _ ?_
    rw [subs_app hql, List.append_assoc]
    exact List.perm_middle.symm
theorem wlkR_of {B H : Hp} {q1 : Addr} {o1 : HO} {x : Addr × HO} {kvs : List (List Key × V)} {T : List (Addr × HO)} {G : List (List Key × V) → Obj → Hp → Prop} (L : Led B H (x :: (q1, o1) :: T)) (ho : o1 = HO.dT kvs ∨ ∃ ob, o1 = .frz ob (.dT kvs)) (g : ∀ ob H1, Led B H1 (x :: (q1, .frz ob (.dT kvs)) :: T) → G kvs ob H1) : WlkR q1 H G := by
  rcases ho with rfl | ⟨ob, rfl⟩
  · exact .inl (WlkK.of L (.tail _ (.head _)) (l'' := fun o => x :: (q1, .frz o (.dT kvs)) :: T) (fun o => .tl .hd) g)
  · exact .inr ⟨kvs, ob, L.at (.tail _ (.head _)), g ob H L⟩
theorem addTo_set {acc accb : FD} {k : List Nat} {nss S : List (List Nat)} {m : Nat} (hok : FdOk acc) (hb : accb = (if hasF acc k = true then acc else acc ++ [(k, [])])) (hm : accb[m]? = some (k, S)) : addTo acc k nss = accb.set m (k, nss.foldl putF S) := by
  unfold addTo
  by_cases c : hasF acc k = true
  · rw [if_pos c] at hb ⊢
    subst hb
    exact set_map (G := fun T => nss.foldl putF T) hok.keys hm rfl
  · rw [if_neg c] at hb ⊢
    subst hb
    rcases Nat.lt_or_ge m acc.length with h | h
    · rw [List.getElem?_append_left h] at hm
      exact absurd (hasF_iff.mpr ⟨_, List.mem_of_getElem? hm, rfl⟩) c
    · rw [List.getElem?_append_right h] at hm
      have h1 : m - acc.length < 1 := (List.getElem?_eq_some_iff.mp hm).1
      have e : m = acc.length := by omega
      subst e
      rw [Nat.sub_self] at hm
      cases hm
      rw [List.set_append_right _ _ (Nat.le_refl _), Nat.sub_self]
      rfl
theorem subs_set {qs : List Addr} {D : FD} {m : Nat} {k : List Nat} {S S2 : List (List Nat)} {q : Addr} (h1 : D[m]? = some (k, S)) (h2 : qs[m]? = some q) : subsOf qs (D.set m (k, S2)) = subsOf (qs.take m) (D.take m) ++ (q, .dT (fk S2)) :: subsOf (qs.drop (m + 1)) (D.drop (m + 1)) := by
  have hl : m < D.length := (List.getElem?_eq_some_iff.mp h1).1
  have h3 : (D.set m (k, S2))[m]? = some (k, S2) := by rw [List.getElem?_set_self hl]
  rw [subs_mid h3 h2, List.take_set_of_le (Nat.le_refl m), List.drop_set_of_lt (Nat.lt_succ_self m)]
theorem fk_at {F : List (List Nat)} {i : Nat} {k : List Key} {v : V} (h : (fk F)[i]? = some (k, v)) : ∃ ms, F[i]? = some ms ∧ k = rk ms := by
  unfold fk at h
  rw [List.getElem?_map] at h
  cases z : F[i]? with
  | none => rw [z] at h; cases h
  | some ms => rw [z] at h; cases h; exact ⟨ms, rfl, rfl⟩
theorem fk_len (F : List (List Nat)) : (fk F).length = F.length := by unfold fk; rw [List.length_map]
theorem ok_ends_of (m : Mo K mg d) (sm : SM bs) (G_ways_on : FnOk P w K mg bs CX0 1 d.a_ways_on d.fd_ways_on ["entered", "listed"] (sp_ways_on K)) (G_row_with_cell : FnOk P w K mg bs CX0 1 d.a_row_with_cell d.fd_row_with_cell ["later", "right", "down"] (sp_row_with_cell K)) : FnOk P w K mg bs CX0 2 d.a_ends_of d.fd_ends_of ["row", "first"] (sp_ends_of K) := by
  refine m.F_ends_of.ok (k := 1) sc_ends_of (fun vs H Q E h => ?_) (fun cdv A fr s H vs Q E hr h => ?_)
  · obtain ⟨a, row, f, rfl, ha, hl8, hs5, q⟩ := h
    rfl
  · obtain ⟨a, row, f, rfl, ha, hl8, hs5, q⟩ := h
    refine ⟨_, (pss_cons (ps_asg (show PE _ _ (tN1 P w _ _) from pe_n1 (Nat.lt_of_le_of_lt (Nat.add_le_add_left (by decide) _) hr.units) (pe_tup (pa_cons (pe_tup (pa_cons pe_int pa_nil)) (pa_cons (pe_tup pa_nil) pa_nil))) pe_bl) (pg_name (i := 2) sc_ends_of.nd rfl (.inl rfl)))
      (pss_cons (ps_for PassesOwn.never rfl (pi_enumT (by rfl) m.n_enumerate (pa_cons (pv 0) pa_nil)) (show PG _ _ (gTup K 2 _) from pg_tup (by rfl) (pgs_cons (pg_name (i := 3) sc_ends_of.nd rfl (.inl rfl)) (pgs_cons (pg_name (i := 4) sc_ends_of.nd rfl (.inl rfl)) pgs_nil)))
      (pss_cons (ps_asg pe_dnewT (pg_name (i := 5) sc_ends_of.nd rfl (.inl rfl)))
      (pss_cons (ps_for PassesOwn.never rfl (show PI _ _ _ (iNKeys P w _) from pi_nkeys (pv 2)) (show PG _ _ (gTup K 2 _) from pg_tup (by rfl) (pgs_cons (pg_name (i := 6) sc_ends_of.nd rfl (.inl rfl)) (pgs_cons (pg_name (i := 7) sc_ends_of.nd rfl (.inl rfl)) pgs_nil)))
      (pss_cons (ps_for PassesOwn.never rfl (pi_list (pe_call G_ways_on (hr.mono (by decide)) (by rfl) m.g_ways_on m.F_ways_on.kp m.b_ways_on .nil pass0 (pa_cons (pv 4) (pa_cons pe_bl pa_nil)))) (show PG _ _ (gTup K 2 _) from pg_tup (by rfl) (pgs_cons (pg_name (i := 8) sc_ends_of.nd rfl (.inl rfl)) (pgs_cons (pg_name (i := 9) sc_ends_of.nd rfl (.inl rfl)) pgs_nil)))
      (pss_one (show PS _ _ (sNPut P w _ _ _) from ps_nput (Nat.lt_of_le_of_lt (Nat.add_le_add_left (by decide) _) hr.units) (pv 5) (pe_tup (pa_cons (pe_call G_row_with_cell (hr.mono (by decide)) (by rfl) m.g_row_with_cell m.F_row_with_cell.kp m.b_row_with_cell .nil pass0 (pa_cons (pv 6) (pa_cons (pv 8) (pa_cons (pv 9) pa_nil)))) (pa_cons (pv 7) pa_nil))) pe_bl rfl)))
      (pss_one (ps_for PassesOwn.never rfl (pi_list (pe_call G_ways_on (hr.mono (by decide)) (by rfl) m.g_ways_on m.F_ways_on.kp m.b_ways_on .nil pass0 (pa_cons (pv 4) (pa_cons pe_bl pa_nil)))) (show PG _ _ (gTup K 2 _) from pg_tup (by rfl) (pgs_cons (pg_name (i := 8) sc_ends_of.nd rfl (.inl rfl)) (pgs_cons (pg_name (i := 9) sc_ends_of.nd rfl (.inl rfl)) pgs_nil)))
      (pss_one (show PS _ _ (sNPut P w _ _ _) from ps_nput (Nat.lt_of_le_of_lt (Nat.add_le_add_left (by decide) _) hr.units) (pv 5) (pe_tup (pa_cons (pe_call G_row_with_cell (hr.mono (by decide)) (by rfl) m.g_row_with_cell m.F_row_with_cell.kp m.b_row_with_cell .nil pass0 (pa_cons (pv 6) (pa_cons (pv 8) (pa_cons (pv 9) pa_nil)))) (pa_cons (pe_op op_catA (pv 7) (pe_tup (pa_cons (pe_op op_add (pv 1) (pv 3)) pa_nil))) pa_nil))) pe_bl rfl))))))
      (pss_one (ps_asg (pv 5) (pg_name (i := 2) sc_ends_of.nd rfl (.inl rfl)))))))
      (pss_one (ps_ret (pe_callTy (show CallR _ _ (rLstN P w) from cr_lstN rfl) (by rfl) m.n_list (by decide +kernel) (pa_cons (pv 2) pa_nil)))))), ?_⟩
    walk_at "v2"
    refine NewK.of (Led.nil H) fun pl H1 L => ?_
    refine NewK.of L fun t1 H2 L => ?_
    obtain ⟨B1, s1, ht1, L⟩ := L.sink
    refine NewK.of L fun t2 H3 L => ?_
    obtain ⟨B2, s2, ht2, L⟩ := L.sink
    refine NewK.of L fun t3 H4 L => ?_
    obtain ⟨B3, s3, ht3, L⟩ := L.sink
    have hpk0 : PK B3 t3 (toNK ([0], [])) := PK.of (p := ([0], [])) ht3 ((s2.trans s3) _ _ ht1) (s3 _ _ ht2)
    refine N1K.of L (by walk_at "mem") hpk0 (by walk_at "put") fun H5 L => ?_
    have sH : Same H B3 := s1.trans (s2.trans s3)
    walk_at "v2"
    refine ⟨⟨_, .inl (.inl ((sH.trans L.sm) _ _ ha))⟩, ?_⟩
    refine loop_enumT (xs := nv row) (fun i σ H' => ∃ y3 y4 y5 y6 y7 y8 y9 pl xs B2, σ = [some (.ref a), some (.int (f : Nat)), some (.ref pl), y3, y4, y5, y6, y7, y8, y9] ∧ Same H B2 ∧ NsAt B2 xs ((ego f (row.take i) [([], [0])]).map swp) ∧ Led B2 H' [(pl, nD P w pl xs)]) ⟨_, _, _, _, _, _, _, pl, [(toNK ([0], []), t3)], B3, rfl, sH, .cons ⟨rfl, hpk0⟩ .nil, L⟩ (fun i σ' H' h => ?_) (fun i x σ' H' N hx h hN => ?_) (fun σ' H' h => ?_)
    · obtain ⟨y3, y4, y5, y6, y7, y8, y9, pl, xs, B2, rfl, s2, hxs, L⟩ := h
      exact .inl (.inl ((s2.trans L.sm) _ _ ha))
    · obtain ⟨y3, y4, y5, y6, y7, y8, y9, pl, xs, B2, rfl, s2, hxs, L⟩ := h
      obtain ⟨e, he, rfl⟩ := nv_at hx
      have hil : i < row.length := (List.getElem?_eq_some_iff.mp he).1
      have hst := sum_take row (i + 1)
      rw [take_snoc he, List.sum_append] at hst
      simp only [List.sum_cons, List.sum_nil, Nat.add_zero] at hst
      rw [take_snoc he, ego_snoc, List.length_take, Nat.min_eq_left (Nat.le_of_lt hil)] at hN
      have hel := ego_len (row.take i) f [([], [0])]
      have hp5 : 2 ^ (row.take i).sum ≤ 2 ^ 5 := Nat.pow_le_pow_right (by decide) (by omega)
      rw [List.length_singleton, Nat.one_mul] at hel
      have hel : (ego f (row.take i) [([], [0])]).length ≤ 32 := Nat.le_trans hel hp5
      have hrl : ∀ z ∈ ego f (row.take i) [([], [0])], 0 < z.2.length ∧ z.2.length ≤ 9 ∧ z.1.length ≤ 8 := fun z hz => by
        obtain ⟨ls, c, hf, rfl⟩ := pgo_nxt' ((ego_mem fun _ => Iff.rfl).mp hz)
        have h1 := hf.len
        refine ⟨?_, ?_, ?_⟩
        · show 0 < (My.mg 0 c).length; rw [mg_len]; omega
        · show (My.mg 0 c).length ≤ _; rw [mg_len, h1.1, List.length_take]; omega
        · show ([] ++ lstd _ ls).length ≤ _
          rw [List.nil_append, lstd_len]
          have : nls ls ≤ ls.length := List.countP_le_length
          rw [h1.2, List.length_take] at this
          omega
      generalize ego f (row.take i) [([], [0])] = E at *
      refine NewK.of L fun t H1 L => ?_
      walk_at "v1"
      refine UnpK.of (L.tupAt (by walk_at "mem")) rfl ?_
      walk_at "v1"
      have L : Led B2 H1 [(pl, nD P w pl xs)] := L.sel (.skip .all)
      walk_at "v2"
      refine NewK.of L fun pg H2 L => ?_
      walk_at "v2"
      refine WlkN.of L (by walk_at "mem") (l'' := fun o => [(pg, nD P w pg []), (pl, .frz o (nD P w pl xs))]) (fun o => by walk_at "put") fun o H3 L => ?_
      refine loop_nkeys (fun j σ' H' => ∃ y6 y7 y8 y9 B3 xs2, σ' = [some (.ref a), some (.int (f : Nat)), some (.ref pl), some (.int (i : Int)), some (.int (e : Int)), some (.ref pg), y6, y7, y8, y9] ∧ Same B2 B3 ∧ NsAt B3 xs2 ((((E.take j).flatMap (ecell (f + i) e)).foldl putP []).map swp) ∧ Led B3 H' [(pg, nD P w pg xs2), (pl, .frz o (nD P w pl xs))]) ⟨_, _, _, _, B2, [], rfl, Same.refl _, .nil, L⟩ (fun j σ' H' ⟨_, _, _, _, _, _, _, _, _, L⟩ => L.at (by walk_at "mem")) (fun j k q' σ' H' N2 hkq h hN2 => ?_) (fun σ' H' h => ?_)
      · obtain ⟨y6, y7, y8, y9, B3, xs2, rfl, s3, hx3, L⟩ := h
        obtain ⟨p', hp', hk, hpq⟩ := paired_get hxs hkq
        obtain ⟨p, hp, rfl⟩ : ∃ p, E[j]? = some p ∧ p' = swp p := by
          rw [List.getElem?_map] at hp'
          cases z : E[j]? with
          | none => rw [z] at hp'; cases hp'
          | some p => rw [z] at hp'; cases hp'; exact ⟨p, rfl, rfl⟩
        obtain ⟨r, s', hq, hr', hs'⟩ := PK.get hpq
        have hr' : B2 r = some (.tup (nv p.2)) := hr'
        have hs' : B2 s' = some (.tup (nv p.1)) := hs'
        have hjl : j < E.length := (List.getElem?_eq_some_iff.mp hp).1
        obtain ⟨hl0, hl1, hl2⟩ := hrl p (List.mem_of_getElem? hp)
        rw [take_snoc hp, List.flatMap_append, List.foldl_append, List.flatMap_cons, List.flatMap_nil, List.append_nil] at hN2
        have hcell : ∀ G : List Part, (ecell (f + i) e p).foldl putP G = (((ways e true).map fun rd => (p.1 ++ [f + i], ext p.2 rd.1 rd.2)).foldl putP (((ways e false).map fun rd => (p.1, ext p.2 rd.1 rd.2)).foldl putP G)) := fun G => List.foldl_append
        rw [hcell] at hN2
        have hG : (((E.take j).flatMap (ecell (f + i) e)).foldl putP []).length ≤ 1024 := by
          have h0 : (((E.take j).flatMap (ecell (f + i) e)).foldl putP []).length ≤ 0 + _ := foldP_len
          have h1 := flat_len (k := 32) (E.take j) fun z _ => Nat.le_trans (ecell_len (f + i) e z) (Nat.pow_le_pow_right (by decide) (show e ≤ 5 by omega))
          rw [List.length_take] at h1
          have h2 : min j E.length * 32 ≤ 32 * 32 := Nat.mul_le_mul_right _ (by omega)
          omega
        generalize ((E.take j).flatMap (ecell (f + i) e)).foldl putP [] = G at *
        walk_at "v1"
        refine UnpK.of (.inl (.inl ((s3.trans L.sm) _ _ hq))) rfl ?_
        walk_at "v1"
        walk_at "v2"
        refine ⟨e, false, rfl, by omega, fun pwfalse H5 B5 ps s5 hps L5 => ?_⟩
        walk_at "v1"
        obtain ⟨B6, s6, L, k6⟩ := L.over s5 L5
        have hps : PrsAt B6 ps (ways e false) := Paired.mapP hps fun c x z => k6 _ _ z (by intro e he; simp only [List.mem_cons, List.not_mem_nil, or_false] at he; rcases he with rfl | rfl <;> (try (cases xs2 <;> (intro z; cases z))) <;> (intro z; cases z))
        have L : Led B6 H5 [(pwfalse, .lst (ps.map V.ref)), (pg, nD P w pg xs2), (pl, .frz o (nD P w pl xs))] := L
        refine ⟨⟨_, L.lstAt (xs := ps.map V.ref) (by walk_at "mem")⟩, ?_⟩
        refine loop_list (xs := ps.map V.ref) (fun m σ' H' => ∃ y8 y9 B7 xs3, σ' = [some (.ref a), some (.int (f : Nat)), some (.ref pl), some (.int (i : Int)), some (.int (e : Int)), some (.ref pg), some (.ref r), some (.ref s'), y8, y9] ∧ Same B6 B7 ∧ NsAt B7 xs3 (((((ways e false).take m).map fun rd => (p.1, ext p.2 rd.1 rd.2)).foldl putP G).map swp) ∧ Led B7 H' [(pwfalse, .lst (ps.map V.ref)), (pg, nD P w pg xs3), (pl, .frz o (nD P w pl xs))]) ⟨_, _, B6, xs2, rfl, Same.refl _, hx3.mono s6, L⟩ (fun m σ' H' _ ⟨_, _, _, _, _, _, _, L⟩ => L.lstAt (xs := ps.map V.ref) (by walk_at "mem")) (fun m x σ' H' N3 hx h hN3 => ?_) (fun σ' H' h => ?_)
        · obtain ⟨y8, y9, B7, xs3, rfl, s7, hx4, L⟩ := h
          obtain ⟨c, hc, rfl⟩ := ref_at hx
          obtain ⟨⟨r0, d0⟩, hrd, hcr⟩ := paired_get hps hc
          have hcr : B6 c = some (.tup [.int r0, .int d0]) := hcr
          have hml : m < (ways e false).length := (List.getElem?_eq_some_iff.mp hrd).1
          have hlen := foldP_len (l := (((ways e false).take m).map fun rd => (p.1, ext p.2 rd.1 rd.2))) (a := G)
          rw [List.length_map, List.length_take] at hlen
          have hwl : (ways e false).length ≤ 32 := Nat.le_trans (ways_len e false) (Nat.pow_le_pow_right (by decide) (show e ≤ 5 by omega))
          rw [take_snoc hrd, List.map_append, List.foldl_append] at hN3
          have hN3 : ∀ σ2 H2, _ := hN3
          generalize (((ways e false).take m).map fun rd => (p.1, ext p.2 rd.1 rd.2)).foldl putP G = G3 at *
          walk_at "v1"
          refine UnpK.of (.inl (.inl ((s7.trans L.sm) _ _ hcr))) rfl ?_
          walk_at "v1"
          have sW : Same B2 B7 := s3.trans (s6.trans s7)
          refine ⟨r, p.2, r0, d0, rfl, (sW.trans L.sm) _ _ hr', by omega, by omega, fun pk BA HA sA hA LA => ?_⟩
          obtain ⟨B8, s8, L, k8⟩ := L.over sA LA
          have hA : B8 pk = some (.tup (nv (ext p.2 r0 d0))) := k8 _ _ hA (by intro e he; simp only [List.mem_cons, List.not_mem_nil, or_false] at he; rcases he with rfl | rfl | rfl <;> (try (cases xs3 <;> (intro z; cases z))) <;> (intro z; cases z))
          have L : Led B8 HA [(pwfalse, .lst (ps.map V.ref)), (pg, nD P w pg xs3), (pl, .frz o (nD P w pl xs))] := L
          walk_at "v1"
          refine NewK.of L fun t5 H9 L => ?_
          obtain ⟨B10, s10, h10, L⟩ := L.sink
          have s7_10 : Same B7 B10 := s8.trans s10
          have hpk : PK B10 t5 (toNK (swp (p.1, ext p.2 r0 d0))) := PK.of (p := (ext p.2 r0 d0, p.1)) h10 (s10 _ _ hA) ((sW.trans s7_10) _ _ hs')
          refine NPutK.of L (by walk_at "mem") (hx4.mono s7_10).all hpk (Nat.lt_of_le_of_lt (m := 3000) (by rw [Paired.length hx4, List.length_map]; omega) (by decide)) (by walk_at "put") fun H10 L => ?_
          refine hN3 _ _ ⟨_, _, B10, _, rfl, s7.trans s7_10, ?_, L⟩
          show NsAt B10 _ ((putP G3 _).map swp)
          rw [putP_swp]
          exact (hx4.mono s7_10).put hpk
        · obtain ⟨y8, y9, B7, xs3, rfl, s7, hx4, L⟩ := h
          rw [List.length_map, Paired.length hps, List.take_length] at hx4
          walk_at "vc"
          have hG2 : ((((ways e false).map fun rd => (p.1, ext p.2 rd.1 rd.2)).foldl putP G)).length ≤ 1056 := by
            have h0 := foldP_len (l := ((ways e false).map fun rd => (p.1, ext p.2 rd.1 rd.2))) (a := G)
            have h1 : (ways e false).length ≤ 2 ^ 5 := Nat.le_trans (ways_len e false) (Nat.pow_le_pow_right (by decide) (show e ≤ 5 by omega))
            have h2 : (2 : Nat) ^ 5 = 32 := rfl
            rw [List.length_map] at h0
            omega
          generalize ((ways e false).map fun rd => (p.1, ext p.2 rd.1 rd.2)).foldl putP G = G2 at *
          obtain ⟨C3, xs2b, hx3b, sG, L⟩ : ∃ C3 xs2b, NsAt C3 xs2b (G2.map swp) ∧ Same B3 C3 ∧ Led C3 H' [(pg, nD P w pg xs2b), (pl, .frz o (nD P w pl xs))] := ⟨B7, xs3, hx4, s6.trans s7, L.sel (.skip .all)⟩
          clear hx3 hps k6 s6 s7 s5 L5 hx4
          refine ⟨e, true, rfl, by omega, fun pwtrue H5 B5 ps s5 hps L5 => ?_⟩
          walk_at "v1"
          obtain ⟨B6, s6, L, k6⟩ := L.over s5 L5
          have hps : PrsAt B6 ps (ways e true) := Paired.mapP hps fun c x z => k6 _ _ z (by intro e he; simp only [List.mem_cons, List.not_mem_nil, or_false] at he; rcases he with rfl | rfl <;> (try (cases xs2b <;> (intro z; cases z))) <;> (intro z; cases z))
          have L : Led B6 H5 [(pwtrue, .lst (ps.map V.ref)), (pg, nD P w pg xs2b), (pl, .frz o (nD P w pl xs))] := L
          refine ⟨⟨_, L.lstAt (xs := ps.map V.ref) (by walk_at "mem")⟩, ?_⟩
          refine loop_list (xs := ps.map V.ref) (fun m σ' H' => ∃ y8 y9 B7 xs3, σ' = [some (.ref a), some (.int (f : Nat)), some (.ref pl), some (.int (i : Int)), some (.int (e : Int)), some (.ref pg), some (.ref r), some (.ref s'), y8, y9] ∧ Same B6 B7 ∧ NsAt B7 xs3 (((((ways e true).take m).map fun rd => (p.1 ++ [f + i], ext p.2 rd.1 rd.2)).foldl putP G2).map swp) ∧ Led B7 H' [(pwtrue, .lst (ps.map V.ref)), (pg, nD P w pg xs3), (pl, .frz o (nD P w pl xs))]) ⟨_, _, B6, xs2b, rfl, Same.refl _, hx3b.mono s6, L⟩ (fun m σ' H' _ ⟨_, _, _, _, _, _, _, L⟩ => L.lstAt (xs := ps.map V.ref) (by walk_at "mem")) (fun m x σ' H' N3 hx h hN3 => ?_) (fun σ' H' h => ?_)
          · obtain ⟨y8, y9, B7, xs3, rfl, s7, hx4, L⟩ := h
            obtain ⟨c, hc, rfl⟩ := ref_at hx
            obtain ⟨⟨r0, d0⟩, hrd, hcr⟩ := paired_get hps hc
            have hcr : B6 c = some (.tup [.int r0, .int d0]) := hcr
            have hml : m < (ways e true).length := (List.getElem?_eq_some_iff.mp hrd).1
            have hlen := foldP_len (l := (((ways e true).take m).map fun rd => (p.1 ++ [f + i], ext p.2 rd.1 rd.2))) (a := G2)
            rw [List.length_map, List.length_take] at hlen
            have hwl : (ways e true).length ≤ 32 := Nat.le_trans (ways_len e true) (Nat.pow_le_pow_right (by decide) (show e ≤ 5 by omega))
            rw [take_snoc hrd, List.map_append, List.foldl_append] at hN3
            have hN3 : ∀ σ2 H2, _ := hN3
            generalize (((ways e true).take m).map fun rd => (p.1 ++ [f + i], ext p.2 rd.1 rd.2)).foldl putP G2 = G3 at *
            walk_at "v1"
            refine UnpK.of (.inl (.inl ((s7.trans L.sm) _ _ hcr))) rfl ?_
            walk_at "v1"
            have sW : Same B2 B7 := s3.trans (sG.trans (s6.trans s7))
            refine ⟨r, p.2, r0, d0, rfl, (sW.trans L.sm) _ _ hr', by omega, by omega, fun pk BA HA sA hA LA => ?_⟩
            obtain ⟨B8, s8, L, k8⟩ := L.over sA LA
            have hA : B8 pk = some (.tup (nv (ext p.2 r0 d0))) := k8 _ _ hA (by intro e he; simp only [List.mem_cons, List.not_mem_nil, or_false] at he; rcases he with rfl | rfl | rfl <;> (try (cases xs3 <;> (intro z; cases z))) <;> (intro z; cases z))
            have L : Led B8 HA [(pwtrue, .lst (ps.map V.ref)), (pg, nD P w pg xs3), (pl, .frz o (nD P w pl xs))] := L
            walk_at "v1"
            refine NewK.of L fun tf H7 L => ?_
            rw [show ((f : Nat) : Int) + (i : Int) = ((f + i : Nat) : Int) by omega] at L
            obtain ⟨B8b, s8b, htf, L⟩ := L.sink
            refine CatTK.of L ((sW.trans (s8.trans s8b)) _ _ hs') htf (Nat.le_trans (m := 100) (by rw [nv_len]; simp; omega) (by decide)) fun nm B9 H8 s9 h9 L => ?_
            have h9 : B9 nm = some (.tup (nv (p.1 ++ [f + i]))) := by rw [h9, nv_app]
            refine NewK.of L fun t5 H9 L => ?_
            obtain ⟨B10, s10, h10, L⟩ := L.sink
            have s7_10 : Same B7 B10 := s8.trans (s8b.trans (s9.trans s10))
            have hpk : PK B10 t5 (toNK (swp (p.1 ++ [f + i], ext p.2 r0 d0))) := PK.of (p := (ext p.2 r0 d0, p.1 ++ [f + i])) h10 ((s8b.trans (s9.trans s10)) _ _ hA) (s10 _ _ h9)
            refine NPutK.of L (by walk_at "mem") (hx4.mono s7_10).all hpk (Nat.lt_of_le_of_lt (m := 3000) (by rw [Paired.length hx4, List.length_map]; omega) (by decide)) (by walk_at "put") fun H10 L => ?_
            refine hN3 _ _ ⟨_, _, B10, _, rfl, s7.trans s7_10, ?_, L⟩
            show NsAt B10 _ ((putP G3 _).map swp)
            rw [putP_swp]
            exact (hx4.mono s7_10).put hpk
          · obtain ⟨y8, y9, B7, xs3, rfl, s7, hx4, L⟩ := h
            rw [List.length_map, Paired.length hps, List.take_length] at hx4
            exact hN2 _ _ ⟨_, _, _, _, B7, xs3, rfl, s3.trans (sG.trans (s6.trans s7)), hx4, L.sel (.skip .all)⟩
      · obtain ⟨y6, y7, y8, y9, B3, xs2, rfl, s3, hx3, L⟩ := h
        rw [Paired.length hxs, List.length_map, List.take_length] at hx3
        walk_at "vc"
        exact hN _ _ ⟨_, _, _, _, _, _, _, pg, xs2, B3, rfl, s2.trans s3, hx3, L.sel (.cons .hd .nil)⟩
    · obtain ⟨y3, y4, y5, y6, y7, y8, y9, pl, xs, B2, rfl, s2, hxs, L⟩ := h
      rw [nv_len, List.take_length] at hxs
      walk_at "vc"
      refine ⟨xs, L.at (by walk_at "mem"), NewK.of L fun p H2 L => ?_⟩
      rw [show (xs.map fun x => V.ref x.2) = (xs.map (·.2)).map V.ref by rw [List.map_map]; rfl] at L
      refine q p (xs.map (·.2)) B2 H2 s2 ?_ (L.sel (.cons .hd .nil))
      unfold endsOf
      exact NsAt.pts hxs
/-! cut check_coordinate -/
def sp_check_coordinate (K : PySem.W.Frag) : Sp := fun vs H Q _ => ∃ t : Int, vs = [.int t] ∧ 0 ≤ t ∧ t ≤ 10 ^ 15 ∧ Q .non H
theorem ok_check_coordinate (m : Mo K mg d) (sm : SM bs) (G_is_integer_within : FnOk P w K mg bs CX0 2 d.a_is_integer_within d.fd_is_integer_within ["value", "least", "greatest"] (sp_is_integer_within K)) : FnOk P w K mg bs CX0 3 d.a_check_coordinate d.fd_check_coordinate ["value"] (sp_check_coordinate K) := by
  obtain ⟨t_GREATEST_COORDINATE, h_GREATEST_COORDINATE⟩ := m.mg_GREATEST_COORDINATE
  refine m.F_check_coordinate.ok (k := 2) sc_check_coordinate (fun vs H Q E h => ?_) (fun cdv A fr s H vs Q E hr h => ?_)
  · obtain ⟨t, rfl, h0, h1, q⟩ := h
    rfl
  · obtain ⟨t, rfl, h0, h1, q⟩ := h
    refine ⟨_, (pss_one (ps_if (pt_not (pt_val (pe_call G_is_integer_within (hr.mono (by decide)) (by rfl) m.g_is_integer_within m.F_is_integer_within.kp m.b_is_integer_within .nil pass0 (pa_cons (pv 0) (pa_cons pe_int (pa_cons (pe_glob (v := .int (1000000000000000)) rfl h_GREATEST_COORDINATE ⟨_, rfl⟩) pa_nil))))))
      (pss_one ps_never)
      pss_nil)), ?_⟩
    walk_at "vc"
    refine ⟨_, _, _, rfl, ?_⟩
    walk_at "vc"
    rw [decide_eq_true h0, decide_eq_true (show t ≤ 1000000000000000 from h1)]
    walk_at "vc"
    exact q
/-! cut cells_before -/
def sp_cells_before (K : PySem.W.Frag) : Sp := fun vs H Q _ => ∃ t : Int, vs = [.int t] ∧ 0 ≤ t ∧ t < 2 ^ 60 ∧ Q (.int (t * (t + 1) / 2)) H
theorem ok_cells_before (m : Mo K mg d) (sm : SM bs) : FnOk P w K mg bs CX0 1 d.a_cells_before d.fd_cells_before ["diagonal"] (sp_cells_before K) := by
  refine m.F_cells_before.ok (k := 0) sc_cells_before (fun vs H Q E h => ?_) (fun cdv A fr s H vs Q E hr h => ?_)
  · obtain ⟨t, rfl, h0, h1, q⟩ := h
    rfl
  · obtain ⟨t, rfl, h0, h1, q⟩ := h
    refine ⟨_, (pss_one (ps_ret (pe_op op_fdiv (pe_op op_mul (pv 0) (pe_op op_add (pv 0) pe_int)) pe_int))), ?_⟩
    walk_at "vc"
    exact ⟨by walk_at "sd", by walk_at "sd", q⟩
/-! cut name_of -/
def sp_name_of (K : PySem.W.Frag) : Sp := fun vs H Q _ => ∃ r d : Int, vs = [.int r, .int d] ∧ 0 ≤ r ∧ r ≤ 10 ^ 15 ∧ 0 ≤ d ∧ d ≤ 10 ^ 15 ∧ Q (.int ((r + d) * (r + d + 1) / 2 + r)) H
theorem ok_name_of (m : Mo K mg d) (sm : SM bs) (G_check_coordinate : FnOk P w K mg bs CX0 3 d.a_check_coordinate d.fd_check_coordinate ["value"] (sp_check_coordinate K)) (G_cells_before : FnOk P w K mg bs CX0 1 d.a_cells_before d.fd_cells_before ["diagonal"] (sp_cells_before K)) : FnOk P w K mg bs CX0 4 d.a_name_of d.fd_name_of ["right", "down"] (sp_name_of K) := by
  refine m.F_name_of.ok (k := 3) sc_name_of (fun vs H Q E h => ?_) (fun cdv A fr s H vs Q E hr h => ?_)
  · obtain ⟨r, d', rfl, h0, h1, h2, h3, q⟩ := h
    rfl
  · obtain ⟨r, d', rfl, h0, h1, h2, h3, q⟩ := h
    refine ⟨_, (pss_cons (ps_expr (pe_call G_check_coordinate (hr.mono (by decide)) (by rfl) m.g_check_coordinate m.F_check_coordinate.kp m.b_check_coordinate .nil pass0 (pa_cons (pv 0) pa_nil)))
      (pss_cons (ps_expr (pe_call G_check_coordinate (hr.mono (by decide)) (by rfl) m.g_check_coordinate m.F_check_coordinate.kp m.b_check_coordinate .nil pass0 (pa_cons (pv 1) pa_nil)))
      (pss_one (ps_ret (pe_op op_add (pe_call G_cells_before (hr.mono (by decide)) (by rfl) m.g_cells_before m.F_cells_before.kp m.b_cells_before .nil pass0 (pa_cons (pe_op op_add (pv 0) (pv 1)) pa_nil)) (pv 0)))))), ?_⟩
    walk_at "vc"
    refine ⟨_, rfl, h0, h1, ?_⟩
    walk_at "vc"
    refine ⟨_, rfl, h2, h3, ?_⟩
    walk_at "vc"
    refine ⟨_, rfl, by omega, by omega, ?_⟩
    walk_at "vc"
    exact q
/-! cut found_after -/
def sp_found_after (K : PySem.W.Frag) : Sp := fun vs H Q _ => ∃ (B : Hp) (a : Addr) (qs : List Addr) (D : FD) (n t : Nat), vs = [.ref a, .int t] ∧ Led B H ((a, .dT (kvsOf qs D)) :: subsOf qs D) ∧ qs.length = D.length ∧ FdAt n t D ∧ t < n ∧ n ≤ 5 ∧
  ∀ p qs' B' H', Same B B' → qs'.length = (faAll t D).length → Led B' H' ((p, .dT (kvsOf qs' (faAll t D))) :: subsOf qs' (faAll t D)) → Q (.ref p) H'
theorem ok_found_after (m : Mo K mg d) (sm : SM bs) (G_ends_of : FnOk P w K mg bs CX0 2 d.a_ends_of d.fd_ends_of ["row", "first"] (sp_ends_of K)) (G_name_of : FnOk P w K mg bs CX0 4 d.a_name_of d.fd_name_of ["right", "down"] (sp_name_of K)) : FnOk P w K mg bs CX0 5 d.a_found_after d.fd_found_after ["found", "diagonal"] (sp_found_after K) := by
  refine m.F_found_after.ok (k := 4) sc_found_after (fun vs H Q E h => ?_) (fun cdv A fr s H vs Q E hr h => ?_)
  · obtain ⟨B, a, qs, D, n, t, rfl, L, hql, hD, ht, h5, q⟩ := h
    rfl
  · obtain ⟨B, a, qs, D, n, t, rfl, L, hql, hD, ht, h5, q⟩ := h
    refine ⟨_, (pss_cons (ps_asg pe_dnewT (pg_name (i := 2) sc_found_after.nd rfl (.inl rfl)))
      (pss_cons (ps_for PassesOwn.never rfl (pi_itemsN (pv 0)) (show PG _ _ (gTup K 2 _) from pg_tup (by rfl) (pgs_cons (pg_name (i := 3) sc_found_after.nd rfl (.inl rfl)) (pgs_cons (pg_name (i := 4) sc_found_after.nd rfl (.inl rfl)) pgs_nil)))
      (pss_one (ps_for PassesOwn.never rfl (pi_list (pe_call G_ends_of (hr.mono (by decide)) (by rfl) m.g_ends_of m.F_ends_of.kp m.b_ends_of .nil pass0 (pa_cons (pv 3) (pa_cons (pe_call G_name_of (hr.mono (by decide)) (by rfl) m.g_name_of m.F_name_of.kp m.b_name_of .nil pass0 (pa_cons pe_int (pa_cons (pv 1) pa_nil))) pa_nil)))) (show PG _ _ (gTup K 2 _) from pg_tup (by rfl) (pgs_cons (pg_name (i := 5) sc_found_after.nd rfl (.inl rfl)) (pgs_cons (pg_name (i := 6) sc_found_after.nd rfl (.inl rfl)) pgs_nil)))
      (pss_cons (ps_asg (pe_setdT (Nat.lt_of_le_of_lt (Nat.add_le_add_left (by decide) _) hr.units) (pv 2) (pv 5) pe_dnewT ⟨by rfl, by rfl, by rfl, by rfl⟩) (pg_name (i := 7) sc_found_after.nd rfl (.inl rfl)))
      (pss_one (ps_for PassesOwn.never rfl (pi_keysR (pv 4)) (pg_name (i := 8) sc_found_after.nd rfl (.inl rfl))
      (pss_one (ps_dput (Nat.lt_of_le_of_lt (Nat.add_le_add_left (by decide) _) hr.units) (pv 7) (pe_op op_catA (pv 8) (pv 6)) pe_bl rfl))))))))
      (pss_one (ps_ret (pv 2))))), ?_⟩
    walk_at "v2"
    refine NewK.of L fun p H1 L => ?_
    walk_at "v2"
    refine WlkK.of L (by walk_at "mem") (l'' := fun o => (p, .dT []) :: (a, .frz o (.dT (kvsOf qs D))) :: subsOf qs D) (fun o => by walk_at "put") fun o H2 L => ?_
    refine loop_itemsT (fun i σ H' => ∃ y3 y4 y5 y6 y7 y8 B2 acc qa, σ = [some (.ref a), some (.int (t : Nat)), some (.ref p), y3, y4, y5, y6, y7, y8] ∧ Same B B2 ∧ acc = (D.take i).foldl (faRow t) [] ∧ qa.length = acc.length ∧ AccOk n t acc ∧ Led B2 H' ((p, .dT (kvsOf qa acc)) :: (a, .frz o (.dT (kvsOf qs D))) :: (subsOf qa acc ++ subsOf (qs.drop i) (D.drop i)))) ⟨_, _, _, _, _, _, B, [], [], rfl, Same.refl _, rfl, rfl, AccOk.nil n t, L⟩ (fun i σ' H' ⟨_, _, _, _, _, _, _, _, _, _, _, _, _, _, L⟩ => L.at (.tail _ (.head _))) (fun i k v kq σ' H' N hkv h hkq hN => ?_) (fun σ' H' h => ?_)
    · obtain ⟨y3, y4, y5, y6, y7, y8, B2, acc, qa, rfl, s2, hacc, hqa, hok, L⟩ := h
      obtain ⟨e, q1, he, hq1, rfl, rfl⟩ := kvs_at hkv
      rw [rk_kV] at hkq
      have hem := List.mem_of_getElem? he
      rw [take_snoc he, List.foldl_append, ← hacc] at hN
      have hN : ∀ σ2 H2, (∃ y3 y4 y5 y6 y7 y8 B2 acc2 qa, σ2 = [some (.ref a), some (.int (t : Nat)), some (.ref p), y3, y4, y5, y6, y7, y8] ∧ Same B B2 ∧ acc2 = faRow t acc e ∧ qa.length = acc2.length ∧ AccOk n t acc2 ∧ Led B2 H2 ((p, .dT (kvsOf qa acc2)) :: (a, .frz o (.dT (kvsOf qs D))) :: (subsOf qa acc2 ++ subsOf (qs.drop (i + 1)) (D.drop (i + 1))))) → N σ2 H2 := hN
      rw [subs_drop he hq1] at L
      obtain ⟨e0, he0⟩ := List.exists_mem_of_ne_nil _ (hD.ne e hem)
      have hsr := (hD.iff e.1 e0).mp ⟨e, hem, rfl, he0⟩
      obtain ⟨⟨hrl, _⟩, hrs⟩ := RowAt.ok ways_ok hsr.here
      generalize hrest : subsOf (qs.drop (i + 1)) (D.drop (i + 1)) = rest at *
      have hrno : ∀ e ∈ rest, ∀ ys, e.2 ≠ HO.tup ys := by rw [← hrest]; exact subs_no
      have L : Led B2 H' ((p, .dT (kvsOf qa acc)) :: (q1, .dT (fk e.2)) :: (a, .frz o (.dT (kvsOf qs D))) :: (subsOf qa acc ++ rest)) := L.perm (by
        refine .cons _ ?_
        refine ((List.perm_middle (a := (q1, HO.dT (fk e.2))) (l₁ := subsOf qa acc) (l₂ := rest)).cons _).trans (.swap _ _ _))
      obtain ⟨B3, s3, hkq, L⟩ := L.grab hkq (by
        intro e he ys
        simp only [List.mem_cons, List.mem_append] at he
        rcases he with rfl | rfl | rfl | he | he
        · intro z; cases z
        · intro z; cases z
        · intro z; cases z
        · exact subs_no e he ys
        · exact hrno e he ys)
      refine NewK.of L fun t1 H3 L => ?_
      walk_at "v1"
      refine UnpK.of (L.tupAt (by walk_at "mem")) rfl ?_
      walk_at "v1"
      have L := L.sel (.skip .all)
      refine ⟨0, (t : Int), rfl, by omega, by omega, by omega, by omega, ?_⟩
      have et : ((0 : Int) + (t : Int)) * (0 + (t : Int) + 1) / 2 + 0 = ((tri t : Nat) : Int) := by
        rw [Int.zero_add, Int.add_zero]; unfold tri; rw [Int.natCast_ediv]; rfl
      rw [et]
      refine ⟨kq, e.1, tri t, rfl, L.sm _ _ hkq, by omega, by omega, fun pw as B4 H4 s4 hpt L4 => ?_⟩
      walk_at "v1"
      obtain ⟨B5, s5, L, k5⟩ := L.over s4 L4
      have noT : ∀ x ∈ ((p, HO.dT (kvsOf qa acc)) :: (q1, .dT (fk e.2)) :: (a, .frz o (.dT (kvsOf qs D))) :: (subsOf qa acc ++ rest)), ∀ ys, x.2 ≠ HO.tup ys := by
        intro e he ys
        simp only [List.mem_cons, List.mem_append] at he
        rcases he with rfl | rfl | rfl | he | he
        · intro z; cases z
        · intro z; cases z
        · intro z; cases z
        · exact subs_no e he ys
        · exact hrno e he ys
      have hpt : PtAt B5 as ((endsOf (tri t) e.1).map swp) := PtAt.via (tks_of k5 noT) hpt
      have L : Led B5 H4 ((pw, .lst (as.map V.ref)) :: (p, .dT (kvsOf qa acc)) :: (q1, .dT (fk e.2)) :: (a, .frz o (.dT (kvsOf qs D))) :: (subsOf qa acc ++ rest)) := L
      refine ⟨⟨_, L.lstAt (xs := as.map V.ref) (by walk_at "mem")⟩, ?_⟩
      refine loop_list (xs := as.map V.ref) (fun j σ' H' => ∃ y5 y6 y7 y8 B6 acc2 qb o1, σ' = [some (.ref a), some (.int (t : Nat)), some (.ref p), some (.ref kq), some (.ref q1), y5, y6, y7, y8] ∧ Same B5 B6 ∧ acc2 = ((endsOf (tri t) e.1).take j).foldl (fun acc (x : Part) => addTo acc x.2 (e.2.map fun ns => ns ++ x.1)) acc ∧ qb.length = acc2.length ∧ AccOk n t acc2 ∧ (o1 = HO.dT (fk e.2) ∨ ∃ ob, o1 = .frz ob (.dT (fk e.2))) ∧ Led B6 H' ((pw, .lst (as.map V.ref)) :: (p, .dT (kvsOf qb acc2)) :: (q1, o1) :: (a, .frz o (.dT (kvsOf qs D))) :: (subsOf qb acc2 ++ rest))) ⟨_, _, _, _, B5, acc, qa, _, rfl, Same.refl _, rfl, hqa, hok, .inl rfl, L⟩ (fun j σ' H' _ ⟨_, _, _, _, _, _, _, _, _, _, _, _, _, _, L⟩ => L.lstAt (.head _)) (fun j x σ' H' N2 hx h hN2 => ?_) (fun σ' H' h => ?_)
      · obtain ⟨y5, y6, y7, y8, B6, acc2, qb, o1, rfl, s6, hacc2, hqb, hok2, ho1, L⟩ := h
        obtain ⟨c, hc, rfl⟩ := ref_at hx
        obtain ⟨x', hx', hcp⟩ := paired_get hpt hc
        obtain ⟨x, hx2, rfl⟩ : ∃ x, (endsOf (tri t) e.1)[j]? = some x ∧ x' = swp x := by
          rw [List.getElem?_map] at hx'
          cases z : (endsOf (tri t) e.1)[j]? with
          | none => rw [z] at hx'; cases hx'
          | some p => rw [z] at hx'; cases hx'; exact ⟨p, rfl, rfl⟩
        obtain ⟨r, s', hcq, hr', hs'⟩ := PK.get hcp
        have hr' : B5 r = some (.tup (nv x.2)) := hr'
        have hs' : B5 s' = some (.tup (nv x.1)) := hs'
        have hxm := List.mem_of_getElem? hx2
        obtain ⟨ls, cc, hfit, hxe⟩ := pgo_nxt' (ends_mem.mp hxm)
        have hsnt : ∀ ns ∈ e.2, Sent n (t + 1) (ns ++ x.1) x.2 := fun ns hns => by
          have := ((hD.iff e.1 ns).mp ⟨e, hem, rfl, hns⟩).next hfit
          rw [hxe]
          exact this
        rw [take_snoc hx2, List.foldl_append, ← hacc2] at hN2
        have hN2 : ∀ σ2 H2, (∃ y5 y6 y7 y8 B6 acc3 qb o1, σ2 = [some (.ref a), some (.int (t : Nat)), some (.ref p), some (.ref kq), some (.ref q1), y5, y6, y7, y8] ∧ Same B5 B6 ∧ acc3 = addTo acc2 x.2 (e.2.map fun ns => ns ++ x.1) ∧ qb.length = acc3.length ∧ AccOk n t acc3 ∧ (o1 = HO.dT (fk e.2) ∨ ∃ ob, o1 = .frz ob (.dT (fk e.2))) ∧ Led B6 H2 ((pw, .lst (as.map V.ref)) :: (p, .dT (kvsOf qb acc3)) :: (q1, o1) :: (a, .frz o (.dT (kvsOf qs D))) :: (subsOf qb acc3 ++ rest))) → N2 σ2 H2 := hN2
        clear hxe
        walk_at "v1"
        refine UnpK.of (.inl (.inl ((s6.trans L.sm) _ _ hcq))) rfl ?_
        walk_at "v1"
        walk_at "v2"
        refine ⟨.inr ⟨_, .inl (L.at (.tail _ (.head _)))⟩, ?_⟩
        refine NewK.of L fun d0 H5 L => ?_
        have L : Led B6 H5 ((p, .dT (kvsOf qb acc2)) :: (d0, .dT []) :: (subsOf qb acc2 ++ ((pw, .lst (as.map V.ref)) :: (q1, o1) :: (a, .frz o (.dT (kvsOf qs D))) :: rest))) := by
          refine (L.sel (.cons (.tl (.tl .hd)) (.cons .hd .all))).perm (.cons _ (.cons _ ?_))
          exact List.perm_append_comm_assoc [(pw, .lst (as.map V.ref)), (q1, o1), (a, .frz o (.dT (kvsOf qs D)))] _ rest
        have hrows := hok2.rows h5 ht
        refine setd_fd hqb L ((s6.trans L.sm) _ _ hr') (Nat.lt_of_le_of_lt hrows (by decide)) fun kn accb qb2 m S H6 hab hqb2 hm hkn L => ?_
        have hset := addTo_set (nss := e.2.map fun ns => ns ++ x.1) hok2.ok hab hm
        rw [hset] at hN2
        have hS : S.Nodup ∧ ∀ ns ∈ S, Sent n (t + 1) ns x.2 := by
          have hmm := List.mem_of_getElem? hm
          rw [hab] at hmm
          split at hmm
          · exact ⟨hok2.ok.sets _ hmm, fun ns hns => hok2.snt x.2 ns ⟨_, hmm, rfl, hns⟩⟩
          · rcases List.mem_append.mp hmm with h2 | h2
            · exact ⟨hok2.ok.sets _ h2, fun ns hns => hok2.snt x.2 ns ⟨_, h2, rfl, hns⟩⟩
            · have h3 := List.mem_singleton.mp h2
              injection h3 with _ h3
              rw [h3]
              exact ⟨List.nodup_nil, fun ns hns => (by cases hns)⟩
        have hok3 : AccOk n t (addTo acc2 x.2 (e.2.map fun ns => ns ++ x.1)) := hok2.add (fun z => hD.ne e hem (List.map_eq_nil_iff.mp z)) fun ns hns => by
          obtain ⟨y, hy, rfl⟩ := List.mem_map.mp hns
          exact hsnt y hy
        rw [hset] at hok3
        rw [subs_mid hm hkn, List.append_assoc] at L
        generalize hpre : subsOf (qb2.take m) (accb.take m) = pre at *
        generalize hpost : subsOf (qb2.drop (m + 1)) (accb.drop (m + 1)) = post at *
        have hprn : ∀ e ∈ pre, ∀ ys, e.2 ≠ HO.tup ys := by rw [← hpre]; exact subs_no
        have hpon : ∀ e ∈ post, ∀ ys, e.2 ≠ HO.tup ys := by rw [← hpost]; exact subs_no
        have L : Led B6 H6 ((kn, .dT (fk S)) :: (q1, o1) :: ((pw, .lst (as.map V.ref)) :: (p, .dT (kvsOf qb2 accb)) :: (a, .frz o (.dT (kvsOf qs D))) :: (pre ++ (post ++ rest)))) := by
          refine L.perm ?_
          refine ((List.perm_middle (a := (kn, HO.dT (fk S))) (l₁ := (p, HO.dT (kvsOf qb2 accb)) :: pre)).trans (.cons _ ?_))
          refine List.Perm.trans (l₂ := (p, HO.dT (kvsOf qb2 accb)) :: ([(pw, .lst (as.map V.ref)), (q1, o1), (a, .frz o (.dT (kvsOf qs D)))] ++ (pre ++ (post ++ rest)))) (.cons _ ?_) ?_
          · refine List.Perm.trans ?_ (List.perm_append_comm_assoc pre [(pw, .lst (as.map V.ref)), (q1, o1), (a, .frz o (.dT (kvsOf qs D)))] (post ++ rest))
            exact List.Perm.append_left pre (List.perm_append_comm_assoc post [(pw, .lst (as.map V.ref)), (q1, o1), (a, .frz o (.dT (kvsOf qs D)))] rest)
          · refine (List.Perm.swap (pw, HO.lst (as.map V.ref)) (p, HO.dT (kvsOf qb2 accb)) _).trans ?_
            refine ((List.Perm.swap (q1, o1) (p, HO.dT (kvsOf qb2 accb)) _).cons _).trans ?_
            exact List.Perm.swap (q1, o1) (pw, HO.lst (as.map V.ref)) _
        generalize hT : ((pw, HO.lst (as.map V.ref)) :: (p, .dT (kvsOf qb2 accb)) :: (a, .frz o (.dT (kvsOf qs D))) :: (pre ++ (post ++ rest))) = T at *
        have hTn : ∀ e ∈ T, ∀ ys, e.2 ≠ HO.tup ys := by
          rw [← hT]
          intro e he ys
          simp only [List.mem_cons, List.mem_append] at he
          rcases he with rfl | rfl | rfl | he | he | he
          · intro z; cases z
          · intro z; cases z
          · intro z; cases z
          · exact hprn e he ys
          · exact hpon e he ys
          · exact hrno e he ys
        refine wlkR_of L ho1 fun ob H7 L => ?_
        refine loop_keysT (fun u σ' H' => ∃ y8 B7, σ' = [some (.ref a), some (.int (t : Nat)), some (.ref p), some (.ref kq), some (.ref q1), some (.ref r), some (.ref s'), some (.ref kn), y8] ∧ Same B6 B7 ∧ Led B7 H' ((kn, .dT (fk (((e.2.take u).map fun ns => ns ++ x.1).foldl putF S))) :: (q1, .frz ob (.dT (fk e.2))) :: T)) ⟨_, B6, rfl, Same.refl _, L⟩ (fun u σ' H' ⟨_, _, _, _, L⟩ => L.at (by walk_at "mem")) (fun u k2 v2 q2 σ' H' N3 hkv2 h hq2 hN3 => ?_) (fun σ' H' h => ?_)
        · obtain ⟨y8, B7, rfl, s7, L⟩ := h
          obtain ⟨ns, hns, rfl⟩ := fk_at hkv2
          rw [rk_kV] at hq2
          have hnm := List.mem_of_getElem? hns
          obtain ⟨B8, s8, hq2, L⟩ := L.grab hq2 (by
            intro e he ys
            simp only [List.mem_cons] at he
            rcases he with rfl | rfl | he
            · intro z; cases z
            · intro z; cases z
            · exact hTn e he ys)
          rw [take_snoc hns, List.map_append, List.foldl_append] at hN3
          have hN3 : ∀ σ2 H2, _ := hN3
          have hfew : (((e.2.take u).map fun ns => ns ++ x.1).foldl putF S).length ≤ 32768 := sent_few h5 ht (k := x.2) (foldF_nodup hS.1) fun z hz => by
            rcases foldF_mem.mp hz with h2 | h2
            · exact hS.2 z h2
            · obtain ⟨y, hy, rfl⟩ := List.mem_map.mp h2
              exact hsnt y (List.mem_of_mem_take hy)
          generalize ((e.2.take u).map fun ns => ns ++ x.1).foldl putF S = Su at *
          walk_at "v1"
          have hl1 : ns.length ≤ 5 := by have := ((hD.iff e.1 ns).mp ⟨e, hem, rfl, hnm⟩).tot; omega
          have hl2 : x.1.length ≤ 10 := by have := (hsnt ns hnm).tot; rw [List.length_append] at this; omega
          refine CatTK.of L hq2 ((s6.trans (s7.trans s8)) _ _ hs') (Nat.le_trans (m := 100) (by rw [nv_len, nv_len]; omega) (by decide)) fun r9 B9 H9 s9 h9 L => ?_
          rw [← nv_cat] at h9
          refine DPutK.t (k := rk (ns ++ x.1)) L (.head _) (by rw [rk_kV]; exact L.sm _ _ h9) (Nat.lt_of_le_of_lt (m := 32768) (by rw [fk_len]; exact hfew) (by decide)) .hd fun H10 L => ?_
          rw [fk_put] at L
          exact hN3 _ _ ⟨_, B9, rfl, s7.trans (s8.trans s9), L⟩
        · obtain ⟨y8, B7, rfl, s7, L⟩ := h
          rw [fk_len, List.take_length] at L
          walk_at "vc"
          refine hN2 _ _ ⟨_, _, _, _, B7, _, qb2, _, rfl, s6.trans s7, rfl, by rw [List.length_set]; exact hqb2, hok3, .inr ⟨ob, rfl⟩, ?_⟩
          rw [kvs_set hm, subs_set hm hkn, hpre, hpost, List.append_assoc]
          rw [← hT] at L
          refine (L.sel (.cons (.tl (.tl .hd)) (.cons (.tl (.tl .hd)) (.cons (.tl .hd) (.cons (.tl .hd) .all))))).perm (.cons _ (.cons _ (.cons _ (.cons _ ?_))))
          exact List.perm_middle.symm
      · obtain ⟨y5, y6, y7, y8, B6, acc2, qb, o1, rfl, s6, hacc2, hqb, hok2, ho1, L⟩ := h
        have hal : as.length = (endsOf (tri t) e.1).length := by rw [Paired.length hpt, List.length_map]
        rw [List.length_map, hal, List.take_length] at hacc2
        walk_at "vc"
        exact hN _ _ ⟨_, _, _, _, _, _, B6, acc2, qb, rfl, s2.trans (s3.trans (s5.trans s6)), hacc2, hqb, hok2, L.sel (.skip (.cons .hd (.cons (.tl .hd) (.skip .all))))⟩
    · obtain ⟨y3, y4, y5, y6, y7, y8, B2, acc, qa, rfl, s2, hacc, hqa, hok, L⟩ := h
      rw [kvs_len hql, List.take_length] at hacc
      walk_at "vc"
      refine q p qa B2 H' s2 (by rw [hqa, hacc]; rfl) ?_
      have e : faAll t D = acc := hacc.symm
      rw [e]
      rw [kvs_len hql, List.drop_length, show subsOf (qs.drop D.length) [] = [] by unfold subsOf; simp, List.append_nil] at L
      exact L.sel (.cons .hd (.skip .all))
/-! cut possible_lists -/
def PL (n : Nat) (ls : List (List Nat)) : Prop := srt ((allAt n n).2.map zs) = ls.map zs
def elemsOf (as : List Addr) (ls : List (List Nat)) : List (Addr × HO) := List.zipWith (fun a l => (a, HO.lst (nv l))) as ls
def RowsN (H : Hp) (as : List Addr) (ls : List (List Nat)) : Prop := Paired (fun a l => H a = some (.lst (nv l))) as ls
theorem zs_map_inj : ∀ {a b : List (List Nat)}, a.map zs = b.map zs → a = b
  | [], [], _ => rfl
  | [], _ :: _, h => by cases h
  | _ :: _, [], h => by cases h
  | x :: a, y :: b, h => by
    injection h with h1 h2
    rw [zs_inj h1, zs_map_inj h2]
theorem PL.uniq {n : Nat} {a b : List (List Nat)} (h1 : PL n a) (h2 : PL n b) : a = b := zs_map_inj (h1.symm.trans h2)
theorem PL.perm {n : Nat} {ls : List (List Nat)} (h : PL n ls) : ls.Perm (allAt n n).2 := by
  have h1 : ((allAt n n).2.map zs).Perm (ls.map zs) := by
    have := (List.mergeSort_perm ((allAt n n).2.map zs) fun a b => decide (a ≤ b)).symm
    rw [← h]
    exact this
  have h2 := h1.map (fun l => l.map Int.toNat)
  rw [List.map_map, List.map_map] at h2
  have e : (fun l => l.map Int.toNat) ∘ zs = id := by
    funext l
    show (zs l).map Int.toNat = l
    unfold zs
    rw [List.map_map]
    exact List.map_id l
  rw [e, List.map_id, List.map_id] at h2
  exact h2.symm
theorem PL.mem {n : Nat} (hn : 0 < n) {ls : List (List Nat)} (h : PL n ls) (ms : List Nat) : ms ∈ ls ↔ Poss n ms := (h.perm.mem_iff).trans (all_mem hn ms)
theorem PL.nd {n : Nat} (hn : 0 < n) {ls : List (List Nat)} (h : PL n ls) : ls.Nodup := h.perm.nodup_iff.mpr ((allAt_ok (n := n) hn n).good (Nat.le_refl n)).1
theorem sum_zero : ∀ {l : List Nat}, l.sum = 0 → l = List.replicate l.length 0
  | [], _ => rfl
  | x :: l, h => by
    rw [List.sum_cons] at h
    have h1 : x = 0 := by omega
    have h2 := sum_zero (l := l) (by omega)
    rw [List.length_cons, List.replicate_succ, ← h2, h1]
theorem fd_rows {n : Nat} (hn : 0 < n) : ∀ e ∈ fdGo n n, e.1 = List.replicate (n + 1) 0 := by
  intro e he
  have h := fdGo_at n n
  obtain ⟨ms, hm⟩ := List.exists_mem_of_ne_nil _ (h.ne e he)
  have hs := (h.iff e.1 ms).mp ⟨e, he, rfl, hm⟩
  have hp := (fd_mem hn ms).mp ⟨e, he, hm⟩
  obtain ⟨f, _⟩ := RowAt.ok ways_ok hs.here
  have h0 : e.1.sum = 0 := by have := hs.tot; have := hp.len; omega
  have hl : e.1.length = n + 1 := f.len
  rw [sum_zero h0, hl]
theorem fd_flat {n : Nat} (hn : 0 < n) : ((fdGo n n).flatMap (·.2)).Perm (allAt n n).2 := by
  have h := fdGo_at n n
  have hr := fd_rows hn
  refine (List.perm_ext_iff_of_nodup ?_ ((allAt_ok (n := n) hn n).good (Nat.le_refl n)).1).mpr fun ms => ?_
  · have hk := h.ok.1
    have h2 := h.ok.2
    generalize fdGo n n = D at *
    cases D with
    | nil => exact List.nodup_nil
    | cons e D =>
      cases D with
      | nil => rw [List.flatMap_cons, List.flatMap_nil, List.append_nil]; exact h2 e (.head _)
      | cons e2 D =>
        have e1 := hr e (.head _)
        have e3 := hr e2 (.tail _ (.head _))
        simp only [List.map_cons, List.nodup_cons, List.mem_cons] at hk
        exact absurd (.inl (e1.trans e3.symm)) hk.1
  · rw [all_mem hn, List.mem_flatMap]
    exact fd_mem hn ms
theorem elems_len : ∀ {as : List Addr} {ls : List (List Nat)}, as.length = ls.length → (elemsOf as ls).map (·.1) = as
  | [], _, _ => rfl
  | _ :: _, [], h => by cases h
  | a :: as, l :: ls, h => by
    show a :: (elemsOf as ls).map (·.1) = _
    rw [elems_len (Nat.succ.inj h)]
theorem elems_rows {H : Hp} : ∀ {as : List Addr} {ls : List (List Nat)}, as.length = ls.length → (∀ e ∈ elemsOf as ls, H e.1 = some e.2) → RowsN H as ls
  | [], [], _, _ => .nil
  | [], _ :: _, h, _ => by cases h
  | _ :: _, [], h, _ => by cases h
  | a :: as, l :: ls, h, g => .cons (g (a, .lst (nv l)) (.head _)) (elems_rows (Nat.succ.inj h) fun e he => g e (.tail _ he))
theorem elems_map {H : Hp} : ∀ {as : List Addr} {ls : List (List Nat)}, RowsN H as ls → elemsOf as ls = as.map fun a => (a, (H a).getD (.lst []))
  | _, _, .nil => rfl
  | _, _, .cons h g => by
    rw [List.map_cons, h, ← elems_map g]
    rfl
theorem rowsN_L {H : Hp} : ∀ {as : List Addr} {ls : List (List Nat)}, RowsN H as ls → RowsL H as (ls.map zs)
  | _, _, .nil => .nil
  | _, _, .cons h g => .cons (by rw [zs_nv]; exact h) (rowsN_L g)
theorem rowsL_N {H : Hp} : ∀ {as : List Addr} {ls : List (List Nat)}, RowsL H as (ls.map zs) → RowsN H as ls
  | [], [], _ => .nil
  | [], _ :: _, h => nomatch h
  | _ :: _, [], h => nomatch h
  | a :: as, l :: ls, h => by
    cases h with
    | cons h g => exact .cons (by rw [← zs_nv]; exact h) (rowsL_N g)
theorem elems_snoc : ∀ {as : List Addr} {ls : List (List Nat)} {a : Addr} {l : List Nat}, as.length = ls.length → elemsOf (as ++ [a]) (ls ++ [l]) = elemsOf as ls ++ [(a, .lst (nv l))]
  | [], [], _, _, _ => rfl
  | [], _ :: _, _, _, h => by cases h
  | _ :: _, [], _, _, h => by cases h
  | a :: as, l :: ls, _, _, h => by
    show (a, HO.lst (nv l)) :: elemsOf (as ++ _) (ls ++ _) = _
    rw [elems_snoc (Nat.succ.inj h)]
    rfl
theorem srt_perm {as bs : List (List Int)} (h : as.Perm bs) : srt as = srt bs := by
  refine List.Perm.eq_of_pairwise (le := fun a b => decide (a ≤ b) = true) (fun a b _ _ h1 h2 => ?_) ?_ ?_ ?_
  · exact List.le_antisymm (of_decide_eq_true h1) (of_decide_eq_true h2)
  · exact List.pairwise_mergeSort (le := fun a b => decide (a ≤ b)) (fun a b c h1 h2 => decide_eq_true (List.le_trans (of_decide_eq_true h1) (of_decide_eq_true h2))) (fun a b => by rcases List.le_total a b with h | h <;> simp [h]) as
  · exact List.pairwise_mergeSort (le := fun a b => decide (a ≤ b)) (fun a b c h1 h2 => decide_eq_true (List.le_trans (of_decide_eq_true h1) (of_decide_eq_true h2))) (fun a b => by rcases List.le_total a b with h | h <;> simp [h]) bs
  · exact (List.mergeSort_perm as _).trans (h.trans (List.mergeSort_perm bs _).symm)
theorem PL.ex (n : Nat) : ∃ ls, PL n ls := by
  refine ⟨(srt ((allAt n n).2.map zs)).map fun l => l.map Int.toNat, ?_⟩
  have hp : (srt ((allAt n n).2.map zs)).Perm ((allAt n n).2.map zs) := List.mergeSort_perm _ _
  unfold PL
  rw [List.map_map]
  refine (List.map_id _).symm.trans (List.map_congr_left fun l hl => ?_)
  obtain ⟨ms, _, rfl⟩ := List.mem_map.mp (hp.mem_iff.mp hl)
  show zs ms = zs ((zs ms).map Int.toNat)
  congr 1
  unfold zs
  rw [List.map_map]
  exact (List.map_id ms).symm
def sp_possible_lists (K : PySem.W.Frag) : Sp := fun vs H Q _ => ∃ (n : Nat), vs = [.int n] ∧ 1 ≤ n ∧ n ≤ 5 ∧
  ∀ p as B' H' ls, Same H B' → as.length = ls.length → PL n ls → Led B' H' ((p, .lst (as.map V.ref)) :: elemsOf as ls) → Q (.ref p) H'
theorem ok_possible_lists (m : Mo K mg d) (sm : SM bs) (G_found_after : FnOk P w K mg bs CX0 5 d.a_found_after d.fd_found_after ["found", "diagonal"] (sp_found_after K)) : FnOk P w K mg bs CX0 6 d.a_possible_lists d.fd_possible_lists ["count"] (sp_possible_lists K) := by
  refine m.F_possible_lists.ok (k := 5) sc_possible_lists (fun vs H Q E h => ?_) (fun cdv A fr s H vs Q E hr h => ?_)
  · obtain ⟨n, rfl, h1, h5, q⟩ := h
    rfl
  · obtain ⟨n, rfl, h1, h5, q⟩ := h
    refine ⟨_, (pss_cons (ps_asg (pe_d1T (Nat.lt_of_le_of_lt (Nat.add_le_add_left (by decide) _) hr.units) (pe_tup (pa_cons (pv 0) pa_nil)) (pe_d1T (Nat.lt_of_le_of_lt (Nat.add_le_add_left (by decide) _) hr.units) (pe_tup pa_nil) pe_bl)) (pg_name (i := 1) sc_possible_lists.nd rfl (.inl rfl)))
      (pss_cons (ps_for PassesOwn.never rfl (pi_range1 (by rfl) m.n_range (pa_cons (pv 0) pa_nil)) (pg_name (i := 2) sc_possible_lists.nd rfl (.inl rfl))
      (pss_one (ps_asg (pe_call G_found_after (hr.mono (by decide)) (by rfl) m.g_found_after m.F_found_after.kp m.b_found_after .nil pass0 (pa_cons (pv 1) (pa_cons (pv 2) pa_nil))) (pg_name (i := 1) sc_possible_lists.nd rfl (.inl rfl)))))
      (pss_one (ps_ret (pe_callB (show CallR _ _ (rSortR K) from cr_sortR (Nat.lt_of_le_of_lt (Nat.add_le_add_left (by decide) _) hr.units)) (by rfl) m.n_sorted (by decide +kernel) (pa_cons (pe_lc2 (own := [("taken", 3), ("names", 4)]) (vs1 := [4]) (by rfl) sc_possible_lists.nd (pi_valsN (pv 1)) (blkOk_by (own := [("taken", 3), ("names", 4)]) (N := ["count", "found", "diagonal", "taken", "names"]) (sc := defScope s_possible_lists) (by decide +kernel)) (by decide) (fun _ _ _ _ _ => by exact (pg_name (i := 3) sc_possible_lists.nd rfl (.inl rfl))) (fun _ _ _ _ _ => by exact pts_nil) (fun _ _ _ _ _ => by exact (pi_keysN (pv 3))) (fun _ _ _ _ _ => by exact (pg_name (i := 4) sc_possible_lists.nd rfl (.inl rfl))) (fun _ _ _ _ _ => by exact pts_nil) (fun _ _ _ _ _ => by exact (pe_callTy (show CallR _ _ (rListOf K) from cr_listOf) (by rfl) m.n_list (by decide +kernel) (pa_cons (pv 4) pa_nil)))) pa_nil)))))), ?_⟩
    walk_at "v2"
    refine NewK.of (Led.nil H) fun pf H1 L => ?_
    refine NewK.of L fun t1 H2 L => ?_
    obtain ⟨B1, s1, ht1, L⟩ := L.sink
    refine NewK.of L fun p2 H3 L => ?_
    refine NewK.of L fun t2 H4 L => ?_
    obtain ⟨B2, s2, ht2, L⟩ := L.sink
    refine ⟨L.at (by walk_at "mem"), [], L.sm _ _ ht2, ?_⟩
    have L := L.put (p := p2) (o' := .dT [([], .bl true)]) (by walk_at "put")
    refine ⟨L.at (by walk_at "mem"), rk [n], by rw [rk_kV]; exact L.sm _ _ (s2 _ _ ht1), ?_⟩
    have L := L.put (p := pf) (o' := .dT [(rk [n], .ref p2)]) (by walk_at "put")
    walk_at "v2"
    refine ⟨by omega, by omega, ?_⟩
    refine loop_range (fun i σ H' => ∃ y3 y4 y5 pf qs B0, σ = [some (.int (n : Int)), some (.ref pf), y3, y4, y5] ∧ Same H B0 ∧ qs.length = (fdGo n i).length ∧ Led B0 H' ((pf, .dT (kvsOf qs (fdGo n i))) :: subsOf qs (fdGo n i))) ⟨_, _, _, pf, [p2], B2, rfl, s1.trans s2, rfl, L.sel (.cons (.tl .hd) (.cons .hd .nil))⟩ (fun i σ H' N hi h hN => ?_) (fun σ H' h => ?_)
    · obtain ⟨y3, y4, y5, pf, qs, B0, rfl, s0, hqs, L⟩ := h
      walk_at "v1"
      refine ⟨B0, pf, qs, fdGo n i, n, i, rfl, L, hqs, fdGo_at n i, by omega, h5, fun p qs' B' H2 s3 hqs' L => ?_⟩
      walk_at "vc"
      exact hN _ _ ⟨_, _, _, p, qs', B', rfl, s0.trans s3, hqs', L⟩
    · obtain ⟨y3, y4, y5, pf, qs, B0, rfl, s0, hqs, L⟩ := h
      rw [Int.toNat_natCast] at hqs L
      have hflat := fd_flat (n := n) h1
      generalize fdGo n n = D at *
      have hflen : (D.flatMap (·.2)).length ≤ 32768 := by
        rw [hflat.length_eq]
        exact poss_few h5 ((allAt_ok (n := n) h1 n).good (Nat.le_refl n)).1 ((allAt_ok (n := n) h1 n).good (Nat.le_refl n)).2
      obtain ⟨ls, hPL⟩ := PL.ex n
      have hsrt : srt ((D.flatMap (·.2)).map zs) = ls.map zs := (srt_perm (hflat.map zs)).trans hPL
      walk_at "v1"
      refine WlkK.of L (.head _) (l'' := fun o => (pf, .frz o (.dT (kvsOf qs D))) :: subsOf qs D) (fun o => by walk_at "put") fun o H2 L => ?_
      refine lc2_of D.length (fun i z acc H3 => ∃ as, acc = as.map V.ref ∧ as.length = ((D.take i).flatMap (·.2)).length ∧ Led B0 H3 ((z, .lst (as.map V.ref)) :: (pf, .frz o (.dT (kvsOf qs D))) :: (elemsOf as ((D.take i).flatMap (·.2)) ++ subsOf (qs.drop i) (D.drop i)))) (fun z hz => ⟨[], rfl, rfl, L.new hz⟩) ?_ ?_
      · rintro z acc H3 ⟨as, rfl, has, L⟩
        rw [List.take_length] at has L
        rw [List.drop_length, show subsOf (qs.drop D.length) [] = [] by unfold subsOf; simp, List.append_nil] at L
        refine ⟨⟨L.at (.tail _ (.head _)), Nat.le_of_eq (kvs_len hqs)⟩, x_sortR.mpr ?_⟩
        have hr := elems_rows has fun e he => L.hs e (.tail _ (.tail _ he))
        refine ⟨as, _, L.lstAt (.head _), rowsN_L hr, fun bs hbp hb => NewK.of L fun p H4 L => ?_⟩
        rw [hsrt] at hb
        have hb := rowsL_N hb
        refine q p bs B0 H4 ls s0 (Paired.length hb) hPL ((L.sel (.cons .hd (.skip (.skip .all)))).perm (.cons _ ?_))
        rw [elems_map hr, elems_map hb]
        exact hbp.symm.map _
      · rintro i z acc H3 N1 hi ⟨as, rfl, has, L⟩ hN
        refine ⟨⟨L.at (.tail _ (.head _)), by rw [kvs_len hqs]; exact hi⟩, ?_⟩
        rintro x H4 ⟨rfl, k, hkv⟩
        obtain ⟨e, q1, he, hq1, rfl, rfl⟩ := kvs_at hkv
        rw [take_snoc he, List.flatMap_append, List.flatMap_cons, List.flatMap_nil, List.append_nil] at hN
        rw [subs_drop he hq1] at L
        have hsub : ((D.take i).flatMap (·.2)).length + e.2.length ≤ (D.flatMap (·.2)).length := by
          have h3 : D = D.take i ++ e :: D.drop (i + 1) := by
            have h9 := List.drop_eq_getElem_cons hi
            rw [show D[i] = e from Option.some.inj ((List.getElem?_eq_getElem hi).symm.trans he)] at h9
            rw [← h9, List.take_append_drop]
          have h4 : (D.flatMap (·.2)).length = ((D.take i).flatMap (·.2)).length + (e.2.length + ((D.drop (i + 1)).flatMap (·.2)).length) := by
            conv => lhs; rw [h3]
            rw [List.flatMap_append, List.flatMap_cons, List.length_append, List.length_append]
          omega
        generalize hpre : (D.take i).flatMap (·.2) = pre at *
        generalize hrest : subsOf (qs.drop (i + 1)) (D.drop (i + 1)) = rest at *
        walk_at "v1"
        have L : Led B0 H4 ((q1, .dT (fk e.2)) :: (z, .lst (as.map V.ref)) :: (pf, .frz o (.dT (kvsOf qs D))) :: (elemsOf as pre ++ rest)) := L.perm (((List.perm_middle.cons _).cons _).trans (((List.Perm.swap _ _ _).cons _).trans (.swap _ _ _)))
        refine WlkK.of L (.head _) (l'' := fun o1 => (q1, .frz o1 (.dT (fk e.2))) :: (z, .lst (as.map V.ref)) :: (pf, .frz o (.dT (kvsOf qs D))) :: (elemsOf as pre ++ rest)) (fun o => by walk_at "put") fun o1 H5 L => ?_
        refine in_of (acc0 := as.map V.ref) e.2.length (fun j acc H6 => ∃ as2, acc = as2.map V.ref ∧ as2.length = (pre ++ e.2.take j).length ∧ Led B0 H6 ((q1, .frz o1 (.dT (fk e.2))) :: (z, .lst (as2.map V.ref)) :: (pf, .frz o (.dT (kvsOf qs D))) :: (elemsOf as2 (pre ++ e.2.take j) ++ rest))) ⟨as, rfl, by rw [List.take_zero, List.append_nil]; exact has, by rw [List.take_zero, List.append_nil]; exact L⟩ ?_ ?_
        · rintro acc H6 ⟨as2, rfl, has2, L⟩
          rw [List.take_length] at has2 L
          exact ⟨⟨L.at (.head _), Nat.le_of_eq (fk_len _)⟩, hN _ _ ⟨as2, rfl, has2, L.sel (.skip .all)⟩⟩
        · rintro j acc H6 N2 hj ⟨as2, rfl, has2, L⟩ hN2
          refine ⟨⟨L.at (.head _), by rw [fk_len]; exact hj⟩, ?_⟩
          rintro x H7 ⟨rfl, k, v, q2, hkv2, rfl, hq2⟩
          obtain ⟨ns, hns, rfl⟩ := fk_at hkv2
          rw [rk_kV] at hq2
          rw [take_snoc hns, ← List.append_assoc] at hN2
          have hlen : as2.length < 32768 := by
            rw [has2, List.length_append, List.length_take]
            omega
          walk_at "v1"
          refine ⟨nv ns, .inr (.inl (.inl hq2)), NewK.of L fun t H8 L => ?_⟩
          refine AppK.of L (xs := as2.map V.ref) (by walk_at "mem") (Nat.lt_of_le_of_lt (m := 40000) (by rw [List.length_map]; omega) (by decide)) (by walk_at "put") fun H9 L => ?_
          rw [show as2.map V.ref ++ [V.ref t] = (as2 ++ [t]).map V.ref by rw [List.map_append]; rfl] at L
          refine hN2 _ _ ⟨as2 ++ [t], rfl, by rw [List.length_append, List.length_append, has2]; rfl, ?_⟩
          rw [elems_snoc has2, List.append_assoc]
          exact L.perm (List.perm_middle (l₁ := _ :: _ :: _ :: elemsOf as2 _)).symm
/-! cut nth_set -/
theorem elems_at {as : List Addr} {ls : List (List Nat)} {i : Nat} {l : List Nat} (has : as.length = ls.length) (hl : ls[i]? = some l) : ∃ a, as[i]? = some a ∧ (a, HO.lst (nv l)) ∈ elemsOf as ls := by
  have hi : i < as.length := by rw [has]; exact (List.getElem?_eq_some_iff.mp hl).1
  refine ⟨as[i], List.getElem?_eq_getElem hi, List.mem_of_getElem? (i := i) ?_⟩
  unfold elemsOf
  rw [List.getElem?_zipWith, List.getElem?_eq_getElem hi, hl]
def sp_nth_set (K : PySem.W.Frag) (d : Ad) : Sp := fun vs H Q _ => ∃ (n i : Nat) (ls : List (List Nat)) (l : List Nat), vs = [.int n, .int i] ∧ 1 ≤ n ∧ n ≤ 5 ∧ PL n ls ∧ ls[i]? = some l ∧ ∀ p B' H', Same H B' → Led B' H' [(p, .lst (nv l))] → Q (.ref p) H'
theorem ok_nth_set (m : Mo K mg d) (sm : SM bs) (G_is_integer_within : FnOk P w K mg bs CX0 2 d.a_is_integer_within d.fd_is_integer_within ["value", "least", "greatest"] (sp_is_integer_within K)) (G_check_count : FnOk P w K mg bs CX0 3 d.a_check_count d.fd_check_count ["count", "greatest"] (sp_check_count K)) (G_possible_lists : FnOk P w K mg bs CX0 6 d.a_possible_lists d.fd_possible_lists ["count"] (sp_possible_lists K)) : FnOk P w K mg bs CX0 7 d.a_nth_set d.fd_nth_set ["count", "number"] (sp_nth_set K d) := by
  obtain ⟨t_GREATEST_COUNT, h_GREATEST_COUNT⟩ := m.mg_GREATEST_COUNT
  refine m.F_nth_set.ok (k := 6) sc_nth_set (fun vs H Q E h => ?_) (fun cdv A fr s H vs Q E hr h => ?_)
  · obtain ⟨n, i, ls, l, rfl, h1, h5, hP, hl, q⟩ := h
    rfl
  · obtain ⟨n, i, ls, l, rfl, h1, h5, hP, hl, q⟩ := h
    refine ⟨_, (pss_cons (ps_expr (pe_call G_check_count (hr.mono (by decide)) (by rfl) m.g_check_count m.F_check_count.kp m.b_check_count .nil pass0 (pa_cons (pv 0) (pa_cons (pe_glob (v := .int (5)) rfl h_GREATEST_COUNT ⟨_, rfl⟩) pa_nil))))
      (pss_cons (ps_asg (pe_call G_possible_lists (hr.mono (by decide)) (by rfl) m.g_possible_lists m.F_possible_lists.kp m.b_possible_lists .nil pass0 (pa_cons (pv 0) pa_nil)) (pg_name (i := 2) sc_nth_set.nd rfl (.inl rfl)))
      (pss_cons (ps_if (pt_not (pt_val (pe_call G_is_integer_within (hr.mono (by decide)) (by rfl) m.g_is_integer_within m.F_is_integer_within.kp m.b_is_integer_within .nil pass0 (pa_cons (pv 1) (pa_cons pe_int (pa_cons (pe_op op_sub (pe_callB cr_len (by rfl) m.n_len (by decide +kernel) (pa_cons (pv 2) pa_nil)) pe_int) pa_nil))))))
      (pss_one ps_never)
      pss_nil)
      (pss_one (ps_ret (pe_ix ix_list (pv 2) (pv 1) (fun _ _ => rfl))))))), ?_⟩
    have hi : i < ls.length := (List.getElem?_eq_some_iff.mp hl).1
    walk_at "vc"
    refine ⟨n, 5, rfl, by omega, by omega, ?_⟩
    walk_at "vc"
    refine ⟨n, rfl, h1, h5, fun p as B' H' ls2 s has hP2 L => ?_⟩
    obtain rfl := PL.uniq hP hP2
    obtain ⟨a, ha, hm⟩ := elems_at has hl
    walk_at "vc"
    refine LenK.ofL (L.lstAt (.head _)) ?_
    rw [List.length_map, has]
    walk_at "vc"
    refine ⟨_, _, _, rfl, ?_⟩
    rw [decide_eq_true (show (0 : Int) ≤ (i : Int) by omega), decide_eq_true (show (i : Int) ≤ ((ls.length : Nat) : Int) - 1 by omega)]
    walk_at "vc"
    refine IxLK.of (L.lstAt (.head _)) (v := .ref a) (atI_nat' (by rw [List.getElem?_map, ha]; rfl)) ?_
    exact q a B' H' s (L.subl (List.singleton_sublist.mpr (.tail _ hm)))
/-! cut is_integer_list -/
def sp_is_integer_list (K : PySem.W.Frag) : Sp := fun vs H Q _ => ∃ (a : Addr) (ms : List Nat), vs = [.ref a] ∧ SqL K H a (nv ms) ∧ ∀ H', Same H H' → Q (.bl true) H'
theorem ok_is_integer_list (m : Mo K mg d) (sm : SM bs) (G_is_integer : FnOk P w K mg bs CX0 1 d.a_is_integer d.fd_is_integer ["value"] (sp_is_integer K)) : FnOk P w K mg bs CX0 2 d.a_is_integer_list d.fd_is_integer_list ["value"] (sp_is_integer_list K) := by
  refine m.F_is_integer_list.ok (k := 1) sc_is_integer_list (fun vs H Q E h => ?_) (fun cdv A fr s H vs Q E hr h => ?_)
  · obtain ⟨a, ms, rfl, hS, q⟩ := h
    rfl
  · obtain ⟨a, ms, rfl, hS, q⟩ := h
    refine ⟨_, (pss_one (ps_ret (pe_and (pe_callB cr_is (by rfl) m.n_isinstance (by decide +kernel) (pa_cons (pv 0) (pa_cons (pe_bltn (v := .ty "list") (by rfl) m.n_list (by decide +kernel) rfl) pa_nil))) (pe_one (pe_cmpR (op_eqL hr.units) (pe_lc (own := [("item", 1)]) (by rfl) sc_is_integer_list.nd (pi_list (pv 0)) (blkOk_by (own := [("item", 1)]) (N := ["value", "item"]) (sc := defScope s_is_integer_list) (by decide +kernel)) (fun _ _ _ _ _ => by exact (pg_name (i := 1) sc_is_integer_list.nd rfl (.inl rfl))) (fun _ _ _ _ _ => by exact (pts_one (pt_not (pt_val (pe_call G_is_integer (hr.mono (by decide)) (by rfl) m.g_is_integer m.F_is_integer.kp m.b_is_integer .nil pass0 (pa_cons (pv 1) pa_nil)))))) (fun _ _ _ _ _ => by exact (pv 1))) (pe_lst pa_nil) (nomark _)))))), ?_⟩
    walk_at "vc"
    refine IsK.lstL (b := true) hS (by decide +kernel) ?_
    walk_at "vc"
    refine ⟨⟨_, hS⟩, ?_⟩
    refine comp_list (xs := nv ms) (fun j z acc H' => acc = [] ∧ Led H H' [(z, .lst [])]) (fun z hz => ⟨rfl, (Led.nil H).new hz⟩) (fun j z acc H' h => h.2.seq hS) ?_ ?_
    · rintro z acc H2 ⟨rfl, L⟩
      refine NewK.of L fun e0 H3 L => ?_
      refine EqL0 (L.lstAt (xs := []) (by walk_at "mem")) (L.lstAt (by walk_at "mem")) ?_
      exact q _ L.sm
    · rintro j z acc H2 x N hx ⟨rfl, L⟩ hN
      obtain ⟨p, hp, rfl⟩ := nv_at hx
      unfold TurnK
      walk_at "vc"
      refine ⟨_, rfl, ?_⟩
      walk_at "vc"
      exact hN _ _ ⟨rfl, L⟩
/-! cut is_name_list -/
instance : DecidablePred Asc := fun ms => inferInstanceAs (Decidable (ms.Pairwise (· < ·)))
def NL (ms : List Nat) : Prop := Asc ms ∧ 1 ≤ ms.length ∧ ms.length ≤ 8
instance : DecidablePred NL := fun ms => inferInstanceAs (Decidable (_ ∧ _ ∧ _))
def sp_is_name_list (K : PySem.W.Frag) : Sp := fun vs H Q _ => ∃ (a : Addr) (ms : List Nat), vs = [.ref a] ∧ SqL K H a (nv ms) ∧ ∀ H', Same H H' → Q (.bl (decide (NL ms))) H'
theorem ok_is_name_list (m : Mo K mg d) (sm : SM bs) (G_is_integer_list : FnOk P w K mg bs CX0 2 d.a_is_integer_list d.fd_is_integer_list ["value"] (sp_is_integer_list K)) : FnOk P w K mg bs CX0 3 d.a_is_name_list d.fd_is_name_list ["value"] (sp_is_name_list K) := by
  obtain ⟨t_MOST_NAMES, h_MOST_NAMES⟩ := m.mg_MOST_NAMES
  refine m.F_is_name_list.ok (k := 2) sc_is_name_list (fun vs H Q E h => ?_) (fun cdv A fr s H vs Q E hr h => ?_)
  · obtain ⟨a, ms, rfl, hS, q⟩ := h
    rfl
  · obtain ⟨a, ms, rfl, hS, q⟩ := h
    refine ⟨_, (pss_cons (ps_if (PW.pt (pw_or (pt_not (pt_val (pe_call G_is_integer_list (hr.mono (by decide)) (by rfl) m.g_is_integer_list m.F_is_integer_list.kp m.b_is_integer_list .nil pass0 (pa_cons (pv 0) pa_nil)))) (pw_or1 (pt_not (pt_chain op_le op_le pe_int (pe_callB cr_len (by rfl) m.n_len (by decide +kernel) (pa_cons (pv 0) pa_nil)) (pe_glob (v := .int (8)) rfl h_MOST_NAMES ⟨_, rfl⟩))))))
      (pss_one (ps_ret pe_bl))
      pss_nil)
      (pss_cons (ps_asg (pe_un un_neg pe_int) (pg_name (i := 1) sc_is_name_list.nd rfl (.inl rfl)))
      (pss_cons (ps_for PassesOwn.never rfl (pi_list (pv 0)) (pg_name (i := 2) sc_is_name_list.nd rfl (.inl rfl))
      (pss_cons (ps_if (pt_cmpR op_le (pv 2) (pv 1) (nomark _))
      (pss_one (ps_ret pe_bl))
      pss_nil)
      (pss_one (ps_asg (pv 2) (pg_name (i := 1) sc_is_name_list.nd rfl (.inl rfl))))))
      (pss_one (ps_ret pe_bl))))), ?_⟩
    walk_at "vc"
    refine ⟨a, ms, rfl, hS, fun H1 s1 => ?_⟩
    have hS := s1.seq hS
    walk_at "vc"
    refine LenK.ofL hS ?_
    rw [nv_len]
    walk_at "vc"
    by_cases hl : 1 ≤ ms.length ∧ ms.length ≤ 8
    · rw [if_pos (by omega), decide_eq_true (by omega), if_neg (by decide)]
      refine ⟨⟨_, hS⟩, ?_⟩
      refine loop_list (xs := nv ms) (fun i σ H' => H' = H1 ∧ Asc (ms.take i) ∧ ∃ y, σ = [some (.ref a), some (.int (lastZ (ms.take i))), y]) ⟨rfl, List.Pairwise.nil, _, rfl⟩ (fun i σ H' _ h => by rw [h.1]; exact hS) (fun i x σ H' N hx h hN => ?_) (fun σ H' h => ?_)
      · obtain ⟨rfl, has, y, rfl⟩ := h
        obtain ⟨p, hp, rfl⟩ := nv_at hx
        rw [take_more hp] at hN
        walk_at "vc"
        by_cases hlt : lastZ (ms.take i) < (p : Int)
        · rw [if_neg (by omega)]
          exact hN _ _ ⟨rfl, has.app hlt, _, by rw [lastZ_app]⟩
        · rw [if_pos (by omega)]
          rw [decide_eq_false (fun z => hlt (Asc.last (by rw [← take_more hp]; exact z.1.take _)))] at q
          exact q _ s1
      · obtain ⟨rfl, has, y, rfl⟩ := h
        rw [nv_len, List.take_length] at has
        walk_at "vc"
        rw [decide_eq_true (show NL ms from ⟨has, hl.1, hl.2⟩)] at q
        exact q _ s1
    · have e : decide (NL ms) = false := decide_eq_false fun z => hl z.2
      rw [e] at q
      split
      · rw [decide_eq_false (by omega)]
        walk_at "vc"
        exact q _ s1
      · walk_at "vc"
        exact q _ s1
/-! cut check_names -/
def sp_check_names (K : PySem.W.Frag) : Sp := fun vs H Q _ => ∃ (a : Addr) (ms : List Nat), vs = [.ref a] ∧ SqL K H a (nv ms) ∧ Asc ms ∧ 1 ≤ ms.length ∧ ms.length ≤ 8 ∧ ∀ H', Same H H' → Q .non H'
theorem ok_check_names (m : Mo K mg d) (sm : SM bs) (G_is_name_list : FnOk P w K mg bs CX0 3 d.a_is_name_list d.fd_is_name_list ["value"] (sp_is_name_list K)) : FnOk P w K mg bs CX0 4 d.a_check_names d.fd_check_names ["names"] (sp_check_names K) := by
  refine m.F_check_names.ok (k := 3) sc_check_names (fun vs H Q E h => ?_) (fun cdv A fr s H vs Q E hr h => ?_)
  · obtain ⟨a, ms, rfl, hS, ha, h1, h8, q⟩ := h
    rfl
  · obtain ⟨a, ms, rfl, hS, ha, h1, h8, q⟩ := h
    refine ⟨_, (pss_one (ps_if (pt_not (pt_val (pe_call G_is_name_list (hr.mono (by decide)) (by rfl) m.g_is_name_list m.F_is_name_list.kp m.b_is_name_list .nil pass0 (pa_cons (pv 0) pa_nil))))
      (pss_one ps_never)
      pss_nil)), ?_⟩
    walk_at "vc"
    refine ⟨a, ms, rfl, hS, fun H1 s1 => ?_⟩
    rw [decide_eq_true (show NL ms from ⟨ha, h1, h8⟩)]
    walk_at "vc"
    exact q H1 s1
/-! cut stuck_in -/
def oV : Option Nat → V
  | none => .non
  | some n => .int (n : Int)
theorem atI_neg1 {l : List V} {v : V} (h : l.getLast? = some v) : atI l (-1) = some v := by
  have hpos : 0 < l.length := by
    cases l with
    | nil => cases h
    | cons _ _ => exact Nat.succ_pos _
  unfold atI ixN
  rw [if_neg (by decide), if_pos (by omega)]
  show l[((-1 : Int) + (l.length : Int)).toNat]? = _
  rw [show ((-1 : Int) + (l.length : Int)).toNat = l.length - 1 by omega, ← List.getLast?_eq_getElem?, h]
theorem EqEK.k {H : Hp} {a b : Addr} {kvs : List (List Key × V)} {G : Bool → Prop} (h1 : H a = some (.dT kvs)) (h2 : H b = some (.dK [])) (q : G kvs.isEmpty) : EqEK a b H G :=
  ⟨kvs.length, .inl ⟨kvs, .inl h1, rfl⟩, .inr ⟨[], .inl h2, rfl⟩, by rw [show (kvs.length == 0) = kvs.isEmpty by cases kvs <;> rfl]; exact q⟩
def sp_stuck_in (K : PySem.W.Frag) : Sp := fun vs H Q _ => ∃ (a : Addr) (ds : List Addr) (ss : List Stg), vs = [.ref a] ∧ H a = some (.lst (ds.map V.ref)) ∧ StsAt H ds ss ∧ ss ≠ [] ∧ ∀ H', Same H H' → Q (oV (stkIn ss)) H'
theorem ok_stuck_in (m : Mo K mg d) (sm : SM bs) : FnOk P w K mg bs CX0 1 d.a_stuck_in d.fd_stuck_in ["stages"] (sp_stuck_in K) := by
  refine m.F_stuck_in.ok (k := 0) sc_stuck_in (fun vs H Q E h => ?_) (fun cdv A fr s H vs Q E hr h => ?_)
  · obtain ⟨a, ds, ss, rfl, ha, hds, hne, q⟩ := h
    rfl
  · obtain ⟨a, ds, ss, rfl, ha, hds, hne, q⟩ := h
    refine ⟨_, (pss_cons (ps_if (pt_cmpR (op_eqE hr.units) (pe_ix ix_list (pv 0) (pe_un un_neg pe_int) (fun _ _ => rfl)) pe_dnewK (nomark _))
      (pss_one (ps_ret (pe_op op_sub (pe_callB cr_len (by rfl) m.n_len (by decide +kernel) (pa_cons (pv 0) pa_nil)) pe_int)))
      pss_nil)
      (pss_one (ps_ret pe_non))), ?_⟩
    have hl : ds.length = ss.length := Paired.length hds
    have hpos : 0 < ss.length := List.length_pos_iff.mpr hne
    obtain ⟨r, hr⟩ : ∃ r, ds[ss.length - 1]? = some r := ⟨_, List.getElem?_eq_getElem (by omega)⟩
    obtain ⟨f, hf, kvs, hk1, hk2⟩ := paired_get hds hr
    have hlast : ss.getLast? = some f := by rw [List.getLast?_eq_getElem?]; exact hf
    have hkl : kvs.length = f.length := hk2.len
    walk_at "v2"
    refine IxLK.of (.inl (.inl ha)) (i := -1) (v := .ref r) (atI_neg1 (by rw [List.getLast?_eq_getElem?, List.length_map, hl, List.getElem?_map, hr]; rfl)) ?_
    refine NewK.of (Led.nil H) fun p0 H1 L => ?_
    refine x_eqE.mpr (EqEK.k (L.sm _ _ hk1) (L.at (by walk_at "mem")) ?_)
    refine ⟨_, rfl, ?_⟩
    unfold stkIn at q
    rw [hlast] at q
    cases hkv : kvs with
    | nil =>
      rw [hkv] at hkl
      have hf0 : f = [] := List.length_eq_zero_iff.mp hkl.symm
      rw [hf0, if_pos rfl] at q
      rw [if_pos (by rfl)]
      refine LenK.ofL (.inl (.inl (L.sm _ _ ha))) ?_
      rw [List.length_map, hl]
      have := q _ L.sm
      have this : Q (.int ((ss.length - 1 : Nat) : Int)) H1 := this
      rw [show ((ss.length - 1 : Nat) : Int) = (ss.length : Int) - 1 by omega] at this
      exact this
    | cons _ _ =>
      rw [hkv] at hkl
      have hf0 : ¬ some f = some [] := by
        intro z
        rw [Option.some.inj z] at hkl
        cases hkl
      rw [if_neg hf0] at q
      rw [if_neg (by intro z; cases z)]
      exact q _ L.sm
/-! cut ways_from -/
def LsAt (ls : List Bool) : List V := ls.map V.bl
theorem Good.first : Good 1 [([0], [])] := ⟨List.nodup_cons.mpr ⟨List.not_mem_nil, List.nodup_nil⟩, fun x hx => by
  rw [List.mem_singleton.mp hx]
  exact ⟨rfl, by decide⟩⟩
def sp_ways_from (K : PySem.W.Frag) (d : Ad) : Sp := fun vs H Q _ => ∃ (a b : Addr) (row : List Nat) (ls : List Bool), vs = [.ref a, .ref b, .ref d.a_ways_on] ∧ H a = some (.tup (nv row)) ∧ H b = some (.lst (LsAt ls)) ∧ row.length = ls.length ∧ row.length ≤ 8 ∧ row.sum ≤ 8 ∧
  ∀ p kvs B' H', Same H B' → StgAt B' kvs (waysFrom ways row ls) → Good (row.length + 1) (waysFrom ways row ls) → Led B' H' [(p, .dT kvs)] → Q (.ref p) H'
theorem ok_ways_from (m : Mo K mg d) (sm : SM bs) (G_ways_on : FnOk P w K mg bs CX0 1 d.a_ways_on d.fd_ways_on ["entered", "listed"] (sp_ways_on K)) (G_row_with_cell : FnOk P w K mg bs CX0 1 d.a_row_with_cell d.fd_row_with_cell ["later", "right", "down"] (sp_row_with_cell K)) : FnOk P w K mg bs CX0 2 d.a_ways_from d.fd_ways_from ["row", "listed", "ways"] (sp_ways_from K d) := by
  refine m.F_ways_from.ok (k := 1) sc_ways_from (fun vs H Q E h => ?_) (fun cdv A fr s H vs Q E hr h => ?_)
  · obtain ⟨a, b, row, ls, rfl, ha, hb, hl, h8, hs8, q⟩ := h
    rfl
  · obtain ⟨a, b, row, ls, rfl, ha, hb, hl, h8, hs8, q⟩ := h
    refine ⟨_, (pss_cons (ps_asg (pe_d1T (Nat.lt_of_le_of_lt (Nat.add_le_add_left (by decide) _) hr.units) (pe_tup (pa_cons pe_int pa_nil)) (pe_tup pa_nil)) (pg_name (i := 3) sc_ways_from.nd rfl (.inl rfl)))
      (pss_cons (ps_for PassesOwn.never rfl (pi_zipTL (by rfl) m.n_zip (pa_cons (pv 0) (pa_cons (pv 1) pa_nil))) (show PG _ _ (gTup K 2 _) from pg_tup (by rfl) (pgs_cons (pg_name (i := 4) sc_ways_from.nd rfl (.inl rfl)) (pgs_cons (pg_name (i := 5) sc_ways_from.nd rfl (.inl rfl)) pgs_nil)))
      (pss_cons (ps_asg pe_dnewT (pg_name (i := 6) sc_ways_from.nd rfl (.inl rfl)))
      (pss_cons (ps_for PassesOwn.never rfl (pi_itemsN (pv 3)) (show PG _ _ (gTup K 2 _) from pg_tup (by rfl) (pgs_cons (pg_name (i := 7) sc_ways_from.nd rfl (.inl rfl)) (pgs_cons (pg_name (i := 8) sc_ways_from.nd rfl (.inl rfl)) pgs_nil)))
      (pss_one (ps_for PassesOwn.never rfl (pi_list (pe_callL (i := 2) G_ways_on (hr.mono (by decide)) rfl (by first | exact .inl rfl | exact .inr rfl | rfl | decide) m.F_ways_on.kp m.b_ways_on .nil pass0 (pa_cons (pv 4) (pa_cons (pv 5) pa_nil)))) (show PG _ _ (gTup K 2 _) from pg_tup (by rfl) (pgs_cons (pg_name (i := 9) sc_ways_from.nd rfl (.inl rfl)) (pgs_cons (pg_name (i := 10) sc_ways_from.nd rfl (.inl rfl)) pgs_nil)))
      (pss_one (ps_dput (Nat.lt_of_le_of_lt (Nat.add_le_add_left (by decide) _) hr.units) (pv 6) (pe_call G_row_with_cell (hr.mono (by decide)) (by rfl) m.g_row_with_cell m.F_row_with_cell.kp m.b_row_with_cell .nil pass0 (pa_cons (pv 7) (pa_cons (pv 9) (pa_cons (pv 10) pa_nil)))) (pe_op op_catA (pv 8) (pe_tup (pa_cons (pe_tup (pa_cons (pv 4) (pa_cons (pv 9) (pa_cons (pv 10) pa_nil)))) pa_nil))) rfl)))))
      (pss_one (ps_asg (pv 6) (pg_name (i := 3) sc_ways_from.nd rfl (.inl rfl)))))))
      (pss_one (ps_ret (pv 3))))), ?_⟩
    walk_at "v2"
    refine NewK.of (Led.nil H) fun pf H1 L => ?_
    refine NewK.of L fun p1 H2 L => ?_
    refine NewK.of L fun p2 H3 L => ?_
    refine ⟨L.at (by walk_at "mem"), rk [0], by rw [rk_kV]; exact L.at (by walk_at "mem"), ?_⟩
    have L := L.put (p := pf) (o' := .dT [(rk [0], .ref p2)]) (by walk_at "put")
    obtain ⟨B1, s1, hp2, L⟩ := L.sink
    have L : Led B1 _ [(pf, .dT [(rk [0], .ref p2)])] := L.sel (by walk_at "sel")
    walk_at "v2"
    have sH := s1.trans L.sm
    refine ⟨⟨_, .inl (.inl (sH _ _ ha))⟩, ⟨_, .inl (.inl (sH _ _ hb))⟩, ?_⟩
    have hll : (nv row).length = (LsAt ls).length := by rw [nv_len]; unfold LsAt; rw [List.length_map]; exact hl
    refine loop_zipTL hll (fun i σ H' => ∃ y4 y5 y6 y7 y8 y9 y10 B2 pf kvs, σ = [some (.ref a), some (.ref b), some (.ref d.a_ways_on), some (.ref pf), y4, y5, y6, y7, y8, y9, y10] ∧ Same H B2 ∧ StgAt B2 kvs (waysFrom ways (row.take i) (ls.take i)) ∧ Led B2 H' [(pf, .dT kvs)]) ⟨_, _, _, _, _, _, _, B1, pf, _, rfl, s1, .cons ⟨rfl, p2, [], rfl, hp2, .nil⟩ .nil, L⟩ (fun i σ' H' ⟨_, _, _, _, _, _, _, _, _, _, _, s, _, L⟩ => ⟨.inl (.inl ((s.trans L.sm) _ _ ha)), .inl (.inl ((s.trans L.sm) _ _ hb))⟩) (fun i x y σ' H' N hx hy h hN => ?_) (fun σ' H' h => ?_)
    · obtain ⟨y4, y5, y6, y7, y8, y9, y10, B2, pf, kvs, rfl, s2, hst, L⟩ := h
      obtain ⟨e, he, rfl⟩ := nv_at hx
      obtain ⟨l, hle, rfl⟩ : ∃ l, ls[i]? = some l ∧ y = .bl l := by
        unfold LsAt at hy
        rw [List.getElem?_map] at hy
        cases z : ls[i]? with
        | none => rw [z] at hy; cases hy
        | some l => rw [z] at hy; cases hy; exact ⟨l, rfl, rfl⟩
      have hi : i < row.length := (List.getElem?_eq_some_iff.mp he).1
      have htl : (row.take i).length = (ls.take i).length := by rw [List.length_take, List.length_take, hl]
      have hstep : waysFrom ways (row.take (i + 1)) (ls.take (i + 1)) = wayCell ways e l (waysFrom ways (row.take i) (ls.take i)) := by
        unfold waysFrom
        rw [take_snoc he, take_snoc hle, waysGo_snoc htl]
      have hkeys : ∀ x ∈ (waysFrom ways (row.take i) (ls.take i)).map Prod.fst, x.length = i + 1 ∧ x.sum + e ≤ 8 := fun x hx => by
        have h1 := ways_keys ways_ok htl hx
        rw [List.length_take] at h1
        have h2 := sum_take row (i + 1)
        rw [take_snoc he, List.sum_append] at h2
        simp only [List.sum_cons, List.sum_nil, Nat.add_zero] at h2
        omega
      have hwl : ∀ x ∈ waysFrom ways (row.take i) (ls.take i), x.2.length ≤ i := fun x hx => by
        rw [waysFrom_wlen htl x hx, List.length_take]
        exact Nat.min_le_left _ _
      generalize waysFrom ways (row.take i) (ls.take i) = F at *
      refine NewK.of L fun t H1 L => ?_
      walk_at "v1"
      refine UnpK.of (L.tupAt (by walk_at "mem")) rfl ?_
      walk_at "v1"
      have L : Led B2 H1 [(pf, .dT kvs)] := L.sel (by walk_at "sel")
      walk_at "v2"
      refine NewK.of L fun pl H2 L => ?_
      walk_at "v2"
      refine WlkK.of L (by walk_at "mem") (l'' := fun o => [(pl, .dT []), (pf, .frz o (.dT kvs))]) (fun o => by walk_at "put") fun o H3 L => ?_
      refine loop_itemsT (fun j σ' H' => ∃ y7 y8 y9 y10 B3 kvs2, σ' = [some (.ref a), some (.ref b), some (.ref d.a_ways_on), some (.ref pf), some (.int e), some (.bl l), some (.ref pl), y7, y8, y9, y10] ∧ Same B2 B3 ∧ StgAt B3 kvs2 ((F.take j).foldl (wayOne ways e l) []) ∧ Good (i + 2) ((F.take j).foldl (wayOne ways e l) []) ∧ Led B3 H' [(pl, .dT kvs2), (pf, .frz o (.dT kvs))]) ⟨_, _, _, _, B2, [], rfl, Same.refl B2, .nil, Good.nil _, L⟩ (fun j σ' H' ⟨_, _, _, _, _, _, _, _, _, _, L⟩ => L.at (by walk_at "mem")) (fun j k v kq σ' H' N2 hkv h hkq hN2 => ?_) (fun σ' H' h => ?_)
      · obtain ⟨y7, y8, y9, y10, B3, kvs2, rfl, s3, hst2, hg2, L⟩ := h
        obtain ⟨lw, hlw, hk1, hk2⟩ := paired_get hst hkv
        have hk1 : k = rk lw.1 := hk1
        subst hk1
        have hk2 : WayAt B2 v lw.2 := hk2
        obtain ⟨wq, cs, rfl, hwq, hcs⟩ := hk2
        rw [rk_kV] at hkq
        obtain ⟨B4, s4, hkq, L⟩ := L.grab hkq (by intro e he ys; simp only [List.mem_cons, List.not_mem_nil, or_false] at he; rcases he with rfl | rfl <;> (intro z; cases z))
        have hlk := hkeys lw.1 (List.mem_map.mpr ⟨lw, List.mem_of_getElem? hlw, rfl⟩)
        rw [take_snoc hlw, List.foldl_append] at hN2
        have hN2 : ∀ σ2 H2, _ := hN2
        generalize hF1 : (F.take j).foldl (wayOne ways e l) [] = F1 at *
        refine NewK.of L fun t H1 L => ?_
        walk_at "v1"
        refine UnpK.of (L.tupAt (by walk_at "mem")) rfl ?_
        walk_at "v1"
        have L : Led B4 H1 [(pl, .dT kvs2), (pf, .frz o (.dT kvs))] := L.sel (by walk_at "sel")
        refine ⟨e, l, rfl, by omega, fun pw H5 B5 as s5 has L5 => ?_⟩
        walk_at "v1"
        obtain ⟨B6, s6, L, k6⟩ := L.over s5 L5
        have has : PrsAt B6 as (ways e l) := Paired.mapP has fun c x z => k6 _ _ z (by intro e he; simp only [List.mem_cons, List.not_mem_nil, or_false] at he; rcases he with rfl | rfl <;> (intro z; cases z))
        have L : Led B6 H5 [(pw, .lst (as.map V.ref)), (pl, .dT kvs2), (pf, .frz o (.dT kvs))] := L
        refine ⟨⟨_, L.lstAt (by walk_at "mem")⟩, ?_⟩
        refine loop_list (xs := as.map V.ref) (fun m σ' H' => ∃ y9 y10 B7 kvs3, σ' = [some (.ref a), some (.ref b), some (.ref d.a_ways_on), some (.ref pf), some (.int e), some (.bl l), some (.ref pl), some (.ref kq), some (.ref wq), y9, y10] ∧ Same B6 B7 ∧ StgAt B7 kvs3 (((ways e l).take m).foldl (wayPut e lw) F1) ∧ Good (i + 2) (((ways e l).take m).foldl (wayPut e lw) F1) ∧ Led B7 H' [(pw, .lst (as.map V.ref)), (pl, .dT kvs3), (pf, .frz o (.dT kvs))]) ⟨_, _, B6, kvs2, rfl, Same.refl _, hst2.mono (s4.trans s6), hg2, L⟩ (fun m σ' H' _ ⟨_, _, _, _, _, _, _, _, L⟩ => L.lstAt (by walk_at "mem")) (fun m x σ' H' N3 hx h hN3 => ?_) (fun σ' H' h => ?_)
        · obtain ⟨y9, y10, B7, kvs3, rfl, s7, hst3, hg3, L⟩ := h
          rw [List.getElem?_map] at hx
          obtain ⟨c, hc, rfl⟩ : ∃ c, as[m]? = some c ∧ x = .ref c := by
            cases z : as[m]? with
            | none => rw [z] at hx; cases hx
            | some c => rw [z] at hx; cases hx; exact ⟨c, rfl, rfl⟩
          obtain ⟨⟨r0, d0⟩, hrd, hcr⟩ := paired_get has hc
          have hcr : B6 c = some (.tup [.int r0, .int d0]) := hcr
          rw [take_snoc hrd, List.foldl_append] at hN3
          have hle := ways_ok.le (List.mem_of_getElem? hrd)
          walk_at "v1"
          refine UnpK.of (.inl (.inl ((s7.trans L.sm) _ _ hcr))) rfl ?_
          walk_at "v1"
          refine NewK.of L fun t1 H6 L => ?_
          obtain ⟨B8, s8, h8t, L⟩ := L.sink
          refine NewK.of L fun t2 H7 L => ?_
          obtain ⟨B9, s9, h9t, L⟩ := L.sink
          have sB : Same B7 B9 := s8.trans s9
          have sW : Same B2 B9 := (s3.trans (s4.trans (s6.trans s7))).trans sB
          have hcl : cs.length ≤ i := by rw [Paired.length hcs]; exact hwl lw (List.mem_of_getElem? hlw)
          refine CatTK.of L (sW _ _ hwq) h9t (Nat.le_trans (m := 200) (by rw [List.length_map]; simp; omega) (by decide)) fun q3 H8 H9 s10 h10 L => ?_
          have hkq9 : H9 kq = some (.tup (nv lw.1)) := (s6.trans (s7.trans (sB.trans (s10.trans L.sm)))) _ _ hkq
          refine ⟨kq, lw.1, r0, d0, rfl, hkq9, by omega, by omega, fun pk BA HA sA hA LA => ?_⟩
          obtain ⟨B11, s11, L, _⟩ := L.over sA LA
          refine DPutK.t L (k := rk (ext lw.1 r0 d0)) (by walk_at "mem") (by rw [rk_kV]; exact LA.sm _ _ hA) (by rw [hst3.len]; exact size_few (hg3.few (by omega))) (by walk_at "put") fun HB L => ?_
          have way : WayAt B11 (.ref q3) (lw.2 ++ [(e, r0, d0)]) := by
            refine ⟨q3, cs ++ [t1], rfl, ?_, ?_⟩
            · rw [List.map_append]
              exact s11 _ _ h10
            · exact Paired.snoc (Paired.mapP hcs fun _ _ z => (sW.trans (s10.trans s11)) _ _ z) ((s9.trans (s10.trans s11)) _ _ h8t)
          refine hN3 _ _ ⟨_, _, B11, _, rfl, s7.trans (sB.trans (s10.trans s11)), (hst3.mono (sB.trans (s10.trans s11))).put way, ?_, L⟩
          exact hg3.put (by rw [ext_len (by omega)]; omega) (by rw [ext_sum (by omega)]; omega)
        · obtain ⟨y9, y10, B7, kvs3, rfl, s7, hst3, hg3, L⟩ := h
          walk_at "vc"
          have el : as.length = (ways e l).length := Paired.length has
          rw [List.length_map, el, List.take_length] at hst3 hg3
          exact hN2 _ _ ⟨_, _, _, _, B7, kvs3, rfl, (s3.trans (s4.trans (s6.trans s7))), hst3, hg3, L.sel (by walk_at "sel")⟩
      · obtain ⟨y7, y8, y9, y10, B3, kvs2, rfl, s3, hst2, hg2, L⟩ := h
        walk_at "vc"
        refine hN _ _ ⟨_, _, _, _, _, _, _, B3, pl, kvs2, rfl, s2.trans s3, ?_, L.sel (by walk_at "sel")⟩
        rw [hstep]
        rw [hst.len, List.take_length] at hst2
        exact hst2
    · obtain ⟨y4, y5, y6, y7, y8, y9, y10, B2, pf, kvs, rfl, s2, hst, L⟩ := h
      rw [nv_len, List.take_length, hl, List.take_length] at hst
      walk_at "vc"
      exact q pf kvs B2 H' s2 hst (good_ways ways_ok hl hs8) L
/-! cut stage_after -/
theorem Good.adds {wf : Nat → Bool → List (Nat × Nat)} {k : Nat} : ∀ (l : Stg) (f : Stg), Good k f → (∀ x ∈ l.map Prod.fst, x.length = k ∧ x.sum ≤ 8) → Good k (l.foldl stAdd f)
  | [], _, h, _ => h
  | lw :: r, f, h, hl => by
    have := hl lw.1 (by rw [List.map_cons]; exact List.mem_cons_self)
    exact Good.adds (wf := wf) r _ (h.add this.1 this.2) fun x hx => hl x (by rw [List.map_cons]; exact List.mem_cons_of_mem _ hx)
theorem good_after {wf : Nat → Bool → List (Nat × Nat)} (ok : WayOk wf) {ls : List Bool} : ∀ (rows : List (List Nat)) (f : Stg), Good (ls.length + 1) f → (∀ row ∈ rows, row.length = ls.length ∧ row.sum ≤ 8) → Good (ls.length + 1) (rows.foldl (fun acc row => (waysFrom wf row ls).foldl stAdd acc) f)
  | [], _, h, _ => h
  | row :: r, f, h, hr => by
    have := hr row List.mem_cons_self
    have g := good_ways ok this.1 this.2
    rw [this.1] at g
    exact good_after ok r _ (Good.adds (wf := wf) _ _ h g.bx) fun x hx => hr x (List.mem_cons_of_mem _ hx)
def sp_stage_after (K : PySem.W.Frag) (d : Ad) : Sp := fun vs H Q _ => ∃ (a b : Addr) (as : List Addr) (rows : List (List Nat)) (ls : List Bool), vs = [.ref a, .ref b, .ref d.a_ways_on] ∧ H a = some (.lst (as.map V.ref)) ∧ RowsAt H as rows ∧ H b = some (.lst (LsAt ls)) ∧ (∀ row ∈ rows, row.length = ls.length ∧ row.sum ≤ 8) ∧ ls.length ≤ 8 ∧
  ∀ p kvs B' H', Same H B' → StgAt B' kvs (stAfter ways rows ls) → Good (ls.length + 1) (stAfter ways rows ls) → Led B' H' [(p, .dT kvs)] → Q (.ref p) H'
theorem ok_stage_after (m : Mo K mg d) (sm : SM bs) (G_ways_from : FnOk P w K mg bs CX0 2 d.a_ways_from d.fd_ways_from ["row", "listed", "ways"] (sp_ways_from K d)) : FnOk P w K mg bs CX0 3 d.a_stage_after d.fd_stage_after ["rows", "listed", "ways"] (sp_stage_after K d) := by
  refine m.F_stage_after.ok (k := 2) sc_stage_after (fun vs H Q E h => ?_) (fun cdv A fr s H vs Q E hr h => ?_)
  · obtain ⟨a, b, as, rows, ls, rfl, ha, hrows, hb, hrl, h8, q⟩ := h
    rfl
  · obtain ⟨a, b, as, rows, ls, rfl, ha, hrows, hb, hrl, h8, q⟩ := h
    refine ⟨_, (pss_cons (ps_asg pe_dnewT (pg_name (i := 3) sc_stage_after.nd rfl (.inl rfl)))
      (pss_cons (ps_for PassesOwn.never rfl (pi_list (pv 0)) (pg_name (i := 4) sc_stage_after.nd rfl (.inl rfl))
      (pss_one (ps_for PassesOwn.never rfl (pi_itemsN (pe_call G_ways_from (hr.mono (by decide)) (by rfl) m.g_ways_from m.F_ways_from.kp m.b_ways_from .nil pass0 (pa_cons (pv 4) (pa_cons (pv 1) (pa_cons (pv 2) pa_nil))))) (show PG _ _ (gTup K 2 _) from pg_tup (by rfl) (pgs_cons (pg_name (i := 5) sc_stage_after.nd rfl (.inl rfl)) (pgs_cons (pg_name (i := 6) sc_stage_after.nd rfl (.inl rfl)) pgs_nil)))
      (pss_one (ps_if (pt_cmp (pc_dnotin (Nat.lt_of_le_of_lt (Nat.add_le_add_left (by decide) _) hr.units) (pv 5) (pv 3)))
      (pss_one (ps_dput (Nat.lt_of_le_of_lt (Nat.add_le_add_left (by decide) _) hr.units) (pv 3) (pv 5) (pv 6) rfl))
      pss_nil)))))
      (pss_one (ps_ret (pv 3))))), ?_⟩
    walk_at "v2"
    refine NewK.of (Led.nil H) fun ps H1 L => ?_
    walk_at "v2"
    refine ⟨⟨_, .inl (.inl (L.sm _ _ ha))⟩, ?_⟩
    refine loop_list (xs := as.map V.ref) (fun i σ H' => ∃ y4 y5 y6 B2 kvs, σ = [some (.ref a), some (.ref b), some (.ref d.a_ways_on), some (.ref ps), y4, y5, y6] ∧ Same H B2 ∧ StgAt B2 kvs ((rows.take i).foldl (fun acc row => (waysFrom ways row ls).foldl stAdd acc) []) ∧ Good (ls.length + 1) ((rows.take i).foldl (fun acc row => (waysFrom ways row ls).foldl stAdd acc) []) ∧ Led B2 H' [(ps, .dT kvs)]) ⟨_, _, _, H, [], rfl, Same.refl _, .nil, Good.nil _, L⟩ (fun i σ' H' _ ⟨_, _, _, _, _, _, s, _, _, L⟩ => .inl (.inl ((s.trans L.sm) _ _ ha))) (fun i x σ' H' N hx h hN => ?_) (fun σ' H' h => ?_)
    · obtain ⟨y4, y5, y6, B2, kvs, rfl, s2, hst, hg, L⟩ := h
      rw [List.getElem?_map] at hx
      obtain ⟨c, hc, rfl⟩ : ∃ c, as[i]? = some c ∧ x = .ref c := by
        cases z : as[i]? with
        | none => rw [z] at hx; cases hx
        | some c => rw [z] at hx; cases hx; exact ⟨c, rfl, rfl⟩
      obtain ⟨row, hrow, hcr⟩ := paired_get hrows hc
      have hcr : H c = some (.tup (nv row)) := hcr
      obtain ⟨hl, hs⟩ := hrl row (List.mem_of_getElem? hrow)
      rw [take_snoc hrow, List.foldl_append] at hN
      have gw := good_ways ways_ok hl hs
      rw [hl] at gw
      walk_at "v1"
      refine ⟨c, b, row, ls, rfl, (s2.trans L.sm) _ _ hcr, (s2.trans L.sm) _ _ hb, hl, by omega, hs, fun pw kw BA HA sA hsw _ LA => ?_⟩
      obtain ⟨B3, s3, L, k3⟩ := L.over sA LA
      have L : Led B3 HA [(pw, .dT kw), (ps, .dT kvs)] := L
      have hsw := hsw.via (tks_of k3 (by intro e he ys; simp only [List.mem_cons, List.not_mem_nil, or_false] at he; rw [he]; intro z; cases z))
      have gk : ∀ x ∈ waysFrom ways row ls, x.1.length = ls.length + 1 ∧ x.1.sum ≤ 8 := fun x hx => gw.bx x.1 (List.mem_map.mpr ⟨x, hx, rfl⟩)
      generalize hF : (rows.take i).foldl (fun acc row => (waysFrom ways row ls).foldl stAdd acc) [] = F at *
      have hN : ∀ σ2 H2, (∃ y4 y5 y6 B2 kvs, σ2 = [some (.ref a), some (.ref b), some (.ref d.a_ways_on), some (.ref ps), y4, y5, y6] ∧ Same H B2 ∧ StgAt B2 kvs ((waysFrom ways row ls).foldl stAdd F) ∧ Good (ls.length + 1) ((waysFrom ways row ls).foldl stAdd F) ∧ Led B2 H2 [(ps, .dT kvs)]) → N σ2 H2 := fun σ2 H2 z => hN σ2 H2 z
      generalize waysFrom ways row ls = W at *
      refine ⟨pw, rfl, ?_⟩
      refine WlkK.of L (by walk_at "mem") (l'' := fun o => [(pw, .frz o (.dT kw)), (ps, .dT kvs)]) (fun o => by walk_at "put") fun o H3 L => ?_
      refine loop_itemsT (fun j σ' H' => ∃ y5 y6 B4 kvs2, σ' = [some (.ref a), some (.ref b), some (.ref d.a_ways_on), some (.ref ps), some (.ref c), y5, y6] ∧ Same B3 B4 ∧ StgAt B4 kvs2 ((W.take j).foldl stAdd F) ∧ Good (ls.length + 1) ((W.take j).foldl stAdd F) ∧ Led B4 H' [(pw, .frz o (.dT kw)), (ps, .dT kvs2)]) ⟨_, _, B3, kvs, rfl, Same.refl _, hst.mono s3, hg, L⟩ (fun j σ' H' ⟨_, _, _, _, _, _, _, _, L⟩ => L.at (by walk_at "mem")) (fun j k v kq σ' H' N2 hkv h hkq hN2 => ?_) (fun σ' H' h => ?_)
      · obtain ⟨y5, y6, B4, kvs2, rfl, s4, hst2, hg2, L⟩ := h
        obtain ⟨lw, hlw, hk1, hk2⟩ := paired_get hsw hkv
        have hk1 : k = rk lw.1 := hk1
        subst hk1
        have hk2 : WayAt B3 v lw.2 := hk2
        rw [rk_kV] at hkq
        obtain ⟨B5, s5, hkq, L⟩ := L.grab hkq (by intro e he ys; simp only [List.mem_cons, List.not_mem_nil, or_false] at he; rcases he with rfl | rfl <;> (intro z; cases z))
        have hlk := gk lw (List.mem_of_getElem? hlw)
        rw [take_snoc hlw, List.foldl_append] at hN2
        have gadd := hg2.add (lw := lw) hlk.1 hlk.2
        generalize (W.take j).foldl stAdd F = F1 at *
        refine NewK.of L fun t H1 L => ?_
        walk_at "v1"
        refine UnpK.of (L.tupAt (by walk_at "mem")) rfl ?_
        walk_at "v1"
        have L : Led B5 H1 [(pw, .frz o (.dT kw)), (ps, .dT kvs2)] := L.sel (by walk_at "sel")
        have hkq1 : H1 kq = some (.tup ((rk lw.1).map kV)) := by rw [rk_kV]; exact L.sm _ _ hkq
        refine KinK.t L (k := rk lw.1) (by walk_at "mem") hkq1 ?_
        rw [hst2.valV]
        walk_at "v1"
        cases hh : hasA F1 lw.1 with
        | true =>
          rw [if_neg (by decide)]
          have e : stAdd F1 lw = F1 := by unfold stAdd; rw [if_pos hh]
          exact hN2 _ _ ⟨_, _, B5, kvs2, rfl, s4.trans s5, by show StgAt B5 kvs2 (stAdd F1 lw); rw [e]; exact hst2.mono s5, by show Good _ (stAdd F1 lw); rw [e]; exact hg2, L⟩
        | false =>
          rw [if_pos (by decide)]
          have e : stAdd F1 lw = putA F1 lw.1 lw.2 := by unfold stAdd putA; rw [hh]; rfl
          refine DPutK.t L (k := rk lw.1) (by walk_at "mem") hkq1 (by rw [hst2.len]; exact size_few (hg2.few (by omega))) (by walk_at "put") fun HB L => ?_
          exact hN2 _ _ ⟨_, _, B5, _, rfl, s4.trans s5, by show StgAt B5 _ (stAdd F1 lw); rw [e]; exact (hst2.mono s5).put (hk2.mono (s4.trans s5)), gadd, L⟩
      · obtain ⟨y5, y6, B4, kvs2, rfl, s4, hst2, hg2, L⟩ := h
        walk_at "vc"
        rw [hsw.len, List.take_length] at hst2 hg2
        exact hN _ _ ⟨_, _, _, B4, kvs2, rfl, s2.trans (s3.trans s4), hst2, hg2, L.sel (by walk_at "sel")⟩
    · obtain ⟨y4, y5, y6, B2, kvs, rfl, s2, hst, hg, L⟩ := h
      have el : as.length = rows.length := Paired.length hrows
      rw [List.length_map, el, List.take_length] at hst hg
      walk_at "vc"
      exact q ps kvs B2 H' s2 hst hg L
/-! cut stages_of -/
theorem keys_rows {B : Hp} : ∀ {kvs : List (List Key × V)} {bs : List Addr} {f : Stg}, IsKeys B kvs bs → StgAt B kvs f → RowsAt B bs (f.map Prod.fst)
  | _, _, _, .nil, .nil => .nil
  | _, _, _, .cons h r, .cons h2 r2 => .cons (by rw [h2.1, rk_kV] at h; exact h) (keys_rows r r2)
theorem inV_nv {l : List Nat} {z : Nat} : inV (.int (z : Int)) (nv l) = decide (z ∈ l) := by
  rw [Bool.eq_iff_iff, decide_eq_true_iff]
  constructor
  · intro h
    obtain ⟨p, hp, e⟩ := in_nv h
    rw [show z = p by omega]; exact hp
  · intro h
    unfold inV nv
    rw [List.any_eq_true]
    exact ⟨.int (z : Int), List.mem_map.mpr ⟨z, h, rfl⟩, by simp [eqV]⟩
def sp_stages_of (K : PySem.W.Frag) (d : Ad) : Sp := fun vs H Q _ => ∃ (a : Addr) (names : List Nat) (n : Nat), vs = [.int n, .ref a, .ref d.a_ways_on] ∧ n ≤ 8 ∧ SqL K H a (nv names) ∧
  ∀ p ds B' H', Same H B' → StsAt B' ds (stagesOf ways (nmOf names) n) → Led B' H' [(p, .lst (ds.map V.ref))] → Q (.ref p) H'
theorem ok_stages_of (m : Mo K mg d) (sm : SM bs) (G_name_of : FnOk P w K mg bs CX0 4 d.a_name_of d.fd_name_of ["right", "down"] (sp_name_of K)) (G_stage_after : FnOk P w K mg bs CX0 3 d.a_stage_after d.fd_stage_after ["rows", "listed", "ways"] (sp_stage_after K d)) : FnOk P w K mg bs CX0 5 d.a_stages_of d.fd_stages_of ["count", "names", "ways"] (sp_stages_of K d) := by
  refine m.F_stages_of.ok (k := 4) sc_stages_of (fun vs H Q E h => ?_) (fun cdv A fr s H vs Q E hr h => ?_)
  · obtain ⟨a, names, n, rfl, h8, hS, q⟩ := h
    rfl
  · obtain ⟨a, names, n, rfl, h8, hS, q⟩ := h
    refine ⟨_, (pss_cons (ps_asg (pe_lst pa_nil) (pg_name (i := 3) sc_stages_of.nd rfl (.inl rfl)))
      (pss_cons (ps_asg (pe_lst (pa_cons (pe_tup (pa_cons (pv 0) pa_nil)) pa_nil)) (pg_name (i := 4) sc_stages_of.nd rfl (.inl rfl)))
      (pss_cons (ps_for PassesOwn.never rfl (pi_range1 (by rfl) m.n_range (pa_cons (pv 0) pa_nil)) (pg_name (i := 5) sc_stages_of.nd rfl (.inr rfl))
      (pss_cons (ps_setLc (i := 6) (own := [("right", 7)]) (by rfl) sc_stages_of.nd rfl rfl (sw_true rfl rfl rfl (by decide +kernel)) (pi_range1 (by rfl) m.n_range (pa_cons (pe_op op_add (pv 5) pe_int) pa_nil)) (blkOk_by (own := [("right", 7)]) (N := ["count", "names", "ways", "stages", "rows", "diagonal", "listed", "right"]) (sc := defScope s_stages_of) (by decide +kernel)) (fun _ _ _ _ _ => by exact (pg_name (i := 7) sc_stages_of.nd rfl (.inl rfl))) (fun _ _ _ _ _ => by exact pts_nil) (fun _ _ _ _ _ => by exact (pe_cmpR (show OpR _ _ (rIn K false) from op_in_seq) (pe_call G_name_of (hr.mono (by decide)) (by rfl) m.g_name_of m.F_name_of.kp m.b_name_of .nil pass0 (pa_cons (pv 7) (pa_cons (pe_op op_sub (pv 5) (pv 7)) pa_nil))) (pv 1) rfl)))
      (pss_cons (ps_expr (pe_bm PySem.F.plainAttrs_list PySem.F.slot_list_append PySem.F.type_list_append mt_append (pv 3) (pa_cons (pe_call G_stage_after (hr.mono (by decide)) (by rfl) m.g_stage_after m.F_stage_after.kp m.b_stage_after .nil pass0 (pa_cons (pv 4) (pa_cons (pv 6) (pa_cons (pv 2) pa_nil)))) pa_nil)))
      (pss_cons (ps_asg (pe_callTy (cr_lstD rfl) (by rfl) m.n_list (by decide +kernel) (pa_cons (pe_ix ix_list (pv 3) (pe_un un_neg pe_int) (fun _ _ => rfl)) pa_nil)) (pg_name (i := 4) sc_stages_of.nd rfl (.inl rfl)))
      (pss_one (ps_if (pt_cmpR (op_eqL hr.units) (pv 4) (pe_lst pa_nil) (nomark _))
      (pss_one ps_break)
      pss_nil))))))
      (pss_one (ps_ret (pv 3)))))), ?_⟩
    walk_at "v2"
    refine NewK.of (Led.nil H) fun ps H1 L => ?_
    walk_at "v2"
    refine NewK.of L fun t H2 L => ?_
    obtain ⟨B1, s1, ht, L⟩ := L.sink
    refine NewK.of L fun pr H3 L => ?_
    walk_at "v2"
    refine ⟨by omega, by omega, ?_⟩
    refine loop_range (fun i σ H' => ∃ y5 y6 y7 B2 pr as rows ds ss, σ = [some (.int n), some (.ref a), some (.ref d.a_ways_on), some (.ref ps), some (.ref pr), y5, y6, y7] ∧ Same H B2 ∧ RowsAt B2 as rows ∧ StsAt B2 ds ss ∧ ss.length = i ∧ (∀ row ∈ rows, row.length = i + 1 ∧ row.sum ≤ 8) ∧ stagesOf ways (nmOf names) n = ss ++ stagesGo ways (nmOf names) (n - i) i rows ∧ Led B2 H' [(pr, .lst (as.map V.ref)), (ps, .lst (ds.map V.ref))]) ⟨_, _, _, B1, pr, [t], [[n]], [], [], rfl, s1, .cons ht .nil, .nil, rfl, fun row hr => by rw [List.mem_singleton.mp hr]; exact ⟨rfl, by simpa using h8⟩, rfl, L⟩ (fun i σ H' N hi h hN => ?_) (fun σ H' h => ?_)
    · obtain ⟨y5, y6, y7, B2, pr, as, rows, ds, ss, rfl, s2, hrows, hds, hsl, hrl, heq, L⟩ := h
      rw [Int.toNat_natCast] at hi
      walk_at "v1"
      walk_at "v2"
      refine ⟨by omega, by omega, ?_⟩
      refine comp_range (fun j z acc H' => acc = LsAt ((lsAt (nmOf names) i).take j) ∧ Led B2 H' [(z, .lst acc), (pr, .lst (as.map V.ref)), (ps, .lst (ds.map V.ref))]) (fun z hz => ⟨rfl, L.new hz⟩) ?_ ?_
      · rintro z acc H6 ⟨rfl, L⟩
        have e1 : ((i : Int) + 1).toNat = i + 1 := by omega
        rw [e1, List.take_of_length_le (by rw [lsAt_len]; exact Nat.le_refl _)] at L
        walk_at "v2"
        refine ⟨tyL (L.lstAt (by walk_at "mem")), ?_⟩
        refine ⟨pr, z, as, rows, lsAt (nmOf names) i, rfl, L.at (by walk_at "mem"), hrows.mono L.sm, L.at (by walk_at "mem"), fun row hr => by rw [lsAt_len]; exact hrl row hr, by rw [lsAt_len]; omega, fun pd kvs BA HA sA hst hgd LA => ?_⟩
        obtain ⟨B3, s3, L, k3⟩ := L.over sA LA
        have hst := hst.via (tks_of k3 (by intro e he ys; simp only [List.mem_cons, List.not_mem_nil, or_false] at he; rcases he with rfl | rfl | rfl <;> (intro z; cases z)))
        obtain ⟨B4, s4, hpd, L⟩ := L.sink
        have L : Led B4 HA [(z, .lst (LsAt (lsAt (nmOf names) i))), (pr, .lst (as.map V.ref)), (ps, .lst (ds.map V.ref))] := L
        have hst := hst.mono s4
        have hdl : ds.length = i := by rw [Paired.length hds, hsl]
        rw [lsAt_len] at hgd
        generalize hS : stAfter ways rows (lsAt (nmOf names) i) = S at *
        refine AppK.of L (by walk_at "mem") (Nat.lt_of_lt_of_le (m := 100) (by rw [List.length_map]; omega) (by decide)) (by walk_at "put") fun H7 L => ?_
        have L : Led B4 H7 [(z, .lst (LsAt (lsAt (nmOf names) i))), (pr, .lst (as.map V.ref)), (ps, .lst ((ds ++ [pd]).map V.ref))] := by rw [List.map_append]; exact L
        have hds2 : StsAt B4 (ds ++ [pd]) (ss ++ [S]) := Paired.snoc (hds.mono (s3.trans s4)) ⟨kvs, hpd, hst⟩
        walk_at "v2"
        refine IxLK.of (L.lstAt (by walk_at "mem")) (i := -1) (v := .ref pd) (by rw [List.map_append]; exact atI_last _ _) ?_
        walk_at "v1"
        refine LstDK.of L (L.sm _ _ hpd) (by intro e he ys; simp only [List.mem_cons, List.not_mem_nil, or_false] at he; rcases he with rfl | rfl | rfl <;> (intro z; cases z)) fun pr2 bs B5 H8 s5 hbs L => ?_
        have hrows2 := keys_rows hbs (hst.mono s5)
        walk_at "v1"
        refine NewK.of L fun p0 H9 L => ?_
        refine EqL0 (xs := bs.map V.ref) (L.lstAt (by walk_at "mem")) (L.lstAt (by walk_at "mem")) ?_
        walk_at "v1"
        have hbl : bs.length = S.length := by rw [Paired.length hrows2, List.length_map]
        obtain ⟨m, hm⟩ : ∃ m, n - i = m + 1 := ⟨n - i - 1, by omega⟩
        have heq2 : stagesOf ways (nmOf names) n = ss ++ (S :: (if S = [] then [] else stagesGo ways (nmOf names) m (i + 1) (S.map Prod.fst))) := by
          rw [heq, hm, ← hS]
          rfl
        split
        · rename_i hnil
          have hS0 : S = [] := by
            cases S with
            | nil => rfl
            | cons x r =>
              cases bs with
              | nil => cases hbl
              | cons _ _ => cases hnil
          rw [if_pos hS0] at heq2
          walk_at "vc"
          refine q ps (ds ++ [pd]) B5 H9 (s2.trans (s3.trans (s4.trans s5))) ?_ (L.sel (by walk_at "sel"))
          rw [heq2]
          exact hds2.mono s5
        · rename_i hnil
          have hS0 : S ≠ [] := by
            intro z
            apply hnil
            rw [z] at hbl
            cases bs with
            | nil => rfl
            | cons _ _ => cases hbl
          rw [if_neg hS0] at heq2
          refine hN _ _ ⟨_, _, _, B5, pr2, bs, S.map Prod.fst, ds ++ [pd], ss ++ [S], rfl, s2.trans (s3.trans (s4.trans s5)), hrows2, hds2.mono s5, by rw [List.length_append, hsl]; rfl, fun row hr => hgd.bx row hr, ?_, L.sel (by walk_at "sel")⟩
          rw [heq2, List.append_assoc, show n - (i + 1) = m by omega]
          rfl
      · rintro j z acc H6 N2 hj ⟨rfl, L⟩ hN2
        have hj : j < i + 1 := by omega
        unfold TurnK
        walk_at "v1"
        refine ⟨_, _, rfl, by omega, by omega, by omega, by omega, ?_⟩
        refine ⟨nv names, .inl ((s2.trans L.sm).seq hS), rfl, flat_nv names, ?_⟩
        have e1 : ((j : Int) + ((i : Int) - j)) * ((j : Int) + ((i : Int) - j) + 1) / 2 + (j : Int) = ((i * (i + 1) / 2 + j : Nat) : Int) := by
          rw [show (j : Int) + ((i : Int) - j) = (i : Int) by omega]
          push_cast
          rfl
        rw [e1, if_neg Bool.false_ne_true, inV_nv]
        refine AppK.of L (by walk_at "mem") (Nat.lt_of_lt_of_le (m := 100) (by unfold LsAt; rw [List.length_map, List.length_take, lsAt_len]; omega) (by decide)) (by walk_at "put") fun H9 L => hN2 _ _ ⟨?_, L⟩
        have : (lsAt (nmOf names) i)[j]? = some (nmOf names (i * (i + 1) / 2 + j)) := by
          unfold lsAt
          rw [List.getElem?_map, List.getElem?_range (by omega)]
          rfl
        rw [take_snoc this]
        unfold LsAt
        rw [List.map_append]
        rfl
    · obtain ⟨y5, y6, y7, B2, pr, as, rows, ds, ss, rfl, s2, hrows, hds, hsl, hrl, heq, L⟩ := h
      rw [Int.toNat_natCast] at hsl heq
      walk_at "vc"
      rw [Nat.sub_self, show stagesGo ways (nmOf names) 0 n rows = [] from rfl, List.append_nil] at heq
      exact q ps ds B2 H' s2 (by rw [heq]; exact hds) (L.sel (by walk_at "sel"))
/-! cut stages_of_p -/
def sp_stages_of_p (K : PySem.W.Frag) (d : Ad) : Sp := fun vs H Q _ => ∃ (a : Addr) (ms : List Nat), vs = [.ref a] ∧ SqL K H a (nv ms) ∧ ms.length ≤ 8 ∧
  ∀ p ds B' H', Same H B' → StsAt B' ds (stagesOf ways (nmOf ms) ms.length) → Led B' H' [(p, .lst (ds.map V.ref))] → Q (.ref p) H'
theorem ok_stages_of_p (m : Mo K mg d) (sm : SM bs) (G_stages_of : FnOk P w K mg bs CX0 5 d.a_stages_of d.fd_stages_of ["count", "names", "ways"] (sp_stages_of K d)) : FnOk P w K mg bs CX0 6 d.a_stages_of_p d.fd_stages_of_p ["names"] (sp_stages_of_p K d) := by
  refine m.F_stages_of_p.ok (k := 5) sc_stages_of_p (fun vs H Q E h => ?_) (fun cdv A fr s H vs Q E hr h => ?_)
  · obtain ⟨a, ms, rfl, hS, h8, q⟩ := h
    rfl
  · obtain ⟨a, ms, rfl, hS, h8, q⟩ := h
    refine ⟨_, (pss_one (ps_ret (pe_call G_stages_of (hr.mono (by decide)) (by rfl) m.g_stages_of m.F_stages_of.kp m.b_stages_of .nil pass0 (pa_cons (pe_callB cr_len (by rfl) m.n_len (by decide +kernel) (pa_cons (pv 0) pa_nil)) (pa_cons (pv 0) (pa_cons (pe_glob (v := .ref d.a_ways_on) rfl m.g_ways_on rfl) pa_nil)))))), ?_⟩
    walk_at "vc"
    refine LenK.ofL hS ?_
    rw [nv_len]
    exact ⟨a, ms, ms.length, rfl, h8, hS, q⟩
/-! cut stuck_diagonal -/
theorem stagesOf_ne {wf : Nat → Bool → List (Nat × Nat)} {nm : Nat → Bool} {n : Nat} (h : 0 < n) : stagesOf wf nm n ≠ [] := by
  obtain ⟨m, rfl⟩ : ∃ m, n = m + 1 := ⟨n - 1, by omega⟩
  intro z
  cases z
def stkOf (ms : List Nat) : Option Nat := stkIn (stagesOf ways (nmOf ms) ms.length)
def sp_stuck_diagonal (K : PySem.W.Frag) (d : Ad) : Sp := fun vs H Q _ => ∃ (a : Addr) (ms : List Nat), vs = [.ref a] ∧ SqL K H a (nv ms) ∧ NL ms ∧ ∀ H', Same H H' → Q (oV (stkOf ms)) H'
theorem ok_stuck_diagonal (m : Mo K mg d) (sm : SM bs) (G_check_names : FnOk P w K mg bs CX0 4 d.a_check_names d.fd_check_names ["names"] (sp_check_names K)) (G_stuck_in : FnOk P w K mg bs CX0 1 d.a_stuck_in d.fd_stuck_in ["stages"] (sp_stuck_in K)) (G_stages_of_p : FnOk P w K mg bs CX0 6 d.a_stages_of_p d.fd_stages_of_p ["names"] (sp_stages_of_p K d)) : FnOk P w K mg bs CX0 7 d.a_stuck_diagonal d.fd_stuck_diagonal ["names"] (sp_stuck_diagonal K d) := by
  refine m.F_stuck_diagonal.ok (k := 6) sc_stuck_diagonal (fun vs H Q E h => ?_) (fun cdv A fr s H vs Q E hr h => ?_)
  · obtain ⟨a, ms, rfl, hS, hN, q⟩ := h
    rfl
  · obtain ⟨a, ms, rfl, hS, hN, q⟩ := h
    refine ⟨_, (pss_cons (ps_expr (pe_call G_check_names (hr.mono (by decide)) (by rfl) m.g_check_names m.F_check_names.kp m.b_check_names .nil pass0 (pa_cons (pv 0) pa_nil)))
      (pss_one (ps_ret (pe_call G_stuck_in (hr.mono (by decide)) (by rfl) m.g_stuck_in m.F_stuck_in.kp m.b_stuck_in .nil pass0 (pa_cons (pe_call G_stages_of_p (hr.mono (by decide)) (by rfl) m.g_stages_of_p m.F_stages_of_p.kp m.b_stages_of_p .nil pass0 (pa_cons (pv 0) pa_nil)) pa_nil))))), ?_⟩
    walk_at "vc"
    refine ⟨a, ms, rfl, hS, hN.1, hN.2.1, hN.2.2, fun H1 s1 => ?_⟩
    walk_at "vc"
    refine ⟨a, ms, rfl, s1.seq hS, hN.2.2, fun p ds B2 H2 s2 hds L => ?_⟩
    refine ⟨p, ds, stagesOf ways (nmOf ms) ms.length, rfl, L.at (by walk_at "mem"), hds.mono L.sm, stagesOf_ne hN.2.1, fun H3 s3 => ?_⟩
    exact q _ ((s1.trans s2).trans (L.sm.trans s3))
/-! cut set_number -/
theorem dp_rows {K : PySem.W.Frag} {H : Hp} : ∀ {as : List Addr} {ls : List (List Nat)}, RowsN H as ls → DpAll K H (as.map V.ref) (ls.map fun l => PyData.list (l.map fun (p : Nat) => .int (p : Int)))
  | _, _, .nil => .nil
  | _, _, .cons h g => .cons (.lst (.inl (.inl h)) (dp_nv _)) (dp_rows g)
theorem eqv_nvl (a b : List Nat) : PyData.eqv (.list (a.map fun (p : Nat) => PyData.int (p : Int))) (.list (b.map fun (p : Nat) => PyData.int (p : Int))) = decide (a = b) := by
  have e : ∀ l : List Nat, l.map (fun (p : Nat) => PyData.int (p : Int)) = (zs l).map PyData.int := fun l => by unfold zs; rw [List.map_map]; rfl
  rw [PyData.eqv, e, e, PySem.W.ked_eqvAll]
  by_cases c : a = b
  · rw [c]; simp
  · rw [decide_eq_false c, decide_eq_false fun z => c (zs_inj z)]
theorem eqd_nv (l : List Nat) : Eqd 2 (.list (l.map fun (p : Nat) => PyData.int (p : Int))) := Eqd.lst fun d hd => by obtain ⟨p, _, rfl⟩ := List.mem_map.mp hd; exact Eqd.int _
theorem poss_stk {n : Nat} (hn : 0 < n) {ms : List Nat} (h : Poss n ms) : stkOf ms = none := by
  have h2 := h.ok
  rw [← h.len] at h2 hn
  exact IsStuck.inj (stk_isStuck hn) h2
def sp_set_number (K : PySem.W.Frag) (d : Ad) : Sp := fun vs H Q _ => ∃ (a : Addr) (ms : List Nat) (n i : Nat) (ls : List (List Nat)), vs = [.ref a] ∧ SqL K H a (nv ms) ∧ 1 ≤ n ∧ n ≤ 5 ∧ PL n ls ∧ ls[i]? = some ms ∧ ∀ H', Same H H' → Q (.int i) H'
theorem ok_set_number (m : Mo K mg d) (sm : SM bs) (G_possible_lists : FnOk P w K mg bs CX0 6 d.a_possible_lists d.fd_possible_lists ["count"] (sp_possible_lists K)) (G_check_names : FnOk P w K mg bs CX0 4 d.a_check_names d.fd_check_names ["names"] (sp_check_names K)) (G_stuck_diagonal : FnOk P w K mg bs CX0 7 d.a_stuck_diagonal d.fd_stuck_diagonal ["names"] (sp_stuck_diagonal K d)) : FnOk P w K mg bs CX0 8 d.a_set_number d.fd_set_number ["names"] (sp_set_number K d) := by
  obtain ⟨t_GREATEST_COUNT, h_GREATEST_COUNT⟩ := m.mg_GREATEST_COUNT
  refine m.F_set_number.ok (k := 7) sc_set_number (fun vs H Q E h => ?_) (fun cdv A fr s H vs Q E hr h => ?_)
  · obtain ⟨a, ms, n, i, ls, rfl, hS, h1, h5, hP, hl, q⟩ := h
    rfl
  · obtain ⟨a, ms, n, i, ls, rfl, hS, h1, h5, hP, hl, q⟩ := h
    refine ⟨_, (pss_cons (ps_expr (pe_call G_check_names (hr.mono (by decide)) (by rfl) m.g_check_names m.F_check_names.kp m.b_check_names .nil pass0 (pa_cons (pv 0) pa_nil)))
      (pss_cons (ps_if (pt_cmpR op_gt (pe_callB cr_len (by rfl) m.n_len (by decide +kernel) (pa_cons (pv 0) pa_nil)) (pe_glob (v := .int (5)) rfl h_GREATEST_COUNT ⟨_, rfl⟩) (nomark _))
      (pss_one ps_never)
      pss_nil)
      (pss_cons (ps_asg (pe_call G_stuck_diagonal (hr.mono (by decide)) (by rfl) m.g_stuck_diagonal m.F_stuck_diagonal.kp m.b_stuck_diagonal .nil pass0 (pa_cons (pv 0) pa_nil)) (pg_name (i := 1) sc_set_number.nd rfl (.inl rfl)))
      (pss_cons (ps_if (pt_cmpR op_notN (pv 1) pe_non (nomark _))
      (pss_one ps_never)
      pss_nil)
      (pss_one (ps_ret (pe_bm PySem.F.plainAttrs_list PySem.F.slot_list_index PySem.F.type_list_index (mt_indexD (u65 hr)) (pe_call G_possible_lists (hr.mono (by decide)) (by rfl) m.g_possible_lists m.F_possible_lists.kp m.b_possible_lists .nil pass0 (pa_cons (pe_callB cr_len (by rfl) m.n_len (by decide +kernel) (pa_cons (pv 0) pa_nil)) pa_nil)) (pa_cons (pv 0) pa_nil)))))))), ?_⟩
    have hp := (hP.mem h1 ms).mp (List.mem_of_getElem? hl)
    have hms := hp.len
    have hnd := hP.nd h1
    walk_at "vc"
    refine ⟨a, ms, rfl, hS, hp.asc, by omega, by omega, fun H1 s1 => ?_⟩
    walk_at "vc"
    refine LenK.ofL (s1.seq hS) ?_
    rw [nv_len, hms]
    walk_at "vc"
    rw [if_neg (show ¬ (5 : Int) < ((n : Nat) : Int) by omega)]
    refine ⟨a, ms, rfl, s1.seq hS, ⟨hp.asc, by omega, by omega⟩, fun H2 s2 => ?_⟩
    rw [poss_stk h1 hp]
    show if (!decide (oV none = V.non)) = true then _ else _
    rw [if_neg (show ¬ (!decide (oV none = V.non)) = true by decide)]
    have s12 := s1.trans s2
    refine LenK.ofL (s12.seq hS) ?_
    rw [nv_len, hms]
    refine ⟨n, rfl, h1, h5, fun p as B' H' ls2 s has hP2 L => ?_⟩
    obtain rfl := PL.uniq hP hP2
    have hr := elems_rows has fun e he => L.hs e (.tail _ he)
    have sH := (s12.trans s).trans L.sm
    refine ⟨tyL (L.lstAt (.head _)), ?_⟩
    refine ⟨p, .ref a, .list (ms.map fun (p : Nat) => PyData.int (p : Int)), ls.map fun l => PyData.list (l.map fun (p : Nat) => .int (p : Int)), i, .list (ms.map fun (p : Nat) => PyData.int (p : Int)), rfl, rfl, .lst (L.lstAt (.head _)) (dp_rows hr), .lst (sH.seq hS) (dp_nv ms), ?_, ?_, ?_, ?_, ?_, q _ sH⟩
    · exact (Eqd.lst (k := 2) fun d hd => by obtain ⟨l, _, rfl⟩ := List.mem_map.mp hd; exact eqd_nv l).sh (by decide)
    · exact (eqd_nv ms).sh (by decide)
    · rw [List.getElem?_map, hl]; rfl
    · rw [eqv_nvl]; exact decide_eq_true rfl
    · intro m z' hm hz
      rw [List.getElem?_map] at hz
      cases e : ls[m]? with
      | none => rw [e] at hz; cases hz
      | some l =>
        rw [e] at hz
        cases hz
        rw [eqv_nvl, decide_eq_false]
        rintro rfl
        have h6 := (List.getElem?_eq_some_iff.mp e).1
        have h7 := (List.getElem?_inj h6 hnd).mp (e.trans hl.symm)
        omega
/-! cut count_sets -/
def sp_count_sets (K : PySem.W.Frag) (d : Ad) : Sp := fun vs H Q _ => ∃ (n : Nat) (ls : List (List Nat)), vs = [.int n] ∧ 1 ≤ n ∧ n ≤ 5 ∧ PL n ls ∧ ∀ H', Same H H' → Q (.int (ls.length : Nat)) H'
theorem ok_count_sets (m : Mo K mg d) (sm : SM bs) (G_check_count : FnOk P w K mg bs CX0 3 d.a_check_count d.fd_check_count ["count", "greatest"] (sp_check_count K)) (G_possible_lists : FnOk P w K mg bs CX0 6 d.a_possible_lists d.fd_possible_lists ["count"] (sp_possible_lists K)) : FnOk P w K mg bs CX0 7 d.a_count_sets d.fd_count_sets ["count"] (sp_count_sets K d) := by
  obtain ⟨t_GREATEST_COUNT, h_GREATEST_COUNT⟩ := m.mg_GREATEST_COUNT
  refine m.F_count_sets.ok (k := 6) sc_count_sets (fun vs H Q E h => ?_) (fun cdv A fr s H vs Q E hr h => ?_)
  · obtain ⟨n, ls, rfl, h1, h5, hP, q⟩ := h
    rfl
  · obtain ⟨n, ls, rfl, h1, h5, hP, q⟩ := h
    refine ⟨_, (pss_cons (ps_expr (pe_call G_check_count (hr.mono (by decide)) (by rfl) m.g_check_count m.F_check_count.kp m.b_check_count .nil pass0 (pa_cons (pv 0) (pa_cons (pe_glob (v := .int (5)) rfl h_GREATEST_COUNT ⟨_, rfl⟩) pa_nil))))
      (pss_one (ps_ret (pe_callB cr_len (by rfl) m.n_len (by decide +kernel) (pa_cons (pe_call G_possible_lists (hr.mono (by decide)) (by rfl) m.g_possible_lists m.F_possible_lists.kp m.b_possible_lists .nil pass0 (pa_cons (pv 0) pa_nil)) pa_nil))))), ?_⟩
    walk_at "vc"
    refine ⟨n, 5, rfl, by omega, by omega, ?_⟩
    walk_at "vc"
    refine ⟨n, rfl, h1, h5, fun p as B' H' ls2 s has hP2 L => ?_⟩
    obtain rfl := PL.uniq hP hP2
    walk_at "vc"
    refine LenK.ofL (L.lstAt (.head _)) ?_
    rw [List.length_map, has]
    exact q _ (s.trans L.sm)
/-! cut law_sends -/
def PrsAt2 (B : Hp) (as : List Addr) (l : List (Nat × Nat)) : Prop := PrsAt B as l
def sp_law_sends (K : PySem.W.Frag) : Sp := fun vs H Q _ => ∃ (e : Nat) (b : Bool), vs = [.int e, .bl b] ∧ e ≤ 100 ∧ ∀ p H' B' as, Same H B' → PrsAt B' as (ways e b) → Led B' H' [(p, .lst (as.map V.ref))] → Q (.ref p) H'
theorem ok_law_sends (m : Mo K mg d) (sm : SM bs) : Fg P w K mg bs CX0 1 d.a_law_sends d.fd_law_sends ["entered", "is_listed"] (sp_law_sends K) := by
  refine ok (n := 0) m.F_law_sends sc_law_sends (fun vs H Q E h => ?_) (fun cdv A fr s H vs Q E hg hr h => ?_)
  · obtain ⟨e, b, rfl, he, q⟩ := h
    rfl
  · obtain ⟨e, b, rfl, he, q⟩ := h
    refine ⟨_, (pss_cons (ps_if (pt_val (pv 1))
      (pss_one (ps_ret (pe_lc (own := [("right", 2)]) (by rfl) sc_law_sends.nd (pi_range1 (by rfl) m.n_range (pa_cons (pv 0) pa_nil)) (blkOk_by (own := [("right", 2)]) (N := ["entered", "is_listed", "right"]) (sc := defScope s_law_sends) (by decide +kernel)) (fun _ _ _ _ _ => by exact (pg_name (i := 2) sc_law_sends.nd rfl (.inl rfl))) (fun _ _ _ _ _ => by exact pts_nil) (fun _ _ _ _ _ => by exact (pe_tup (pa_cons (pv 2) (pa_cons (pe_op op_sub (pe_op op_sub (pv 0) pe_int) (pv 2)) pa_nil)))))))
      pss_nil)
      (pss_one (ps_ret (pe_op op_cat (pe_lc (own := [("right", 2)]) (by rfl) sc_law_sends.nd (pi_range2 (by rfl) m.n_range (pa_cons pe_int (pa_cons (pv 0) pa_nil))) (blkOk_by (own := [("right", 2)]) (N := ["entered", "is_listed", "right"]) (sc := defScope s_law_sends) (by decide +kernel)) (fun _ _ _ _ _ => by exact (pg_name (i := 2) sc_law_sends.nd rfl (.inl rfl))) (fun _ _ _ _ _ => by exact pts_nil) (fun _ _ _ _ _ => by exact (pe_tup (pa_cons (pv 2) (pa_cons (pe_op op_sub (pv 0) (pv 2)) pa_nil))))) (pe_op op_rep (pe_lst (pa_cons (pe_tup (pa_cons pe_int (pa_cons pe_int pa_nil))) pa_nil)) (pe_callTy cr_intB (by rfl) m.n_int (by decide +kernel) (pa_cons (pe_cmpR op_eq (pv 0) pe_int (nomark _)) pa_nil))))))), ?_⟩
    unfold ways at q
    walk_at "vc"
    cases b with
    | true =>
      rw [if_pos rfl] at q ⊢
      refine ⟨by omega, by omega, ?_⟩
      refine comp_range (fun j z acc H' => ∃ B2 as, Same H B2 ∧ acc = as.map V.ref ∧ PrsAt B2 as ((List.range j).map fun r => (r, e - 1 - r)) ∧ Led B2 H' [(z, .lst acc)]) (fun z hz => ⟨H, [], Same.refl _, rfl, .nil, (Led.nil H).new hz⟩) ?_ ?_
      · rintro z acc H6 ⟨B2, as, s2, rfl, hr, L⟩
        rw [Int.toNat_natCast] at hr
        exact q z H6 B2 as s2 hr L
      · rintro j z acc H6 N hj ⟨B2, as, s2, rfl, hr, L⟩ hN
        rw [Int.toNat_natCast] at hj
        unfold TurnK
        walk_at "vc"
        refine NewK.of L fun t H7 L => ?_
        obtain ⟨B3, s3, h3, L⟩ := L.sink
        have hl : as.length = j := by rw [Paired.length hr, List.length_map, List.length_range]
        refine AppK.of L (by walk_at "mem") (Nat.lt_of_lt_of_le (m := 200) (by rw [List.length_map]; omega) (by decide)) (by walk_at "put") fun H8 L => hN _ _ ⟨B3, as ++ [t], s2.trans s3, by rw [List.map_append]; rfl, ?_, L⟩
        rw [List.range_succ, List.map_append]
        refine Paired.snoc (PrsAt.mono s3 hr) ?_
        unfold PrAt
        rw [h3]
        dsimp only
        rw [show ((e - 1 - j : Nat) : Int) = (e : Int) - 1 - (j : Int) by omega]
    | false =>
      rw [if_neg Bool.false_ne_true] at q ⊢
      refine ⟨by decide, by decide, by omega, by omega, ?_⟩
      refine comp_range (fun j z acc H' => ∃ B2 as, Same H B2 ∧ acc = as.map V.ref ∧ PrsAt B2 as ((List.range j).map fun r => (r + 1, e - (r + 1))) ∧ Led B2 H' [(z, .lst acc)]) (fun z hz => ⟨H, [], Same.refl _, rfl, .nil, (Led.nil H).new hz⟩) ?_ ?_
      · rintro z acc H6 ⟨B2, as, s2, rfl, hr, L⟩
        rw [show ((e : Int) - 1).toNat = e - 1 by omega] at hr
        refine NewK.of L fun t H7 L => ?_
        obtain ⟨B3, s3, h3, L⟩ := L.sink
        refine NewK.of L fun t1 H8 L => ?_
        have hl : as.length = e - 1 := by rw [Paired.length hr, List.length_map, List.length_range]
        by_cases c : e = 0
        · subst c
          rw [if_pos rfl] at q
          rw [if_pos (by omega)]
          cases as with
          | cons _ _ => cases hl
          | nil =>
          refine RptK.of (n := 1) L (by walk_at "mem") (by decide) fun t2 H9 L => ?_
          refine x_cat.mpr (CatK.of (xs := []) (ys := [V.ref t]) L (by walk_at "mem") (by walk_at "mem") (show 1 ≤ sizeLine by decide) fun p H10 L => ?_)
          exact q p H10 B3 [t] (s2.trans s3) (.cons h3 .nil) (L.sel (.cons .hd .nil))
        · rw [if_neg c] at q
          rw [if_neg (by omega)]
          refine RptK.of (n := 0) L (by walk_at "mem") (by decide) fun t2 H9 L => ?_
          refine x_cat.mpr (CatK.of (xs := as.map V.ref) L (by walk_at "mem") (by walk_at "mem") (Nat.le_trans (m := 200) (by rw [List.length_map, List.length_replicate]; omega) (by decide)) fun p H10 L => ?_)
          rw [List.replicate_zero, List.append_nil] at L
          exact q p H10 B3 as (s2.trans s3) (PrsAt.mono s3 hr) (L.sel (.cons .hd .nil))
      · rintro j z acc H6 N hj ⟨B2, as, s2, rfl, hr, L⟩ hN
        rw [show ((e : Int) - 1).toNat = e - 1 by omega] at hj
        unfold TurnK
        walk_at "vc"
        refine NewK.of L fun t H7 L => ?_
        obtain ⟨B3, s3, h3, L⟩ := L.sink
        have hl : as.length = j := by rw [Paired.length hr, List.length_map, List.length_range]
        refine AppK.of L (by walk_at "mem") (Nat.lt_of_lt_of_le (m := 200) (by rw [List.length_map]; omega) (by decide)) (by walk_at "put") fun H8 L => hN _ _ ⟨B3, as ++ [t], s2.trans s3, by rw [List.map_append]; rfl, ?_, L⟩
        rw [List.range_succ, List.map_append]
        refine Paired.snoc (PrsAt.mono s3 hr) ?_
        unfold PrAt
        rw [h3]
        dsimp only
        rw [show ((e - (j + 1) : Nat) : Int) = (e : Int) - (1 + (j : Int)) by omega, show ((j + 1 : Nat) : Int) = 1 + (j : Int) by omega]
/-! cut law_all -/
def sp_law_all (K : PySem.W.Frag) : Sp := fun vs H Q _ => ∃ (n : Nat), vs = [.int n] ∧ 1 ≤ n ∧ n ≤ 5 ∧
  ∀ p as B' H' ls, Same H B' → Paired (fun a l => B' a = some (.lst (nv l))) as ls → srt ((allAt n n).2.map zs) = ls.map zs → Led B' H' [(p, .lst (as.map V.ref))] → Q (.ref p) H'
theorem ok_law_all (m : Mo K mg d) (sm : SM bs) (G_law_sends : Fg P w K mg bs CX0 1 d.a_law_sends d.fd_law_sends ["entered", "is_listed"] (sp_law_sends K)) : Fg P w K mg bs CX0 2 d.a_law_all d.fd_law_all ["count"] (sp_law_all K) := by
  refine ok (n := 1) m.F_law_all sc_law_all (fun vs H Q E h => ?_) (fun cdv A fr s H vs Q E hg hr h => ?_)
  · obtain ⟨n, rfl, h1, h5, q⟩ := h
    rfl
  · obtain ⟨n, rfl, h1, h5, q⟩ := h
    refine ⟨_, (pss_cons (ps_par3 (i := 1) (j := 2) (l := 3) (by rfl) sc_law_all.nd rfl rfl rfl (by decide) (by decide) (by decide) rfl rfl rfl (pa_cons (show PE _ _ (tN1 P w _ _) from pe_n1 (Nat.lt_of_le_of_lt (Nat.add_le_add_left (by decide) _) hr.units) (pe_tup (pa_cons (pe_tup pa_nil) (pa_cons (pe_tup (pa_cons (pv 0) pa_nil)) pa_nil))) pe_bl) (pa_cons pe_dnewT (pa_cons pe_int pa_nil))) (by rfl))
      (pss_cons (ps_for PassesOwn.never rfl (pi_range1 (by rfl) m.n_range (pa_cons (pv 0) pa_nil)) (pg_name (i := 4) sc_law_all.nd rfl (.inl rfl))
      (pss_cons (ps_asg pe_dnewT (pg_name (i := 5) sc_law_all.nd rfl (.inl rfl)))
      (pss_cons (ps_for PassesOwn.never rfl (show PI _ _ _ (iNKeys P w _) from pi_nkeys (pv 1)) (show PG _ _ (gTup K 2 _) from pg_tup (by rfl) (pgs_cons (pg_name (i := 6) sc_law_all.nd rfl (.inl rfl)) (pgs_cons (pg_name (i := 7) sc_law_all.nd rfl (.inl rfl)) pgs_nil)))
      (pss_cons (ps_asg (pe_lst (pa_cons (pe_tup (pa_cons (pv 6) (pa_cons (pe_tup (pa_cons pe_int pa_nil)) pa_nil))) pa_nil)) (pg_name (i := 8) sc_law_all.nd rfl (.inl rfl)))
      (pss_cons (ps_for PassesOwn.never rfl (pi_enumT (by rfl) m.n_enumerate (pa_cons (pv 7) pa_nil)) (show PG _ _ (gTup K 2 _) from pg_tup (by rfl) (pgs_cons (pg_name (i := 9) sc_law_all.nd rfl (.inl rfl)) (pgs_cons (pg_name (i := 10) sc_law_all.nd rfl (.inl rfl)) pgs_nil)))
      (pss_cons (ps_asg (pe_lst pa_nil) (pg_name (i := 11) sc_law_all.nd rfl (.inl rfl)))
      (pss_cons (ps_for PassesOwn.never rfl (pi_list (pv 8)) (show PG _ _ (gTup K 2 _) from pg_tup (by rfl) (pgs_cons (pg_name (i := 12) sc_law_all.nd rfl (.inl rfl)) (pgs_cons (pg_name (i := 13) sc_law_all.nd rfl (.inl rfl)) pgs_nil)))
      (pss_one (ps_for PassesOwn.never rfl (pi_list (pe_slice sl_list (pe_lst (pa_cons pe_bl (pa_cons pe_bl pa_nil))) po_none (po_some (pe_op op_add pe_int (pe_callTy cr_intB (by rfl) m.n_int (by decide +kernel) (pa_cons (pe_cmpR op_gt (pv 10) pe_int (nomark _)) pa_nil)))))) (pg_name (i := 14) sc_law_all.nd rfl (.inl rfl))
      (pss_one (ps_for PassesOwn.never rfl (pi_list (pg_call G_law_sends hg (hr.mono (by decide)) (by rfl) m.g_law_sends m.F_law_sends.kp m.b_law_sends .nil (fun _ => passG) (pa_cons (pv 10) (pa_cons (pv 14) pa_nil)))) (show PG _ _ (gTup K 2 _) from pg_tup (by rfl) (pgs_cons (pg_name (i := 15) sc_law_all.nd rfl (.inl rfl)) (pgs_cons (pg_name (i := 16) sc_law_all.nd rfl (.inl rfl)) pgs_nil)))
      (pss_cons (ps_asg (pe_op op_catA (pv 12) (pe_op (show OpR _ _ (rRepB K) from op_repB) (pe_tup (pa_cons (pe_op op_add (pv 3) (pv 9)) pa_nil)) (pe_callTy cr_intB (by rfl) m.n_int (by decide +kernel) (pa_cons (pv 14) pa_nil)))) (pg_name (i := 17) sc_law_all.nd rfl (.inl rfl)))
      (pss_one (ps_expr (pe_bm PySem.F.plainAttrs_list PySem.F.slot_list_append PySem.F.type_list_append mt_append (pv 11) (pa_cons (pe_tup (pa_cons (pv 17) (pa_cons (pe_op op_catA (pe_slice sl_tupA (pv 13) po_none (po_some (pe_un un_neg pe_int))) (pe_tup (pa_cons (pe_op op_add (pe_ix ix_tup (pv 13) (pe_un un_neg pe_int) (fun _ _ => rfl)) (pv 16)) (pa_cons (pv 15) pa_nil)))) pa_nil))) pa_nil))))))))))
      (pss_one (ps_asg (pv 11) (pg_name (i := 8) sc_law_all.nd rfl (.inl rfl)))))))
      (pss_one (ps_for PassesOwn.never rfl (pi_list (pv 8)) (show PG _ _ (gTup K 2 _) from pg_tup (by rfl) (pgs_cons (pg_name (i := 12) sc_law_all.nd rfl (.inl rfl)) (pgs_cons (pg_name (i := 13) sc_law_all.nd rfl (.inl rfl)) pgs_nil)))
      (pss_one (ps_if (pt_cmpR op_eq (pe_callB (cr_sumN rfl) (by rfl) m.n_sum (by decide +kernel) (pa_cons (pv 13) pa_nil)) pe_int (nomark _))
      (pss_one (ps_dput (Nat.lt_of_le_of_lt (Nat.add_le_add_left (by decide) _) hr.units) (pv 2) (pv 12) pe_bl rfl))
      (pss_one (show PS _ _ (sNPut P w _ _ _) from ps_nput (Nat.lt_of_le_of_lt (Nat.add_le_add_left (by decide) _) hr.units) (pv 5) (pe_tup (pa_cons (pv 12) (pa_cons (pv 13) pa_nil))) pe_bl rfl)))))))))
      (pss_one (ps_par (i := 1) (j := 3) (by rfl) sc_law_all.nd rfl rfl (by decide) rfl rfl (pa_cons (pv 5) (pa_cons (pe_op op_add (pe_op op_add (pv 3) (pv 4)) pe_int) pa_nil)) (by rfl))))))
      (pss_one (ps_ret (pe_lc (own := [("names", 6)]) (by rfl) sc_law_all.nd (pi_list (pe_callB (show CallR _ _ rSortDT from cr_sortDT rfl (Nat.lt_of_le_of_lt (Nat.add_le_add_left (by decide) _) hr.units)) (by rfl) m.n_sorted (by decide +kernel) (pa_cons (pv 2) pa_nil))) (blkOk_by (own := [("names", 6)]) (N := ["count", "level", "found", "first", "diagonal", "later", "names", "state", "parts", "at", "entered", "longer", "some", "row", "is_listed", "right", "down", "more"]) (sc := defScope s_law_all) (by decide +kernel)) (fun _ _ _ _ _ => by exact (pg_name (i := 6) sc_law_all.nd rfl (.inl rfl))) (fun _ _ _ _ _ => by exact pts_nil) (fun _ _ _ _ _ => by exact (pe_callTy (show CallR _ _ (rListOf K) from cr_listOf) (by rfl) m.n_list (by decide +kernel) (pa_cons (pv 6) pa_nil)))))))), ?_⟩
    walk_at "v2"
    refine NewK.of (Led.nil H) fun pl H1 L => ?_
    refine NewK.of L fun t1 H2 L => ?_
    obtain ⟨B1, s1, ht1, L⟩ := L.sink
    refine NewK.of L fun t2 H3 L => ?_
    obtain ⟨B2, s2, ht2, L⟩ := L.sink
    refine NewK.of L fun t3 H4 L => ?_
    obtain ⟨B3, s3, ht3, L⟩ := L.sink
    refine N1K.of (k := toNK ([], [n])) L (by walk_at "mem") (PK.of (p := ([], [n])) ht3 ((s2.trans s3) _ _ ht1) (s3 _ _ ht2)) (by walk_at "put") fun H5 L => ?_
    refine NewK.of L fun pf H6 L => ?_
    walk_at "v2"
    refine ⟨by omega, by omega, ?_⟩
    refine loop_range (fun i σ H' => ∃ y4 y5 y6 y7 y8 y9 y10 y11 y12 y13 y14 y15 y16 y17 pl pf xs B0, σ = [some (.int (n : Int)), some (.ref pl), some (.ref pf), some (.int (tri i : Nat)), y4, y5, y6, y7, y8, y9, y10, y11, y12, y13, y14, y15, y16, y17] ∧ Same H B0 ∧ NsAt B0 xs (allAt n i).1 ∧ Led B0 H' [(pf, .dT (fk (allAt n i).2)), (pl, nD P w pl xs)]) ⟨_, _, _, _, _, _, _, _, _, _, _, _, _, _, pl, pf, [(toNK ([], [n]), t3)], B3, rfl, s1.trans (s2.trans s3), .cons ⟨rfl, PK.of (p := ([], [n])) ht3 ((s2.trans s3) _ _ ht1) (s3 _ _ ht2)⟩ .nil, L⟩ (fun i σ H' N hi h hN => ?_) (fun σ H' h => ?_)
    · obtain ⟨y4, y5, y6, y7, y8, y9, y10, y11, y12, y13, y14, y15, y16, y17, pl, pf, xs, B0, rfl, s0, hxs, L⟩ := h
      have ok := allAt_ok (n := n) h1 i
      have okl := allAt_len (n := n) h1 h5 i
      have hg0 := ok.good (by omega)
      have hstep : allAt n (i + 1) = (allAt n i).1.foldl (stState (tri i)) ([], (allAt n i).2) := rfl
      rw [hstep] at hN
      generalize allAt n i = A0 at *
      obtain ⟨lvl, F0⟩ := A0
      dsimp only at *
      walk_at "v1"
      refine NewK.of L fun pq H1 L => ?_
      walk_at "v2"
      refine WlkN.of L (by walk_at "mem") (l'' := fun o => [(pq, nD P w pq []), (pf, .dT (fk F0)), (pl, .frz o (nD P w pl xs))]) (fun o => by walk_at "put") fun o H2 L => ?_
      refine loop_nkeys (fun j σ' H' => ∃ y6 y7 y8 y9 y10 y11 y12 y13 y14 y15 y16 y17 B3 xs2, σ' = [some (.int (n : Int)), some (.ref pl), some (.ref pf), some (.int (tri i : Nat)), some (.int (i : Int)), some (.ref pq), y6, y7, y8, y9, y10, y11, y12, y13, y14, y15, y16, y17] ∧ Same B0 B3 ∧ NsAt B3 xs2 ((lvl.take j).foldl (stState (tri i)) ([], F0)).1 ∧ GoodA n (32 * j) ((lvl.take j).foldl (stState (tri i)) ([], F0)) ∧ Led B3 H' [(pq, nD P w pq xs2), (pf, .dT (fk ((lvl.take j).foldl (stState (tri i)) ([], F0)).2)), (pl, .frz o (nD P w pl xs))]) ⟨_, _, _, _, _, _, _, _, _, _, _, _, B0, [], rfl, Same.refl _, .nil, ⟨hg0.1, hg0.2, Nat.le_refl _⟩, L⟩ (fun j σ' H' ⟨_, _, _, _, _, _, _, _, _, _, _, _, _, _, _, _, _, _, L⟩ => L.at (by walk_at "mem")) (fun j k q σ' H' N2 hkq h hN2 => ?_) (fun σ' H' h => ?_)
      · obtain ⟨y6, y7, y8, y9, y10, y11, y12, y13, y14, y15, y16, y17, B3, xs2, rfl, s3, hxs2, hga, L⟩ := h
        obtain ⟨p, hp, hk, hpq⟩ := paired_get hxs hkq
        obtain ⟨r, s', hq, hr', hs'⟩ := PK.get hpq
        obtain ⟨hsent, hpos⟩ := ok.snd p (List.mem_of_getElem? hp)
        have hsum := hsent.len_le
        rw [take_snoc hp, List.foldl_append] at hN2
        have hjl : j < lvl.length := (List.getElem?_eq_some_iff.mp hp).1
        generalize (lvl.take j).foldl (stState (tri i)) ([], F0) = A at *
        walk_at "v1"
        refine UnpK.of (.inl (.inl ((s3.trans L.sm) _ _ hq))) rfl ?_
        walk_at "v1"
        walk_at "v2"
        refine NewK.of L fun u1 H3 L => ?_
        obtain ⟨B4, s4, hu1, L⟩ := L.sink
        refine NewK.of L fun u2 H4 L => ?_
        obtain ⟨B5, s5, hu2, L⟩ := L.sink
        refine NewK.of L fun pp H5 L => ?_
        have s35 := s3.trans (s4.trans s5)
        walk_at "v2"
        refine ⟨⟨_, .inl (.inl ((s35.trans L.sm) _ _ hs'))⟩, ?_⟩
        refine loop_enumT (xs := nv p.2) (fun v σ2 H' => ∃ pp y9 y10 y11 y12 y13 y14 y15 y16 y17 B6 as, σ2 = [some (.int (n : Int)), some (.ref pl), some (.ref pf), some (.int (tri i : Nat)), some (.int (i : Int)), some (.ref pq), some (.ref r), some (.ref s'), some (.ref pp), y9, y10, y11, y12, y13, y14, y15, y16, y17] ∧ Same B5 B6 ∧ PtAt B6 as (pgo (tri i) (p.2.take v) [(p.1, [0])]) ∧ Led B6 H' [(pp, .lst (as.map V.ref)), (pq, nD P w pq xs2), (pf, .dT (fk A.2)), (pl, .frz o (nD P w pl xs))]) ⟨pp, _, _, _, _, _, _, _, _, _, B5, [u2], rfl, Same.refl _, .cons (PK.of (p := (p.1, [0])) hu2 (s35 _ _ hr') (s5 _ _ hu1)) .nil, L⟩ (fun v σ2 H' h => ?_) (fun v x σ2 H' N3 hx h hN3 => ?_) (fun σ2 H' h => ?_)
        · obtain ⟨pp, y9, y10, y11, y12, y13, y14, y15, y16, y17, B6, as, rfl, s6, hps, L⟩ := h
          exact .inl (.inl ((s35.trans (s6.trans L.sm)) _ _ hs'))
        · obtain ⟨pp, y9, y10, y11, y12, y13, y14, y15, y16, y17, B6, as, rfl, s6, hps, L⟩ := h
          obtain ⟨e, he, rfl⟩ := nv_at hx
          have hvl : v < p.2.length := (List.getElem?_eq_some_iff.mp he).1
          have hst := sum_take p.2 (v + 1)
          rw [take_snoc he, List.sum_append] at hst
          simp only [List.sum_cons, List.sum_nil, Nat.add_zero] at hst
          rw [take_snoc he, pgo_snoc, List.length_take, Nat.min_eq_left (Nat.le_of_lt hvl)] at hN3
          have hpl := pgo_len (p.2.take v) (tri i) [(p.1, [0])]
          have hp5 : 2 ^ (p.2.take v).sum ≤ 2 ^ 5 := Nat.pow_le_pow_right (by decide) (by omega)
          rw [List.length_singleton, Nat.one_mul] at hpl
          have hpl : (pgo (tri i) (p.2.take v) [(p.1, [0])]).length ≤ 32 := Nat.le_trans hpl hp5
          have hrl : ∀ z ∈ pgo (tri i) (p.2.take v) [(p.1, [0])], 0 < z.2.length ∧ z.2.length ≤ v + 1 ∧ z.1.length ≤ 5 + v := fun z hz => by
            obtain ⟨ls, c, hf, rfl⟩ := pgo_nxt' hz
            have h1 := hf.len
            have h2 := hsent.tot
            refine ⟨?_, ?_, ?_⟩
            · show 0 < (My.mg 0 c).length; rw [mg_len]; omega
            · show (My.mg 0 c).length ≤ _; rw [mg_len, h1.1, List.length_take]; omega
            · show (p.1 ++ lstd _ ls).length ≤ _
              rw [List.length_append, lstd_len]
              have : nls ls ≤ ls.length := List.countP_le_length
              rw [h1.2, List.length_take] at this
              omega
          have hvi : v ≤ i := by have := (RowAt.ok ways_ok hsent.here).1.len; omega
          generalize pgo (tri i) (p.2.take v) [(p.1, [0])] = PS at *
          refine NewK.of L fun t H6 L => ?_
          walk_at "v1"
          refine UnpK.of (L.tupAt (by walk_at "mem")) rfl ?_
          walk_at "v1"
          have L : Led B6 H6 [(pp, .lst (as.map V.ref)), (pq, nD P w pq xs2), (pf, .dT (fk A.2)), (pl, .frz o (nD P w pl xs))] := L.sel (.skip .all)
          walk_at "v2"
          refine NewK.of L fun pg H7 L => ?_
          walk_at "v2"
          refine ⟨⟨_, L.lstAt (xs := as.map V.ref) (by walk_at "mem")⟩, ?_⟩
          refine loop_list (xs := as.map V.ref) (fun u σ3 H' => ∃ y12 y13 y14 y15 y16 y17 B7 as2, σ3 = [some (.int (n : Int)), some (.ref pl), some (.ref pf), some (.int (tri i : Nat)), some (.int (i : Int)), some (.ref pq), some (.ref r), some (.ref s'), some (.ref pp), some (.int (v : Int)), some (.int (e : Int)), some (.ref pg), y12, y13, y14, y15, y16, y17] ∧ Same B6 B7 ∧ PtAt B7 as2 ((PS.take u).flatMap (pcell (tri i + v) e)) ∧ Led B7 H' [(pg, .lst (as2.map V.ref)), (pp, .lst (as.map V.ref)), (pq, nD P w pq xs2), (pf, .dT (fk A.2)), (pl, .frz o (nD P w pl xs))]) ⟨_, _, _, _, _, _, B6, [], rfl, Same.refl _, .nil, L⟩ (fun u σ3 H' _ h => ?_) (fun u x σ3 H' N4 hx h hN4 => ?_) (fun σ3 H' h => ?_)
          · obtain ⟨y12, y13, y14, y15, y16, y17, B7, as2, rfl, s7, hp7, L⟩ := h
            exact L.lstAt (by walk_at "mem")
          · obtain ⟨y12, y13, y14, y15, y16, y17, B7, as2, rfl, s7, hp7, L⟩ := h
            obtain ⟨c, hc, rfl⟩ := ref_at hx
            obtain ⟨p2, hp2, hcp⟩ := paired_get hps hc
            obtain ⟨r2, z2, hc2, hr2, hz2⟩ := PK.get hcp
            have hul : u < PS.length := (List.getElem?_eq_some_iff.mp hp2).1
            obtain ⟨hl0, hl1, hl2⟩ := hrl p2 (List.mem_of_getElem? hp2)
            rw [take_snoc hp2, List.flatMap_append, List.flatMap_cons, List.flatMap_nil, List.append_nil] at hN4
            have hG : ((PS.take u).flatMap (pcell (tri i + v) e)).length ≤ 1024 := by
              have h1 := flat_len (k := 32) (PS.take u) fun z _ => Nat.le_trans (pcell_len (tri i + v) e z) (Nat.pow_le_pow_right (by decide) (show e ≤ 5 by omega))
              rw [List.length_take] at h1
              have h2 : min u PS.length * 32 ≤ 32 * 32 := Nat.mul_le_mul_right _ (by omega)
              omega
            generalize (PS.take u).flatMap (pcell (tri i + v) e) = G at *
            walk_at "v1"
            refine UnpK.of (.inl (.inl ((s7.trans L.sm) _ _ hc2))) rfl ?_
            walk_at "v1"
            refine NewK.of L fun lb H8 L => ?_
            refine SlLK.of L (L.lstAt (xs := [.bl false, .bl true]) (by walk_at "mem")) fun lc H9 L => ?_
            have ecut : cutV [V.bl false, V.bl true] none (some (1 + if 0 < (e : Int) then 1 else 0)) = (lsOf e).map V.bl := by
              unfold lsOf
              by_cases c0 : 0 < e
              · rw [if_pos (by omega), if_pos c0]; rfl
              · rw [if_neg (by omega), if_neg c0]; rfl
            rw [ecut] at L
            have L : Led B7 H9 [(lc, .lst ((lsOf e).map V.bl)), (pg, .lst (as2.map V.ref)), (pp, .lst (as.map V.ref)), (pq, nD P w pq xs2), (pf, .dT (fk A.2)), (pl, .frz o (nD P w pl xs))] := L.sel (.cons .hd (.skip .all))
            refine ⟨⟨_, L.lstAt (xs := (lsOf e).map V.bl) (by walk_at "mem")⟩, ?_⟩
            refine loop_list (xs := (lsOf e).map V.bl) (fun g σ4 H' => ∃ y14 y15 y16 y17 B8 as3, σ4 = [some (.int (n : Int)), some (.ref pl), some (.ref pf), some (.int (tri i : Nat)), some (.int (i : Int)), some (.ref pq), some (.ref r), some (.ref s'), some (.ref pp), some (.int (v : Int)), some (.int (e : Int)), some (.ref pg), some (.ref r2), some (.ref z2), y14, y15, y16, y17] ∧ Same B7 B8 ∧ PtAt B8 as3 (G ++ ((lsOf e).take g).flatMap (pb (tri i + v) e p2)) ∧ Led B8 H' [(lc, .lst ((lsOf e).map V.bl)), (pg, .lst (as3.map V.ref)), (pp, .lst (as.map V.ref)), (pq, nD P w pq xs2), (pf, .dT (fk A.2)), (pl, .frz o (nD P w pl xs))]) ⟨_, _, _, _, B7, as2, rfl, Same.refl _, by rw [List.take_zero, List.flatMap_nil, List.append_nil]; exact hp7, L⟩ (fun g σ4 H' _ h => ?_) (fun g x σ4 H' N5 hx h hN5 => ?_) (fun σ4 H' h => ?_)
            · obtain ⟨y14, y15, y16, y17, B8, as3, rfl, s8, hp8, L⟩ := h
              exact L.lstAt (xs := (lsOf e).map V.bl) (by walk_at "mem")
            · obtain ⟨y14, y15, y16, y17, B8, as3, rfl, s8, hp8, L⟩ := h
              obtain ⟨b, hb, rfl⟩ : ∃ b, (lsOf e)[g]? = some b ∧ x = .bl b := by
                rw [List.getElem?_map] at hx
                cases z : (lsOf e)[g]? with
                | none => rw [z] at hx; cases hx
                | some b => rw [z] at hx; cases hx; exact ⟨b, rfl, rfl⟩
              rw [take_snoc hb, List.flatMap_append, List.flatMap_cons, List.flatMap_nil, List.append_nil, ← List.append_assoc] at hN5
              have hG2 : (G ++ ((lsOf e).take g).flatMap (pb (tri i + v) e p2)).length ≤ 2000 := by
                have h1 := flat_len (k := 32) ((lsOf e).take g) fun z _ => (show (pb (tri i + v) e p2 z).length ≤ 32 from by
                  unfold pb; rw [List.length_map]; exact Nat.le_trans (ways_len e z) (Nat.pow_le_pow_right (by decide) (show e ≤ 5 by omega)))
                have h2 : ((lsOf e).take g).length ≤ 2 := by
                  rw [List.length_take]
                  unfold lsOf
                  split
                  · show min g 2 ≤ 2; omega
                  · show min g 1 ≤ 2; omega
                rw [List.length_append]
                omega
              generalize G ++ ((lsOf e).take g).flatMap (pb (tri i + v) e p2) = G2 at *
              walk_at "v1"
              refine ⟨e, b, rfl, by omega, fun pw H10 B9 ps s9 hps9 L9 => ?_⟩
              walk_at "v1"
              obtain ⟨B10, s10, L, k10⟩ := L.over s9 L9
              have hps9 : PrsAt B10 ps (ways e b) := Paired.mapP hps9 fun c x z => k10 _ _ z (by intro e he; simp only [List.mem_cons, List.not_mem_nil, or_false] at he; rcases he with rfl | rfl | rfl | rfl | rfl | rfl <;> (try (cases xs2 <;> (intro z; cases z))) <;> (intro z; cases z))
              have L : Led B10 H10 [(pw, .lst (ps.map V.ref)), (lc, .lst ((lsOf e).map V.bl)), (pg, .lst (as3.map V.ref)), (pp, .lst (as.map V.ref)), (pq, nD P w pq xs2), (pf, .dT (fk A.2)), (pl, .frz o (nD P w pl xs))] := L
              refine ⟨⟨_, L.lstAt (xs := ps.map V.ref) (by walk_at "mem")⟩, ?_⟩
              refine loop_list (xs := ps.map V.ref) (fun h σ5 H' => ∃ y15 y16 y17 B11 as4, σ5 = [some (.int (n : Int)), some (.ref pl), some (.ref pf), some (.int (tri i : Nat)), some (.int (i : Int)), some (.ref pq), some (.ref r), some (.ref s'), some (.ref pp), some (.int (v : Int)), some (.int (e : Int)), some (.ref pg), some (.ref r2), some (.ref z2), some (.bl b), y15, y16, y17] ∧ Same B10 B11 ∧ PtAt B11 as4 (G2 ++ ((ways e b).take h).map fun rd => (p2.1 ++ (if b = true then [tri i + v] else []), ext p2.2 rd.1 rd.2)) ∧ Led B11 H' [(pw, .lst (ps.map V.ref)), (lc, .lst ((lsOf e).map V.bl)), (pg, .lst (as4.map V.ref)), (pp, .lst (as.map V.ref)), (pq, nD P w pq xs2), (pf, .dT (fk A.2)), (pl, .frz o (nD P w pl xs))]) ⟨_, _, _, B10, as3, rfl, Same.refl _, by rw [List.take_zero, List.map_nil, List.append_nil]; exact hp8.mono s10, L⟩ (fun h σ5 H' _ hh => ?_) (fun h x σ5 H' N6 hx hh hN6 => ?_) (fun σ5 H' hh => ?_)
              · obtain ⟨y15, y16, y17, B11, as4, rfl, s11, hp11, L⟩ := hh
                exact L.lstAt (xs := ps.map V.ref) (by walk_at "mem")
              · obtain ⟨y15, y16, y17, B11, as4, rfl, s11, hp11, L⟩ := hh
                obtain ⟨c3, hc3, rfl⟩ := ref_at hx
                obtain ⟨⟨r0, d0⟩, hrd, hcp3⟩ := paired_get hps9 hc3
                have hcp3 : B10 c3 = some (.tup [.int r0, .int d0]) := hcp3
                rw [take_snoc hrd, List.map_append, ← List.append_assoc] at hN6
                have hhl : h < (ways e b).length := (List.getElem?_eq_some_iff.mp hrd).1
                have hwl : (ways e b).length ≤ 32 := Nat.le_trans (ways_len e b) (Nat.pow_le_pow_right (by decide) (show e ≤ 5 by omega))
                have ha4 : as4.length ≤ 3000 := by rw [Paired.length hp11, List.length_append, List.length_map, List.length_take]; omega
                walk_at "v1"
                refine UnpK.of (.inl (.inl ((s11.trans L.sm) _ _ hcp3))) rfl ?_
                walk_at "v1"
                walk_at "v2"
                refine NewK.of L fun tf H11 L => ?_
                rw [show ((tri i : Nat) : Int) + (v : Int) = ((tri i + v : Nat) : Int) by omega] at L
                obtain ⟨B12, s12, htf, L⟩ := L.sink
                have sW : Same B6 B12 := s7.trans (s8.trans (s10.trans (s11.trans s12)))
                refine RepBK.of L htf fun tm B13 H12 s13 htm L => ?_
                · have htm : B13 tm = some (.tup (nv (if b = true then [tri i + v] else []))) := by rw [htm]; cases b <;> rfl
                  have hil : (if b = true then [tri i + v] else []).length ≤ 1 := by split <;> simp
                  refine CatTK.of L ((sW.trans s13) _ _ hr2) htm (Nat.le_trans (m := 100) (by rw [nv_len, nv_len]; omega) (by decide)) fun r3 B14 H13 s14 h14 L => ?_
                  rw [← nv_cat] at h14
                  refine ⟨tyL (L.lstAt (xs := as4.map V.ref) (by walk_at "mem")), ?_⟩
                  have hz14 : B14 z2 = some (.tup (nv p2.2)) := (sW.trans (s13.trans s14)) _ _ hz2
                  refine SlTK.of L hz14 fun sl B15 H14 s15 hsl L => ?_
                  rw [nv_split hl0, cut_last] at hsl
                  refine IxTK.of (.inl (.inl ((s15.trans L.sm) _ _ hz14))) (i := -1) (v := .int (p2.2.getLastD 0 : Nat)) (by rw [nv_split (a := p2.2) hl0]; exact atI_last _ _) ?_
                  walk_at "v1"
                  refine NewK.of L fun t5 H15 L => ?_
                  obtain ⟨B16, s16, h16, L⟩ := L.sink
                  refine CatTK.of L (s16 _ _ hsl) h16 (Nat.le_trans (m := 200) (by rw [nv_len, List.length_dropLast]; simp; omega) (by decide)) fun r4 B17 H16 s17 h17 L => ?_
                  refine NewK.of L fun t6 H17 L => ?_
                  obtain ⟨B18, s18, h18, L⟩ := L.sink
                  refine AppK.of L (xs := as4.map V.ref) (by walk_at "mem") (Nat.lt_of_le_of_lt (m := 70000) (by rw [List.length_map]; omega) (by decide)) (by walk_at "put") fun H18 L => ?_
                  rw [show as4.map V.ref ++ [V.ref t6] = (as4 ++ [t6]).map V.ref by rw [List.map_append]; rfl] at L
                  have s12_18 : Same B11 B18 := s12.trans (s13.trans (s14.trans (s15.trans (s16.trans (s17.trans s18)))))
                  refine hN6 _ _ ⟨_, _, _, B18, as4 ++ [t6], rfl, s11.trans s12_18, ?_, L⟩
                  refine Paired.snoc (PtAt.mono s12_18 hp11) (PK.of h18 ((s15.trans (s16.trans (s17.trans s18))) _ _ h14) ?_)
                  rw [s18 _ _ h17]
                  show _ = some (HO.tup (nv (ext p2.2 r0 d0)))
                  unfold ext
                  rw [show p2.2.dropLast ++ [p2.2.getLastD 0 + d0, r0] = (p2.2.dropLast ++ [p2.2.getLastD 0 + d0]) ++ [r0] by simp, nv_app, nv_app, List.append_assoc]
                  rfl
              · obtain ⟨y15, y16, y17, B11, as4, rfl, s11, hp11, L⟩ := hh
                rw [List.length_map, Paired.length hps9, List.take_length] at hp11
                exact hN5 _ _ ⟨_, _, _, _, B11, as4, rfl, s8.trans (s10.trans s11), hp11, L.sel (.skip .all)⟩
            · obtain ⟨y14, y15, y16, y17, B8, as3, rfl, s8, hp8, L⟩ := h
              rw [List.length_map, List.take_length] at hp8
              exact hN4 _ _ ⟨_, _, _, _, _, _, B8, as3, rfl, s7.trans s8, hp8, L.sel (.skip .all)⟩
          · obtain ⟨y12, y13, y14, y15, y16, y17, B7, as2, rfl, s7, hp7, L⟩ := h
            rw [List.length_map, Paired.length hps, List.take_length] at hp7
            walk_at "vc"
            exact hN3 _ _ ⟨_, _, _, _, _, _, _, _, _, _, B7, as2, rfl, s6.trans s7, hp7, L.sel (.cons .hd (.skip .all))⟩
        · obtain ⟨pp, y9, y10, y11, y12, y13, y14, y15, y16, y17, B6, as, rfl, s6, hps, L⟩ := h
          rw [nv_len, List.take_length] at hps
          walk_at "vc"
          refine ⟨⟨_, L.lstAt (xs := as.map V.ref) (by walk_at "mem")⟩, ?_⟩
          have hpl := pgo_len p.2 (tri i) [(p.1, [0])]
          have hp5 : 2 ^ p.2.sum ≤ 2 ^ 5 := Nat.pow_le_pow_right (by decide) (by omega)
          rw [List.length_singleton, Nat.one_mul] at hpl
          have hpl : (pgo (tri i) p.2 [(p.1, [0])]).length ≤ 32 := Nat.le_trans hpl hp5
          have hsx : ∀ z ∈ pgo (tri i) p.2 [(p.1, [0])], Sent n (i + 1) z.1 z.2 := fun z hz => (pgo_nxt.mp hz).sent hsent
          have hN2 : ∀ σ2 H2, _ := hN2
          have hstS : ([p] : List Part).foldl (stState (tri i)) A = (pgo (tri i) p.2 [(p.1, [0])]).foldl endPut A := rfl
          rw [hstS] at hN2
          generalize pgo (tri i) p.2 [(p.1, [0])] = PS at *
          refine loop_list (xs := as.map V.ref) (fun g σ3 H' => ∃ y12 y13 y14 y15 y16 y17 B7 xs3, σ3 = [some (.int (n : Int)), some (.ref pl), some (.ref pf), some (.int (tri i : Nat)), some (.int (i : Int)), some (.ref pq), some (.ref r), some (.ref s'), some (.ref pp), y9, y10, y11, y12, y13, y14, y15, y16, y17] ∧ Same B6 B7 ∧ NsAt B7 xs3 ((PS.take g).foldl endPut A).1 ∧ GoodA n (32 * j + g) ((PS.take g).foldl endPut A) ∧ Led B7 H' [(pp, .lst (as.map V.ref)), (pq, nD P w pq xs3), (pf, .dT (fk ((PS.take g).foldl endPut A).2)), (pl, .frz o (nD P w pl xs))]) ⟨_, _, _, _, _, _, B6, xs2, rfl, Same.refl _, hxs2.mono (s4.trans (s5.trans s6)), hga, L⟩ (fun g σ3 H' _ h => ?_) (fun g x σ3 H' N3 hx h hN3 => ?_) (fun σ3 H' h => ?_)
          · obtain ⟨y12, y13, y14, y15, y16, y17, B7, xs3, rfl, s7, hx3, hg3, L⟩ := h
            exact L.lstAt (xs := as.map V.ref) (by walk_at "mem")
          · obtain ⟨y12, y13, y14, y15, y16, y17, B7, xs3, rfl, s7, hx3, hg3, L⟩ := h
            obtain ⟨c, hc, rfl⟩ := ref_at hx
            obtain ⟨x, hx2, hcp⟩ := paired_get hps hc
            obtain ⟨r5, z5, hc5, hr5, hz5⟩ := PK.get hcp
            have hgl : g < PS.length := (List.getElem?_eq_some_iff.mp hx2).1
            have hsn := hsx x (List.mem_of_getElem? hx2)
            rw [take_snoc hx2, List.foldl_append] at hN3
            have hN3 : ∀ σ2 H2, _ := hN3
            have hE : ∀ a : LF, ([x] : List Part).foldl endPut a = endPut a x := fun a => rfl
            rw [hE] at hN3
            generalize (PS.take g).foldl endPut A = A2 at *
            obtain ⟨hnd, hps2, hl2⟩ := hg3
            have hfew := poss_few h5 hnd hps2
            walk_at "v1"
            refine UnpK.of (.inl (.inl ((s7.trans L.sm) _ _ hc5))) rfl ?_
            walk_at "v1"
            refine ⟨zs x.2, by rw [zs_nv]; exact .inl (.inl ((s7.trans L.sm) _ _ hz5)), ?_⟩
            dsimp only
            rw [show (zs x.2).sum = ((x.2.sum : Nat) : Int) from sum_cast x.2]
            by_cases c0 : x.2.sum = 0
            · rw [if_pos (by omega)]
              have hEP : endPut A2 x = (A2.1, putF A2.2 x.1) := if_pos c0
              rw [hEP] at hN3
              refine DPutK.t (k := rk x.1) L (by walk_at "mem") (by rw [rk_kV]; exact (s7.trans L.sm) _ _ hr5) (Nat.lt_of_le_of_lt (m := 32768) (by unfold fk; rw [List.length_map]; exact hfew) (by decide)) (by walk_at "put") fun H8 L => ?_
              rw [fk_put] at L
              refine hN3 _ _ ⟨_, _, _, _, _, _, B7, xs3, rfl, s7, hx3, ⟨putF_nodup hnd, fun ms hm => ?_, by dsimp only; omega⟩, L⟩
              rcases putF_mem.mp hm with hm | rfl
              · exact hps2 ms hm
              · exact hsn.done (by omega) c0
            · rw [if_neg (by omega)]
              have hEP : endPut A2 x = (putP A2.1 x, A2.2) := if_neg c0
              rw [hEP] at hN3
              have hmore := hsn.more (by omega)
              have hjb : 32 * j + g ≤ 2000000 := by
                have h1 : 32 ^ i ≤ 32 ^ 3 := Nat.pow_le_pow_right (by decide) (by omega)
                have h2 : (32 : Nat) ^ 3 = 32768 := rfl
                omega
              refine NewK.of L fun t7 H8 L => ?_
              obtain ⟨B8, s8, ht7, L⟩ := L.sink
              have hpk : PK B8 t7 (toNK x) := PK.of ht7 ((s7.trans s8) _ _ hr5) ((s7.trans s8) _ _ hz5)
              refine NPutK.of (k := toNK x) L (by walk_at "mem") (hx3.mono s8).all hpk (Nat.lt_of_le_of_lt (m := 3000000) (by rw [Paired.length hx3]; omega) (by decide)) (by walk_at "put") fun H9 L => ?_
              refine hN3 _ _ ⟨_, _, _, _, _, _, B8, _, rfl, s7.trans s8, (hx3.mono s8).put hpk, ⟨hnd, hps2, ?_⟩, L⟩
              have := putP_len A2.1 x
              dsimp only
              omega
          · obtain ⟨y12, y13, y14, y15, y16, y17, B7, xs3, rfl, s7, hx3, hg3, L⟩ := h
            rw [List.length_map, Paired.length hps, List.take_length] at hx3 hg3 L
            walk_at "vc"
            refine hN2 _ _ ⟨_, _, _, _, _, _, _, _, _, _, _, _, B7, xs3, rfl, s35.trans (s6.trans s7), hx3, ?_, L.sel (.skip .all)⟩
            exact ⟨hg3.1, hg3.2.1, by have := hg3.2.2; omega⟩
      · obtain ⟨y6, y7, y8, y9, y10, y11, y12, y13, y14, y15, y16, y17, B3, xs2, rfl, s3, hxs2, hga, L⟩ := h
        walk_at "vc"
        rw [Paired.length hxs, List.take_length] at hxs2 hga L
        rw [show ((tri i : Nat) : Int) + (i : Int) + 1 = ((tri (i + 1) : Nat) : Int) by rw [tri_succ]; omega]
        exact hN _ _ ⟨_, _, _, _, _, _, _, _, _, _, _, _, _, _, pq, pf, xs2, B3, rfl, s0.trans s3, hxs2, L.sel (.cons (.tl .hd) (.cons .hd .nil))⟩
    · obtain ⟨y4, y5, y6, y7, y8, y9, y10, y11, y12, y13, y14, y15, y16, y17, pl, pf, xs, B0, rfl, s0, hxs, L⟩ := h
      rw [Int.toNat_natCast] at hxs L
      have hg0 := (allAt_ok (n := n) h1 n).good (Nat.le_refl n)
      generalize (allAt n n).2 = F at *
      walk_at "vc"
      refine ⟨fk F, F.map zs, .inl (L.at (by walk_at "mem")), ?_, ?_, fun bs hb => ?_⟩
      · unfold fk
        rw [List.map_map, List.map_map]
        refine List.map_congr_left fun ms _ => ?_
        show rk ms = (zs ms).map Sum.inl
        unfold rk zs
        rw [List.map_map]
        rfl
      · intro ns hns z
        obtain ⟨ms, hms, rfl⟩ := List.mem_map.mp hns
        have := (hg0.2 ms hms).len
        have h3 : ms = [] := zs_inj z
        rw [h3] at this
        simp at this
        omega
      · obtain ⟨ls, els⟩ : ∃ ls : List (List Nat), srt (F.map zs) = ls.map zs := by
          have hp : (srt (F.map zs)).Perm (F.map zs) := List.mergeSort_perm _ _
          refine ⟨(srt (F.map zs)).map fun l => l.map Int.toNat, ?_⟩
          rw [List.map_map]
          refine (List.map_id _).symm.trans (List.map_congr_left fun l hl => ?_)
          obtain ⟨ms, _, rfl⟩ := List.mem_map.mp (hp.mem_iff.mp hl)
          show zs ms = zs ((zs ms).map Int.toNat)
          congr 1
          unfold zs
          rw [List.map_map]
          exact (List.map_id ms).symm
        rw [els] at hb
        obtain ⟨B1', s1', hb, L⟩ := Led.grabR (by intro e he ys; simp only [List.mem_cons, List.not_mem_nil, or_false] at he; rcases he with rfl | rfl <;> (try (cases xs <;> (intro z; cases z))) <;> (intro z; cases z)) hb L
        refine NewK.of L fun pz H2 L => ?_
        refine ⟨⟨_, L.lstAt (xs := bs.map V.ref) (by walk_at "mem")⟩, ?_⟩
        have hbl : bs.length = ls.length := by have := Paired.length hb; rw [List.length_map] at this; exact this
        refine comp_list (xs := bs.map V.ref) (fun j z acc H3 => ∃ B4 as, Same B1' B4 ∧ acc = as.map V.ref ∧ Paired (fun a l => B4 a = some (.lst (nv l))) as (ls.take j) ∧ Led B4 H3 [(z, .lst acc), (pz, .lst (bs.map V.ref)), (pf, .dT (fk F)), (pl, nD P w pl xs)]) (fun z hz => ⟨B1', [], Same.refl _, rfl, .nil, L.new hz⟩) (fun j z acc H3 h => ?_) ?_ ?_
        · obtain ⟨B4, as, s4, rfl, has, L⟩ := h
          exact L.lstAt (xs := bs.map V.ref) (by walk_at "mem")
        · rintro z acc H3 ⟨B4, as, s4, rfl, has, L⟩
          rw [List.length_map, hbl, List.take_length] at has
          exact q z as B4 H3 ls (s0.trans (s1'.trans s4)) has els (L.sel (.cons .hd .nil))
        · rintro j z acc H3 x N hx ⟨B4, as, s4, rfl, has, L⟩ hN
          obtain ⟨c, hc, rfl⟩ := ref_at hx
          obtain ⟨ns, hns, hcn⟩ := paired_get hb hc
          obtain ⟨l, hl, rfl⟩ : ∃ l, ls[j]? = some l ∧ ns = zs l := by
            rw [List.getElem?_map] at hns
            cases z2 : ls[j]? with
            | none => rw [z2] at hns; cases hns
            | some l => rw [z2] at hns; cases hns; exact ⟨l, rfl, rfl⟩
          have hcn : B1' c = some (.tup ((zs l).map V.int)) := hcn
          rw [zs_nv] at hcn
          rw [take_snoc hl] at hN
          have hjl : j < ls.length := (List.getElem?_eq_some_iff.mp hl).1
          have hl3 : ls.length ≤ 32768 := by
            have h1 := congrArg List.length els
            rw [srt_len, List.length_map, List.length_map] at h1
            have := poss_few h5 hg0.1 hg0.2
            omega
          unfold TurnK
          walk_at "v1"
          refine ⟨nv l, .inr (.inl (.inl ((s4.trans L.sm) _ _ hcn))), NewK.of L fun t H4 L => ?_⟩
          obtain ⟨B5, s5, ht, L⟩ := L.sink
          have hal : as.length ≤ 32768 := by rw [Paired.length has, List.length_take]; omega
          refine AppK.of L (xs := as.map V.ref) (by walk_at "mem") (Nat.lt_of_le_of_lt (m := 40000) (by rw [List.length_map]; omega) (by decide)) (by walk_at "put") fun H5 L => ?_
          rw [show as.map V.ref ++ [V.ref t] = (as ++ [t]).map V.ref by rw [List.map_append]; rfl] at L
          exact hN _ _ ⟨B5, as ++ [t], s4.trans s5, rfl, Paired.snoc (Paired.mapP has fun _ _ z => s5 _ _ z) ht, L⟩
/-! cut law_pot -/
def sp_law_pot (K : PySem.W.Frag) : Sp := fun vs H Q _ => ∃ (a : Addr) (ns : List Int) (k : Int), vs = [.ref a, .int k] ∧ SqL K H a (ns.map V.int) ∧ 0 ≤ k ∧ k < 1000 ∧ ∀ p H', Urn H H' p [] 0 → Q (.ref p) H'
theorem ok_law_pot (m : Mo K mg d) (sm : SM bs) : Fg P w K mg bs CX0 1 d.a_law_pot d.fd_law_pot ["script", "k"] (sp_law_pot K) := by
  refine ok (n := 0) m.F_law_pot sc_law_pot (fun vs H Q E h => ?_) (fun cdv A fr s H vs Q E hg hr h => ?_)
  · obtain ⟨a, ns, k, rfl, hS, h0, h1, q⟩ := h
    rfl
  · obtain ⟨a, ns, k, rfl, hS, h0, h1, q⟩ := h
    refine ⟨_, (pss_cons (ps_asg pe_int (pg_name (i := 2) sc_law_pot.nd rfl (.inl rfl)))
      (pss_cons (ps_if (pt_cmpR op_lt (pv 1) (pe_callB cr_len (by rfl) m.n_len (by decide +kernel) (pa_cons (pv 0) pa_nil)) (nomark _))
      (pss_one (ps_asg (pe_ix ix_list (pv 0) (pv 1) (fun _ _ => rfl)) (pg_name (i := 2) sc_law_pot.nd rfl (.inl rfl))))
      pss_nil)
      (pss_one (ps_ret (pe_lst (pa_cons (pe_callB (cr_max2 rfl) (by rfl) m.n_max (by decide +kernel) (pa_cons pe_int (pa_cons (pe_op op_sub (pv 2) (pe_op op_pow pe_int pe_int)) pa_nil))) (pa_cons (pe_op op_add (pe_op op_mod (pv 2) (pe_op op_add (pe_op op_pow pe_int pe_int) pe_int)) (pe_op op_mul pe_int (pv 1))) (pa_cons pe_int pa_nil)))))))), ?_⟩
    walk_at "vc"
    refine LenK.ofL hS ?_
    walk_at "vc"
    split
    · obtain ⟨n, _, hn⟩ := atI_map h0 ‹_›
      refine IxLK.of hS hn ?_
      walk_at "vc"
      walk_at "sds"
      exact NewK.of (Led.nil H) fun p H1 L => q p H1 ⟨_, _, _, L, by omega, by omega, by omega, by omega, by omega⟩
    · walk_at "sds"
      exact NewK.of (Led.nil H) fun p H1 L => q p H1 ⟨_, _, _, L, by omega, by omega, by omega, by omega, by omega⟩
/-! cut law_take -/
def sp_law_take (K : PySem.W.Frag) : Sp := fun vs H Q _ => ∃ (B : Hp) (u : Addr) (l : List (Addr × HO)) (c : Nat) (n : Int), vs = [.ref u, .int n] ∧ Urn B H u l c ∧ c < 1000000 ∧ 0 < n ∧ n < 1073741824 ∧
  ∀ H' r, Urn B H' u l (c + 1) → 0 ≤ r → r < n → Q (.int r) H'
theorem take_go {K : PySem.W.Frag} {B H : Hp} {u : Addr} {l : List (Addr × HO)} {c : Nat} {n : Int} {Q : VK} {E : XK} (U : Urn B H u l c) (hc : c < 1000000) (h0 : 0 < n) (h1 : n < 1073741824) (k : ∀ H' r, Urn B H' u l (c + 1) → 0 ≤ r → r < n → Q (.int r) H') : sp_law_take K [.ref u, .int n] H Q E :=
  ⟨B, u, l, c, n, rfl, U, hc, h0, h1, k⟩
theorem ok_law_take (m : Mo K mg d) (sm : SM bs) : Fg P w K mg bs CX0 1 d.a_law_take d.fd_law_take ["pot", "many"] (sp_law_take K) := by
  refine ok (n := 0) m.F_law_take sc_law_take (fun vs H Q E h => ?_) (fun cdv A fr s H vs Q E hg hr h => ?_)
  · obtain ⟨B, u, l, c, n, rfl, ⟨x, y, z, L, hx, hy, hy2, hz, hz2⟩, hc, hn, hn2, q⟩ := h
    rfl
  · obtain ⟨B, u, l, c, n, rfl, ⟨x, y, z, L, hx, hy, hy2, hz, hz2⟩, hc, hn, hn2, q⟩ := h
    refine ⟨_, (pss_cons (ps_if (pt_cmpR op_gt (pe_ix ix_list (pv 0) pe_int (fun _ _ => rfl)) pe_int (nomark _))
      (pss_cons (ps_asg (pe_op op_mod (pe_ix ix_list (pv 0) pe_int (fun _ _ => rfl)) (pv 1)) (pg_name (i := 2) sc_law_take.nd rfl (.inl rfl)))
      (pss_cons (ps_asg (pe_op op_fdiv (pe_ix ix_list (pv 0) pe_int (fun _ _ => rfl)) (pv 1)) (pg_sub (pv 0) pe_int set_list))
      (pss_one (ps_ret (pv 2)))))
      pss_nil)
      (pss_cons (ps_asg (pe_op op_add (pe_ix ix_list (pv 0) pe_int (fun _ _ => rfl)) pe_int) (pg_sub (pv 0) pe_int set_list))
      (pss_cons (ps_asg (pe_op op_mod (pe_op op_powW (pe_op op_add (pe_ix ix_list (pv 0) pe_int (fun _ _ => rfl)) (pe_op op_mul pe_int (pe_ix ix_list (pv 0) pe_int (fun _ _ => rfl)))) pe_int) (pe_op op_add (pe_op op_pow pe_int pe_int) pe_int)) (pg_name (i := 3) sc_law_take.nd rfl (.inl rfl)))
      (pss_cons (ps_asg (pe_op op_mod (pe_op op_powW (pe_op op_add (pv 3) (pe_op op_mul pe_int (pe_ix ix_list (pv 0) pe_int (fun _ _ => rfl)))) pe_int) (pe_op op_add (pe_op op_pow pe_int pe_int) pe_int)) (pg_name (i := 3) sc_law_take.nd rfl (.inl rfl)))
      (pss_one (ps_ret (pe_op op_mod (pe_op op_fdiv (pv 3) pe_int) (pv 1)))))))), ?_⟩
    walk_at "vc"
    refine IxLK.of (L.lstAt (by walk_at "mem")) rfl ?_
    walk_at "vc"
    split
    · refine IxLK.of (L.lstAt (by walk_at "mem")) rfl ?_
      walk_at "vc"
      refine ⟨hn, IxLK.of (L.lstAt (by walk_at "mem")) rfl ?_⟩
      walk_at "vc"
      refine ⟨by first | exact ⟨hn, hn2⟩ | exact div_w (n := 200) (by decide) hn (by omega) (by decide), SetK.of (j := 0) L (by walk_at "mem") rfl (by walk_at "put") fun H1 L1 => ?_⟩
      exact q _ _ ⟨_, _, _, L1, Int.ediv_nonneg hx (by omega), hy, hy2, hz, by omega⟩ (Int.emod_nonneg _ (by omega)) (Int.emod_lt_of_pos _ hn)
    · refine IxLK.of (L.lstAt (by walk_at "mem")) rfl ?_
      walk_at "vc"
      refine SetK.of (j := 2) L (by walk_at "mem") rfl (by walk_at "put") fun H1 L1 => ?_
      refine IxLK.of (L1.lstAt (by walk_at "mem")) rfl ?_
      refine IxLK.of (L1.lstAt (by walk_at "mem")) rfl ?_
      walk_at "vc"
      walk_at "sds"
      refine ⟨(pow_bits (n := 151) (m := 3) (by decide) (by omega) (by omega) (by decide)).2, ?_⟩
      have w0 := Int.emod_nonneg ((y + 5527939700884757 * (z + 1)) ^ 3) (show (100000000000000000000000000000000000000037 : Int) ≠ 0 by decide)
      have w1 := Int.emod_lt_of_pos ((y + 5527939700884757 * (z + 1)) ^ 3) (show (0 : Int) < 100000000000000000000000000000000000000037 by decide)
      generalize (y + 5527939700884757 * (z + 1)) ^ 3 % 100000000000000000000000000000000000000037 = a at *
      walk_at "sds"
      refine IxLK.of (L1.lstAt (by walk_at "mem")) rfl ?_
      walk_at "vc"
      walk_at "sds"
      refine ⟨(pow_bits (n := 151) (m := 3) (by decide) (by omega) (by omega) (by decide)).2, ?_⟩
      walk_at "sds"
      exact q _ _ ⟨_, _, _, L1, hx, hy, hy2, by omega, by omega⟩ (Int.emod_nonneg _ (by omega)) (Int.emod_lt_of_pos _ hn)
/-! cut law_one_right -/
theorem RowsN.mono {B B' : Hp} (s : Same B B') {as : List Addr} {ls : List (List Nat)} (h : RowsN B as ls) : RowsN B' as ls := Paired.mapP h fun _ _ z => s _ _ z
theorem RepK.toQ {K : PySem.W.Frag} {x : V} {H : Hp} {G : Str → Prop} (h : RepK K x H G) : RepQ K x H G := by
  obtain ⟨d, h1, h2, h3⟩ := h
  exact ⟨d, Dq.of h1, h2.q, h3⟩
def sp_law_one_right (K : PySem.W.Frag) (d : Ad) : Sp := fun vs H Q _ => ∃ (p : Addr) (as : List Addr) (n i : Nat) (ls : List (List Nat)), vs = [.ref p, .int n, .int i] ∧ SqL K H p (as.map V.ref) ∧ RowsN H as ls ∧ PL n ls ∧ 1 ≤ n ∧ n ≤ 5 ∧ i < ls.length ∧ ∀ H', Same H H' → Q (.bl true) H'
theorem ok_law_one_right (m : Mo K mg d) (sm : SM bs) (G_nth_set : FnOk P w K mg bs CX0 7 d.a_nth_set d.fd_nth_set ["count", "number"] (sp_nth_set K d)) (G_set_number : FnOk P w K mg bs CX0 8 d.a_set_number d.fd_set_number ["names"] (sp_set_number K d)) : Fg P w K mg bs CX0 9 d.a_law_one_right d.fd_law_one_right ["every", "count", "number"] (sp_law_one_right K d) := by
  refine ok (n := 8) m.F_law_one_right sc_law_one_right (fun vs H Q E h => ?_) (fun cdv A fr s H vs Q E hg hr h => ?_)
  · obtain ⟨p, as, n, i, ls, rfl, hS, hR, hP, h1, h5, hi, q⟩ := h
    rfl
  · obtain ⟨p, as, n, i, ls, rfl, hS, hR, hP, h1, h5, hi, q⟩ := h
    refine ⟨_, (pss_cons (ps_for PassesOwn.never rfl (pi_range1 (by rfl) m.n_range (pa_cons pe_int pa_nil)) (pg_name (i := 3) sc_law_one_right.nd rfl (.inl rfl))
      (pss_cons (ps_asg (pe_call G_nth_set (hr.mono (by decide)) (by rfl) m.g_nth_set m.F_nth_set.kp m.b_nth_set .nil pass0 (pa_cons (pv 1) (pa_cons (pv 2) pa_nil))) (pg_name (i := 4) sc_law_one_right.nd rfl (.inl rfl)))
      (pss_cons (ps_if (pt_cmpR op_ne (pe_callB (call_reprQ hg hr sm) (by rfl) m.n_repr (by decide +kernel) (pa_cons (pv 4) pa_nil)) (pe_callB (call_reprQ hg hr sm) (by rfl) m.n_repr (by decide +kernel) (pa_cons (pe_ix ix_list (pv 0) (pv 2) (fun _ _ => rfl)) pa_nil)) (nomark _))
      (pss_one (ps_ret pe_bl))
      pss_nil)
      (pss_cons (ps_asg (pe_callB (call_reprQ hg hr sm) (by rfl) m.n_repr (by decide +kernel) (pa_cons (pv 4) pa_nil)) (pg_name (i := 5) sc_law_one_right.nd rfl (.inl rfl)))
      (pss_cons (ps_if (PW.pt (pw_or (pt_cmpR op_ne (pe_callB (call_reprQ hg hr sm) (by rfl) m.n_repr (by decide +kernel) (pa_cons (pe_call G_set_number (hr.mono (by decide)) (by rfl) m.g_set_number m.F_set_number.kp m.b_set_number .nil pass0 (pa_cons (pv 4) pa_nil)) pa_nil)) (pe_callB (call_reprQ hg hr sm) (by rfl) m.n_repr (by decide +kernel) (pa_cons (pv 2) pa_nil)) (nomark _)) (pw_or1 (pt_cmpR op_ne (pe_callB (call_reprQ hg hr sm) (by rfl) m.n_repr (by decide +kernel) (pa_cons (pv 4) pa_nil)) (pv 5) (nomark _)))))
      (pss_one (ps_ret pe_bl))
      pss_nil)
      (pss_one (ps_expr (pe_bm PySem.F.plainAttrs_list PySem.F.slot_list_append PySem.F.type_list_append mt_append (pv 4) (pa_cons pe_str pa_nil)))))))))
      (pss_one (ps_ret pe_bl))), ?_⟩
    obtain ⟨l, hl⟩ : ∃ l, ls[i]? = some l := ⟨_, List.getElem?_eq_getElem hi⟩
    have hp := (hP.mem h1 l).mp (List.mem_of_getElem? hl)
    have hias : i < as.length := by rw [Paired.length hR]; exact hi
    obtain ⟨b, hb⟩ : ∃ b, as[i]? = some b := ⟨_, List.getElem?_eq_getElem hias⟩
    obtain ⟨l2, hl2, hbl⟩ := paired_get hR hb
    obtain rfl : l2 = l := Option.some.inj (hl2.symm.trans hl)
    have hsm : ∀ x ∈ l2, x < 2 ^ 140 := fun x hx => Nat.lt_of_lt_of_le (hp.lt x hx) (Nat.le_trans (tri_mono h5) (by decide))
    have hlen : l2.length ≤ 100 := by have := hp.len; omega
    walk_at "v2"
    refine ⟨by omega, by omega, ?_⟩
    refine loop_range (fun j σ H' => ∃ y3 y4 y5, σ = [some (.ref p), some (.int (n : Int)), some (.int (i : Int)), y3, y4, y5] ∧ Same H H') ⟨_, _, _, rfl, Same.refl _⟩ (fun j σ H' N hj h hN => ?_) (fun σ H' h => ?_)
    · obtain ⟨y3, y4, y5, rfl, s0⟩ := h
      walk_at "v1"
      walk_at "v2"
      refine ⟨n, i, ls, l2, rfl, h1, h5, hP, hl, fun t B1 H1 s1 L => ?_⟩
      have sT : ∀ {H2 : Hp} {G : Str → Prop}, Led B1 H2 [(t, .lst (nv l2))] → G (PyData.list (l2.map fun (p : Nat) => .int (p : Int))).shown → RepQ K (.ref t) H2 G := fun L q => rep_nvB (L.lstAt (.head _)) hsm hlen q
      have hl6 : ls.length ≤ 32768 := by rw [hP.perm.length_eq]; exact poss_few h5 ((allAt_ok (n := n) h1 n).good (Nat.le_refl n)).1 ((allAt_ok (n := n) h1 n).good (Nat.le_refl n)).2
      have sI : ∀ {H2 : Hp} {G : Str → Prop}, G (PyData.int (i : Int)).shown → RepQ K (.int (i : Int)) H2 G := fun q => RepK.toQ (RepK.int 64 (by rw [Int.natAbs_natCast]; exact Nat.lt_of_lt_of_le hi (Nat.le_trans hl6 (by decide))) q)
      walk_at "v2"
      have s01 := s0.trans s1
      refine sT L ?_
      refine IxLK.of ((s01.trans L.sm).seq hS) (v := .ref b) (atI_nat' (by rw [List.getElem?_map, hb]; rfl)) ?_
      refine rep_nvB (.inl (.inl ((s01.trans L.sm) _ _ hbl))) hsm hlen ?_
      rw [decide_eq_true rfl]
      rw [if_neg (by decide)]
      walk_at "v2"
      refine sT L ?_
      walk_at "v2"
      refine ⟨t, l2, n, i, ls, rfl, L.lstAt (.head _), h1, h5, hP, hl, fun H2 s2 => ?_⟩
      have L := L.same s2
      refine sI ?_
      refine sI ?_
      rw [decide_eq_true rfl]
      rw [if_neg (by decide)]
      refine sT L ?_
      rw [decide_eq_true rfl]
      rw [if_neg (by decide)]
      refine ⟨tyL (L.lstAt (.head _)), ?_⟩
      refine AppK.of L (xs := nv l2) (by walk_at "mem") (Nat.lt_of_le_of_lt (m := 100) (by rw [nv_len]; exact hlen) (by decide)) (by walk_at "put") fun H3 L => ?_
      exact hN _ _ ⟨_, _, _, rfl, s01.trans L.sm⟩
    · obtain ⟨y3, y4, y5, rfl, s0⟩ := h
      walk_at "vc"
      exact q _ s0
/-! cut law -/
def dd2 : List Nat → PyData := fun l => PyData.list (l.map fun (p : Nat) => .int (p : Int))
def goPL (lss : List (List (List Nat))) : Prop := ∀ i ls, lss[i]? = some ls → PL (i + 1) ls
theorem pl_few {n : Nat} (h1 : 0 < n) (h5 : n ≤ 5) {ls : List (List Nat)} (h : PL n ls) : ls.length ≤ 32768 := by
  rw [h.perm.length_eq]; exact poss_few h5 ((allAt_ok (n := n) h1 n).good (Nat.le_refl n)).1 ((allAt_ok (n := n) h1 n).good (Nat.le_refl n)).2
theorem pl_of {n : Nat} {L : List (List Nat)} (h1 : (((allAt n n).2.map zs).isPerm (L.map zs)) = true) (h2 : (L.map zs).Pairwise (fun a b => decide (a ≤ b) = true)) : PL n L := by
  unfold PL
  rw [srt_perm (List.isPerm_iff.mp h1)]
  exact List.mergeSort_of_pairwise h2
theorem pl_2 : PL 2 [[0, 1], [0, 2], [1, 2]] := pl_of (by decide +kernel) (by decide +kernel)
theorem pl_3 : PL 3 [[0, 1, 2], [0, 1, 3], [0, 1, 4], [0, 2, 4], [0, 2, 5], [0, 3, 4], [0, 4, 5], [1, 2, 3], [1, 2, 4], [1, 2, 5], [1, 4, 5], [2, 3, 4]] := pl_of (by decide +kernel) (by decide +kernel)
theorem pl_len {ls : List (List Nat)} {n m : Nat} (h : PL n ls) (e : (allAt n n).2.length = m) : ls.length = m := h.perm.length_eq.trans e
theorem pl_l1 : (allAt 1 1).2.length = 1 := by decide +kernel
theorem pl_l2 : (allAt 2 2).2.length = 3 := by decide +kernel
theorem pl_l3 : (allAt 3 3).2.length = 12 := by decide +kernel
theorem pl_l4 : (allAt 4 4).2.length = 56 := by decide +kernel
theorem pl_l5 : decide (0 < (allAt 5 5).2.length) = true := by decide +kernel
theorem pl_pos {n : Nat} (h1 : 1 ≤ n) (h5 : n ≤ 5) {ls : List (List Nat)} (h : PL n ls) : 0 < ls.length := by
  rw [h.perm.length_eq]
  have e : n = 1 ∨ n = 2 ∨ n = 3 ∨ n = 4 ∨ n = 5 := by omega
  rcases e with rfl | rfl | rfl | rfl | rfl
  · rw [pl_l1]; decide
  · rw [pl_l2]; decide
  · rw [pl_l3]; decide
  · rw [pl_l4]; decide
  · exact of_decide_eq_true pl_l5
theorem goPL.lens {lss : List (List (List Nat))} (h : goPL lss) (h4 : lss.length = 4) : lss.map List.length = [1, 3, 12, 56] := by
  match lss, h4, h with
  | [a, b, c, d], _, h => 
    show [a.length, b.length, c.length, d.length] = _
    rw [pl_len (h 0 a rfl) pl_l1, pl_len (h 1 b rfl) pl_l2, pl_len (h 2 c rfl) pl_l3, pl_len (h 3 d rfl) pl_l4]
def AllsN (H : Hp) (qs : List Addr) (lss : List (List (List Nat))) : Prop := Paired (fun q ls => ∃ as, H q = some (.lst (as.map V.ref)) ∧ RowsN H as ls) qs lss
theorem AllsN.mono {B B' : Hp} (s : Same B B') {as : List Addr} {ls : List (List (List Nat))} (h : AllsN B as ls) : AllsN B' as ls := Paired.mapP h fun _ _ ⟨as, z, z2⟩ => ⟨as, s _ _ z, z2.mono s⟩
theorem lst_ne {qs : List Addr} {l : List Nat} (h : l ≠ []) : HO.lst (qs.map V.ref) ≠ HO.lst (nv l) := by
  cases l with
  | nil => exact absurd rfl h
  | cons x r =>
    intro z
    injection z with z
    cases qs with
    | nil => cases z
    | cons q t =>
      injection z with z1 z2
      cases z1
theorem RowsN.via {B B' : Hp} {l : List (Addr × HO)} (k : ∀ q o, B q = some o → (∀ e ∈ l, e.2 ≠ o) → B' q = some o) {as : List Addr} {ls : List (List Nat)} (hl : ∀ l2 ∈ ls, ∀ e ∈ l, e.2 ≠ HO.lst (nv l2)) (h : RowsN B as ls) : RowsN B' as ls := by
  unfold RowsN at h
  induction h with
  | nil => exact .nil
  | @cons a b as ls h _ ih => exact .cons (k _ _ h (hl b List.mem_cons_self)) (ih fun l2 h2 => hl l2 (List.mem_cons_of_mem _ h2))
theorem rep_len {K : PySem.W.Frag} {H : Hp} {n : Nat} {G : Str → Prop} (h : n ≤ 32768) (q : G (PyData.int (n : Int)).shown) : RepQ K (.int (n : Int)) H G := RepK.toQ (RepK.int 64 (by rw [Int.natAbs_natCast]; exact Nat.lt_of_le_of_lt h (by decide)) q)
def sp_law (K : PySem.W.Frag) : Sp := fun vs H Q _ => ∃ (a : Addr) (ns : List Int), vs = [.ref a] ∧ SqL K H a (ns.map V.int) ∧ ns.length ≤ 63 ∧ ∀ H', Q (.bl true) H'
theorem ok_law (m : Mo K mg d) (sm : SM bs) (G_nth_set : FnOk P w K mg bs CX0 7 d.a_nth_set d.fd_nth_set ["count", "number"] (sp_nth_set K d)) (G_set_number : FnOk P w K mg bs CX0 8 d.a_set_number d.fd_set_number ["names"] (sp_set_number K d)) (G_count_sets : FnOk P w K mg bs CX0 7 d.a_count_sets d.fd_count_sets ["count"] (sp_count_sets K d)) (G_law_all : Fg P w K mg bs CX0 2 d.a_law_all d.fd_law_all ["count"] (sp_law_all K)) (G_law_pot : Fg P w K mg bs CX0 1 d.a_law_pot d.fd_law_pot ["script", "k"] (sp_law_pot K)) (G_law_take : Fg P w K mg bs CX0 1 d.a_law_take d.fd_law_take ["pot", "many"] (sp_law_take K)) (G_law_one_right : Fg P w K mg bs CX0 9 d.a_law_one_right d.fd_law_one_right ["every", "count", "number"] (sp_law_one_right K d)) : Fg P w K mg bs CX0 10 d.a_law d.fd_law ["script"] (sp_law K) := by
  refine ok (n := 9) m.F_law sc_law (fun vs H Q E h => ?_) (fun cdv A fr s H vs Q E hg hr h => ?_)
  · obtain ⟨a, ns, rfl, hS, hl, fin⟩ := h
    rfl
  · obtain ⟨a, ns, rfl, hS, hl, fin⟩ := h
    refine ⟨_, (pss_cons (ps_setLc (i := 1) (own := [("count", 2)]) (by rfl) sc_law.nd rfl rfl (sw_true rfl rfl rfl (by decide +kernel)) (pi_range2 (by rfl) m.n_range (pa_cons pe_int (pa_cons pe_int pa_nil))) (blkOk_by (own := [("count", 2)]) (N := ["script", "lists", "count", "every", "k", "pot", "turn"]) (sc := defScope s_law) (by decide +kernel)) (fun _ _ _ _ _ => by exact (pg_name (i := 2) sc_law.nd rfl (.inl rfl))) (fun _ _ _ _ _ => by exact pts_nil) (fun _ _ _ _ _ => by exact (pg_call G_law_all hg (hr.mono (by decide)) (by rfl) m.g_law_all m.F_law_all.kp m.b_law_all .nil (fun _ => passG) (pa_cons (pv 2) pa_nil))))
      (pss_cons (ps_for PassesOwn.never rfl (pi_enumK (by rfl) m.n_enumerate (pa_cons (pv 1) (pa_cons pe_int pa_nil))) (show PG _ _ (gTup K 2 _) from pg_tup (by rfl) (pgs_cons (pg_name (i := 2) sc_law.nd rfl (.inl rfl)) (pgs_cons (pg_name (i := 3) sc_law.nd rfl (.inl rfl)) pgs_nil)))
      (pss_one (ps_if (pt_cmpR op_ne (pe_callB (call_reprQ hg hr sm) (by rfl) m.n_repr (by decide +kernel) (pa_cons (pe_call G_count_sets (hr.mono (by decide)) (by rfl) m.g_count_sets m.F_count_sets.kp m.b_count_sets .nil pass0 (pa_cons (pv 2) pa_nil)) pa_nil)) (pe_callB (call_reprQ hg hr sm) (by rfl) m.n_repr (by decide +kernel) (pa_cons (pe_callB cr_len (by rfl) m.n_len (by decide +kernel) (pa_cons (pv 3) pa_nil)) pa_nil)) (nomark _))
      (pss_one (ps_ret pe_bl))
      pss_nil)))
      (pss_cons (ps_if (PW.pt (pw_or (pt_cmpR (op_neD hr.units) (pe_lc (own := [("every", 3)]) (by rfl) sc_law.nd (pi_list (pv 1)) (blkOk_by (own := [("every", 3)]) (N := ["script", "lists", "count", "every", "k", "pot", "turn"]) (sc := defScope s_law) (by decide +kernel)) (fun _ _ _ _ _ => by exact (pg_name (i := 3) sc_law.nd rfl (.inl rfl))) (fun _ _ _ _ _ => by exact pts_nil) (fun _ _ _ _ _ => by exact (pe_callB (show CallR _ _ (Vg.rLen K) from cr_len) (by rfl) m.n_len (by decide +kernel) (pa_cons (pv 3) pa_nil)))) (pe_lst (pa_cons pe_int (pa_cons pe_int (pa_cons pe_int (pa_cons pe_int pa_nil))))) (nomark _)) (pw_or1 (pt_cmpR (op_neD hr.units) (pe_ix ix_list (pv 1) pe_int (fun _ _ => rfl)) (pe_lst (pa_cons (pe_lst (pa_cons pe_int (pa_cons pe_int pa_nil))) (pa_cons (pe_lst (pa_cons pe_int (pa_cons pe_int pa_nil))) (pa_cons (pe_lst (pa_cons pe_int (pa_cons pe_int pa_nil))) pa_nil)))) (nomark _)))))
      (pss_one (ps_ret pe_bl))
      pss_nil)
      (pss_cons (ps_for PassesOwn.never rfl (pi_range1 (by rfl) m.n_range (pa_cons (pe_callB (cr_max2 rfl) (by rfl) m.n_max (by decide +kernel) (pa_cons pe_int (pa_cons (pe_callB (cr_min2 rfl) (by rfl) m.n_min (by decide +kernel) (pa_cons pe_int (pa_cons (pe_callB cr_len (by rfl) m.n_len (by decide +kernel) (pa_cons (pv 0) pa_nil)) pa_nil))) pa_nil))) pa_nil)) (pg_name (i := 4) sc_law.nd rfl (.inl rfl))
      (pss_cons (ps_asg (pg_call G_law_pot hg (hr.mono (by decide)) (by rfl) m.g_law_pot m.F_law_pot.kp m.b_law_pot .nil (fun _ => passG) (pa_cons (pv 0) (pa_cons (pv 4) pa_nil))) (pg_name (i := 5) sc_law.nd rfl (.inl rfl)))
      (pss_cons (ps_for PassesOwn.never rfl (pi_range1 (by rfl) m.n_range (pa_cons pe_int pa_nil)) (pg_name (i := 6) sc_law.nd rfl (.inl rfl))
      (pss_cons (ps_asg (pe_op op_add pe_int (pg_call G_law_take hg (hr.mono (by decide)) (by rfl) m.g_law_take m.F_law_take.kp m.b_law_take .nil (fun _ => passG) (pa_cons (pv 5) (pa_cons pe_int pa_nil)))) (pg_name (i := 2) sc_law.nd rfl (.inl rfl)))
      (pss_cons (ps_asg (pe_ix ix_list (pv 1) (pe_op op_sub (pv 2) pe_int) (fun _ _ => rfl)) (pg_name (i := 3) sc_law.nd rfl (.inl rfl)))
      (pss_one (ps_if (pt_not (pt_val (pg_call G_law_one_right hg (hr.mono (by decide)) (by rfl) m.g_law_one_right m.F_law_one_right.kp m.b_law_one_right .nil (fun _ => passG) (pa_cons (pv 3) (pa_cons (pv 2) (pa_cons (pg_call G_law_take hg (hr.mono (by decide)) (by rfl) m.g_law_take m.F_law_take.kp m.b_law_take .nil (fun _ => passG) (pa_cons (pv 5) (pa_cons (pe_callB cr_len (by rfl) m.n_len (by decide +kernel) (pa_cons (pv 3) pa_nil)) pa_nil))) pa_nil))))))
      (pss_one (ps_ret pe_bl))
      pss_nil)))))
      (pss_one (ps_if (PW.pt (pw_and (pt_cmpR op_eq (pv 4) pe_int (nomark _)) (pw_and1 (pt_cmpR op_eq (pg_call G_law_take hg (hr.mono (by decide)) (by rfl) m.g_law_take m.F_law_take.kp m.b_law_take .nil (fun _ => passG) (pa_cons (pv 5) (pa_cons pe_int pa_nil))) pe_int (nomark _)))))
      (pss_cons (ps_asg (pg_call G_law_all hg (hr.mono (by decide)) (by rfl) m.g_law_all m.F_law_all.kp m.b_law_all .nil (fun _ => passG) (pa_cons pe_int pa_nil)) (pg_name (i := 3) sc_law.nd rfl (.inl rfl)))
      (pss_one (ps_if (PW.pt (pw_or (pt_cmpR op_ne (pe_call G_count_sets (hr.mono (by decide)) (by rfl) m.g_count_sets m.F_count_sets.kp m.b_count_sets .nil pass0 (pa_cons pe_int pa_nil)) (pe_callB cr_len (by rfl) m.n_len (by decide +kernel) (pa_cons (pv 3) pa_nil)) (nomark _)) (pw_or1 (pt_not (pt_val (pg_call G_law_one_right hg (hr.mono (by decide)) (by rfl) m.g_law_one_right m.F_law_one_right.kp m.b_law_one_right .nil (fun _ => passG) (pa_cons (pv 3) (pa_cons pe_int (pa_cons (pg_call G_law_take hg (hr.mono (by decide)) (by rfl) m.g_law_take m.F_law_take.kp m.b_law_take .nil (fun _ => passG) (pa_cons (pv 5) (pa_cons (pe_callB cr_len (by rfl) m.n_len (by decide +kernel) (pa_cons (pv 3) pa_nil)) pa_nil))) pa_nil)))))))))
      (pss_one (ps_ret pe_bl))
      pss_nil)))
      pss_nil)))))
      (pss_one (ps_ret (pe_and (pe_cmpR (op_eqL hr.units) (pe_call G_nth_set (hr.mono (by decide)) (by rfl) m.g_nth_set m.F_nth_set.kp m.b_nth_set .nil pass0 (pa_cons pe_int (pa_cons pe_int pa_nil))) (pe_lst (pa_cons pe_int (pa_cons pe_int (pa_cons pe_int pa_nil)))) (nomark _)) (pe_one (pe_cmpR op_eq (pe_call G_set_number (hr.mono (by decide)) (by rfl) m.g_set_number m.F_set_number.kp m.b_set_number .nil pass0 (pa_cons (pe_lst (pa_cons pe_int (pa_cons pe_int (pa_cons pe_int pa_nil)))) pa_nil)) pe_int (nomark _)))))))))), ?_⟩
    walk_at "v2"
    refine ⟨by decide, by decide, by decide, by decide, ?_⟩
    refine comp_range (fun j z acc H' => ∃ B' qs lss, acc = qs.map V.ref ∧ Same H B' ∧ AllsN B' qs lss ∧ lss.length = j ∧ goPL lss ∧ Led B' H' [(z, .lst acc)]) (fun z hz => ⟨H, [], [], rfl, Same.refl _, .nil, rfl, fun i ls h => (by cases h), (Led.nil H).new hz⟩) ?_ ?_
    · rintro z acc H2 ⟨B2, qs, lss, rfl, s2, hA, hlen, hf, L⟩
      have hlen : lss.length = 4 := hlen
      have hql : qs.length = lss.length := Paired.length hA
      obtain ⟨B6, s6, hz, L⟩ := L.sink
      have hA := hA.mono s6
      have sH : Same H B6 := s2.trans s6
      have sB : Same B6 H2 := L.sm
      walk_at "v2"
      refine ⟨⟨_, .inl (.inl (sB _ _ hz))⟩, by decide, by decide, ?_⟩
      refine loop_enumK (xs := qs.map V.ref) (fun i σ H' => ∃ y2 y3 y4 y5 y6, σ = [some (.ref a), some (.ref z), y2, y3, y4, y5, y6] ∧ Same B6 H') ⟨_, _, _, _, _, rfl, sB⟩ (fun i σ H' h => ?_) (fun i x σ H' N hx h hN => ?_) (fun σ H' h => ?_)
      · obtain ⟨y2, y3, y4, y5, y6, rfl, s7⟩ := h
        exact .inl (.inl (s7 _ _ hz))
      · obtain ⟨y2, y3, y4, y5, y6, rfl, s7⟩ := h
        obtain ⟨q, hq, rfl⟩ := ref_at hx
        obtain ⟨ls, hls, as, hqas, hR⟩ := paired_get hA hq
        have hi4 : i < 4 := by rw [← hlen]; exact (List.getElem?_eq_some_iff.mp hls).1
        have hP := hf i ls hls
        rw [show ((i : Nat) : Int) + 1 = ((i + 1 : Nat) : Int) by omega]
        refine NewK.ofS fun t H8 s8 _ ht => ?_
        have s78 := s7.trans s8
        walk_at "v1"
        refine UnpK.of (.inl (.inl ht)) rfl ?_
        walk_at "v1"
        refine ⟨i + 1, ls, rfl, by omega, by omega, hP, fun H9 s9 => ?_⟩
        refine rep_len (pl_few (Nat.succ_pos i) (by omega) hP) ?_
        refine LenK.ofL (.inl (.inl ((s78.trans s9) _ _ hqas))) ?_
        rw [List.length_map, Paired.length hR]
        refine rep_len (pl_few (Nat.succ_pos i) (by omega) hP) ?_
        rw [decide_eq_true rfl]
        rw [if_neg (by decide)]
        exact hN _ _ ⟨_, _, _, _, _, rfl, s78.trans s9⟩
      · obtain ⟨y2, y3, y4, y5, y6, rfl, s7⟩ := h
        walk_at "v2"
        have L0 : Led B6 H' [] := ⟨s7, List.nodup_nil, fun e he => absurd he List.not_mem_nil, fun e he => absurd he List.not_mem_nil⟩
        refine ⟨⟨_, .inl (.inl (s7 _ _ hz))⟩, ?_⟩
        refine comp_list (xs := qs.map V.ref) (fun j zz acc H8 => acc = nv ((lss.take j).map List.length) ∧ Led B6 H8 [(zz, .lst acc)]) (fun zz hz2 => ⟨rfl, L0.new hz2⟩) (fun j zz acc H8 h => .inl (.inl (h.2.sm _ _ hz))) ?_ ?_
        rotate_left
        · rintro j zz acc H8 x N hx ⟨rfl, L⟩ hN
          obtain ⟨q, hq, rfl⟩ := ref_at hx
          obtain ⟨ls, hls, as, hqas, hR⟩ := paired_get hA hq
          have hj4 : j < 4 := by rw [← hlen]; exact (List.getElem?_eq_some_iff.mp hls).1
          rw [take_snoc hls, List.map_append, nv_cat] at hN
          unfold TurnK
          walk_at "v1"
          refine LenK.ofL (.inl (.inl (L.sm _ _ hqas))) ?_
          rw [List.length_map, Paired.length hR]
          refine AppK.of L (xs := nv ((lss.take j).map List.length)) (by walk_at "mem") (Nat.lt_of_le_of_lt (m := 100) (by rw [nv_len, List.length_map, List.length_take]; omega) (by decide)) (by walk_at "put") fun H9 L => ?_
          exact hN _ _ ⟨rfl, L⟩
        rintro zz acc H8 ⟨rfl, L⟩
        rw [List.length_map, hql, List.take_length, hf.lens hlen] at L
        refine NewK.of L fun f1 J1 L => ?_
        refine NeD.of (.lst (L.lstAt (xs := nv [1, 3, 12, 56]) (.tail _ (.head _))) (dp_nv _)) (.lst (L.lstAt (xs := nv [1, 3, 12, 56]) (.head _)) (dp_nv _)) ((eqd_nv _).sh (by decide)) ((eqd_nv _).sh (by decide)) ?_
        rw [SeqAt.eqv_refl _ (eqd_nv _).c]
        refine ⟨_, rfl, ?_⟩
        rw [if_neg (by decide)]
        obtain ⟨q1, hq1⟩ : ∃ q1, qs[1]? = some q1 := ⟨_, List.getElem?_eq_getElem (show 1 < qs.length by omega)⟩
        obtain ⟨l1, hl1, as1, hqas1, hR1⟩ := paired_get hA hq1
        obtain rfl : l1 = [[0, 1], [0, 2], [1, 2]] := PL.uniq (hf 1 l1 hl1) pl_2
        refine IxLK.of (.inl (.inl (L.sm _ _ hz))) (v := .ref q1) (atI_nat' (i := 1) (by rw [List.getElem?_map, hq1]; rfl)) ?_
        refine NewK.of L fun e1 J2 L => ?_
        refine NewK.of L fun e2 J3 L => ?_
        refine NewK.of L fun e3 J4 L => ?_
        refine NewK.of L fun e4 J5 L => ?_
        have hE : RowsN J5 [e1, e2, e3] [[0, 1], [0, 2], [1, 2]] := .cons (L.at (.tail _ (.tail _ (.tail _ (.head _))))) (.cons (L.at (.tail _ (.tail _ (.head _)))) (.cons (L.at (.tail _ (.head _))) .nil))
        have gE : Eqd 3 (.list (([[0, 1], [0, 2], [1, 2]] : List (List Nat)).map fun l => PyData.list (l.map fun (p : Nat) => .int (p : Int)))) := Eqd.lst fun d hd => by obtain ⟨l, _, rfl⟩ := List.mem_map.mp hd; exact eqd_nv l
        refine NeD.of (.lst (.inl (.inl (L.sm _ _ hqas1))) (dp_rows (hR1.mono L.sm))) (.lst (L.lstAt (xs := [e1, e2, e3].map V.ref) (.head _)) (dp_rows hE)) (gE.sh (by decide)) (gE.sh (by decide)) ?_
        rw [SeqAt.eqv_refl _ gE.c]
        refine ⟨_, rfl, ?_⟩
        rw [if_neg (by decide)]
        have s8 : Same B6 J5 := L.sm
        walk_at "v2"
        refine LenK.ofL ((sH.trans s8).seq hS) ?_
        walk_at "v1"
        refine ⟨by omega, by omega, ?_⟩
        refine loop_range (fun i σ H' => ∃ y2 y3 y4 y5 y6, σ = [some (.ref a), some (.ref z), y2, y3, y4, y5, y6] ∧ Same B6 H') ⟨_, _, _, _, _, rfl, s8⟩ (fun i σ H6 N hi h hN => ?_) (fun σ H6 h => ?_)
        · obtain ⟨y2, y3, y4, y5, y6, rfl, s9⟩ := h
          walk_at "v1"
          walk_at "v2"
          refine ⟨a, ns, (i : Int), rfl, (sH.trans s9).seq hS, by omega, by omega, fun u H7 U => ?_⟩
          walk_at "v2"
          refine ⟨by decide, by decide, ?_⟩
          refine loop_range (fun j σ H' => ∃ y2 y3 y6, σ = [some (.ref a), some (.ref z), y2, y3, some (.int (i : Int)), some (.ref u), y6] ∧ Urn H6 H' u [] (2 * j)) ⟨_, _, _, rfl, U⟩ (fun j σ H8 N2 hj h hN2 => ?_) (fun σ H8 h => ?_)
          · obtain ⟨y2, y3, y6, rfl, U⟩ := h
            have hj : j < 5 := hj
            walk_at "v1"
            walk_at "v2"
            refine take_go U (by omega) (by decide) (by decide) fun H9 r U g0 g1 => ?_
            obtain ⟨m, rfl⟩ := Int.eq_ofNat_of_zero_le g0
            walk_at "v1"
            walk_at "v2"
            rw [show (1 : Int) + (m : Int) - 1 = (m : Int) by omega, show (1 : Int) + (m : Int) = ((m + 1 : Nat) : Int) by omega]
            have hm : m < 4 := by omega
            obtain ⟨q, hq⟩ : ∃ q, qs[m]? = some q := ⟨_, List.getElem?_eq_getElem (show m < qs.length by omega)⟩
            obtain ⟨ls, hls, as, hqas, hR⟩ := paired_get hA hq
            have hP := hf m ls hls
            have hpos := pl_pos (Nat.succ_pos m) (by omega) hP
            have hfew := pl_few (Nat.succ_pos m) (by omega) hP
            have s99 : Same B6 H9 := s9.trans U.led.sm
            refine IxLK.of (.inl (.inl (s99 _ _ hz))) (v := .ref q) (atI_nat' (by rw [List.getElem?_map, hq]; rfl)) ?_
            walk_at "vc"
            refine LenK.ofL (.inl (.inl (s99 _ _ hqas))) ?_
            rw [List.length_map, Paired.length hR]
            refine take_go U (by omega) (by omega) (by omega) fun H10 r2 U g2 g3 => ?_
            obtain ⟨m2, rfl⟩ := Int.eq_ofNat_of_zero_le g2
            have s10 : Same B6 H10 := s9.trans U.led.sm
            refine ⟨q, as, m + 1, m2, ls, rfl, .inl (.inl (s10 _ _ hqas)), hR.mono s10, hP, by omega, by omega, by omega, fun H11 s11 => ?_⟩
            have U := U.map (l' := []) fun o M => (M.same s11).sel (.cons .hd .nil)
            refine ⟨true, rfl, ?_⟩
            rw [if_neg (by decide)]
            exact hN2 _ _ ⟨_, _, _, rfl, U.up (by omega)⟩
          · obtain ⟨y2, y3, y6, rfl, U⟩ := h
            walk_at "v1"
            have s98 : Same B6 H8 := s9.trans U.led.sm
            by_cases c : (i : Int) = 0
            · rw [if_pos c]
              refine take_go U (by decide) (by decide) (by decide) fun H9 r U g0 g1 => ?_
              refine ⟨rfl, ?_⟩
              by_cases c2 : V.int r = V.int 2
              · rw [if_pos c2]
                walk_at "v1"
                walk_at "v2"
                refine ⟨5, rfl, by decide, by decide, fun p as B3 H10 ls s3 hls els L3 => ?_⟩
                have hP : PL 5 ls := els
                have hR : RowsN B3 as ls := hls
                have hpos := pl_pos (by decide) (by decide) hP
                have hfew := pl_few (by decide) (by decide) hP
                obtain ⟨x1, x2, x3, LU, u1, u2, u3, u4, u5⟩ := U
                obtain ⟨B5, s5, L, k5⟩ := LU.over s3 L3
                have hR5 : RowsN B5 as ls := RowsN.via k5 (fun l2 h2 e he => by
                  rw [List.mem_singleton.mp he]
                  intro z
                  injection z with z
                  have h6 := congrArg List.length z
                  have h7 := ((hP.mem (by decide) l2).mp h2).len
                  rw [nv_len, h7] at h6
                  cases h6) hR
                obtain ⟨B7, s7, hp7, L⟩ := L.sink
                have U : Urn B7 H10 u [] (2 * 5 + 1) := ⟨x1, x2, x3, L, u1, u2, u3, u4, u5⟩
                have s67 : Same B6 B7 := s9.trans (s5.trans s7)
                have hR7 := hR5.mono s7
                refine ⟨5, ls, rfl, by decide, by decide, hP, fun H11 s11 => ?_⟩
                have U := U.map (l' := []) fun o M => (M.same s11).sel (.cons .hd .nil)
                walk_at "vc"
                refine LenK.ofL (.inl (.inl (U.led.sm _ _ hp7))) ?_
                rw [List.length_map, Paired.length hR]
                rw [decide_eq_true rfl]
                rw [if_neg (by decide)]
                refine LenK.ofL (.inl (.inl (U.led.sm _ _ hp7))) ?_
                rw [List.length_map, Paired.length hR]
                refine take_go U (by decide) (by omega) (by omega) fun H12 r2 U g2 g3 => ?_
                obtain ⟨m2, rfl⟩ := Int.eq_ofNat_of_zero_le g2
                refine ⟨p, as, 5, m2, ls, rfl, .inl (.inl (U.led.sm _ _ hp7)), hR7.mono U.led.sm, hP, by decide, by decide, by omega, fun H13 s13 => ?_⟩
                refine ⟨true, rfl, ?_⟩
                rw [if_neg (by decide)]
                exact hN _ _ ⟨_, _, _, _, _, rfl, s67.trans (U.led.sm.trans s13)⟩
              · rw [if_neg c2]
                exact hN _ _ ⟨_, _, _, _, _, rfl, s9.trans U.led.sm⟩
            · rw [if_neg c]
              exact hN _ _ ⟨_, _, _, _, _, rfl, s98⟩
        · obtain ⟨y2, y3, y4, y5, y6, rfl, s9⟩ := h
          walk_at "vc"
          refine ⟨3, 3, _, [0, 2, 4], rfl, by decide, by decide, pl_3, rfl, fun p B1 H7 s1 L => ?_⟩
          refine NewK.of L fun e5 J1 L => ?_
          refine Or.inl (EqD.of (.lst (L.lstAt (xs := nv [0, 2, 4]) (.tail _ (.head _))) (dp_nv _)) (.lst (L.lstAt (xs := nv [0, 2, 4]) (.head _)) (dp_nv _)) ((eqd_nv _).sh (by decide)) ((eqd_nv _).sh (by decide)) ?_)
          rw [SeqAt.eqv_refl _ (eqd_nv _).c]
          refine ⟨true, rfl, ?_⟩
          rw [if_pos rfl]
          refine NewK.of L fun e6 J2 L => ?_
          refine ⟨e6, [1, 4, 5], 3, 10, _, rfl, L.lstAt (xs := nv [1, 4, 5]) (.head _), by decide, by decide, pl_3, rfl, fun J3 sJ => ?_⟩
          refine ⟨rfl, ?_⟩
          exact fin _
    · rintro j z acc H2 N hj ⟨B2, qs, lss, rfl, s2, hA, hlen, hf, L⟩ hN
      have hj : j < 4 := hj
      have hql : qs.length = lss.length := Paired.length hA
      unfold TurnK
      walk_at "v1"
      rw [show (1 : Int) + (j : Int) = ((j + 1 : Nat) : Int) by omega]
      refine ⟨j + 1, rfl, by omega, by omega, fun p as B3 H3 ls s3 hls els L3 => ?_⟩
      have hPL : PL (j + 1) ls := els
      obtain ⟨B4, s4, L, k4⟩ := L.over s3 L3
      have hls : RowsN B4 as ls := RowsN.via k4 (fun l2 h2 e he => by
        rw [List.mem_singleton.mp he]
        exact lst_ne fun z => by have := ((hPL.mem (Nat.succ_pos j) l2).mp h2).len; rw [z] at this; cases this) hls
      obtain ⟨B5, s5, hp, L⟩ := L.sink
      refine AppK.of L (xs := qs.map V.ref) (by walk_at "mem") (Nat.lt_of_le_of_lt (m := 100) (by rw [List.length_map]; omega) (by decide)) (by walk_at "put") fun H5 L => ?_
      rw [show qs.map V.ref ++ [V.ref p] = (qs ++ [p]).map V.ref by rw [List.map_append]; rfl] at L
      refine hN _ _ ⟨B5, qs ++ [p], lss ++ [ls], rfl, s2.trans (s4.trans s5), Paired.snoc (hA.mono (s4.trans s5)) ⟨as, hp, hls.mono s5⟩, by rw [List.length_append, hlen]; rfl, fun i l2 h2 => ?_, L⟩
      rcases Nat.lt_or_ge i lss.length with c | c
      · rw [List.getElem?_append_left c] at h2
        exact hf i l2 h2
      · rw [List.getElem?_append_right c] at h2
        have hi : i - lss.length < 1 := (List.getElem?_eq_some_iff.mp h2).1
        have e : i = j := by omega
        subst e
        rw [hlen, Nat.sub_self] at h2
        cases h2
        exact hPL
theorem law_end {K : PySem.W.Frag} {H : Hp} {a : Addr} {ns : List Int} (hl : ns.length ≤ 63) (hb : ∀ z ∈ ns, Builtin.Int.intBits z ≤ 1048576) (hS : SqL K H a (ns.map V.int)) : sp_law K [.ref a] H (fun v _ => v = .bl true) fun _ _ _ => False := ⟨a, ns, rfl, hS, hl, fun _ => rfl⟩
end
theorem all_mk {q : Program} (hq : PyProof.Rows.importsNone q = true) {l : PySem.W.OpenLaw} {w : World} {K : PySem.W.Frag} {h : Heap} {mg : Str → Option Value} {fa : Addr} (X : K.In h) (G : h.Ns mainGlobals mg) (hfa : mg "law" = some (.ref fa))
    {f0 f1 f2 f3 f4 f5 f6 f7 f8 f9 f10 f11 f12 f13 f14 f15 f16 f17 f18 f19 f20 f21 f22 f23 f24 f25 f26 f27 f28 : Addr} {od0 an0 od1 an1 od2 an2 od3 an3 od4 an4 od5 an5 od6 an6 od7 an7 od8 an8 od9 an9 od10 an10 od11 an11 od12 an12 od13 an13 od14 an14 od15 an15 od16 an16 od17 an17 od18 an18 od19 an19 od20 an20 od21 an21 od22 an22 od23 an23 od24 an24 od25 an25 od26 an26 od27 an27 od28 an28 : Option Addr} {sl0 sl1 sl2 sl3 sl4 sl5 sl6 sl7 sl8 sl9 sl10 sl11 sl12 sl13 sl14 sl15 sl16 sl17 sl18 sl19 sl20 sl21 sl22 sl23 sl24 sl25 sl26 sl27 sl28 : Array (Option Value)} {oc0 kV0 dc0 pm0 cd0 ct0 oc1 kV1 dc1 pm1 cd1 ct1 oc2 kV2 dc2 pm2 cd2 ct2 oc3 kV3 dc3 pm3 cd3 ct3 oc4 kV4 dc4 pm4 cd4 ct4 oc5 kV5 dc5 pm5 cd5 ct5 oc6 kV6 dc6 pm6 cd6 ct6 oc7 kV7 dc7 pm7 cd7 ct7 oc8 kV8 dc8 pm8 cd8 ct8 oc9 kV9 dc9 pm9 cd9 ct9 oc10 kV10 dc10 pm10 cd10 ct10 oc11 kV11 dc11 pm11 cd11 ct11 oc12 kV12 dc12 pm12 cd12 ct12 oc13 kV13 dc13 pm13 cd13 ct13 oc14 kV14 dc14 pm14 cd14 ct14 oc15 kV15 dc15 pm15 cd15 ct15 oc16 kV16 dc16 pm16 cd16 ct16 oc17 kV17 dc17 pm17 cd17 ct17 oc18 kV18 dc18 pm18 cd18 ct18 oc19 kV19 dc19 pm19 cd19 ct19 oc20 kV20 dc20 pm20 cd20 ct20 oc21 kV21 dc21 pm21 cd21 ct21 oc22 kV22 dc22 pm22 cd22 ct22 oc23 kV23 dc23 pm23 cd23 ct23 oc24 kV24 dc24 pm24 cd24 ct24 oc25 kV25 dc25 pm25 cd25 ct25 oc26 kV26 dc26 pm26 cd26 ct26 oc27 kV27 dc27 pm27 cd27 ct27 oc28 kV28 dc28 pm28 cd28 ct28 : Value} {tk0 tk1 tk2 : Tok}
    (a0 : PySem.W.nsIn K mainGlobals "is_integer" = some (some (.ref f0)))
    (l0 : K.lookup f0 = some ⟨oc0, od0, .func (PySem.W.fnOf "is_integer" "is_integer" (defArgs s_is_integer) (defBody s_is_integer) (defScope s_is_integer) .none kV0 dc0 pm0 an0 cd0 ct0), sl0⟩)
    (c0 : PySem.W.codeIn K cd0 "is_integer" = true)
    (k0 : PySem.W.keepIn K (.ref f0) = true)
    (a1 : PySem.W.nsIn K mainGlobals "is_integer_within" = some (some (.ref f1)))
    (l1 : K.lookup f1 = some ⟨oc1, od1, .func (PySem.W.fnOf "is_integer_within" "is_integer_within" (defArgs s_is_integer_within) (defBody s_is_integer_within) (defScope s_is_integer_within) .none kV1 dc1 pm1 an1 cd1 ct1), sl1⟩)
    (c1 : PySem.W.codeIn K cd1 "is_integer_within" = true)
    (k1 : PySem.W.keepIn K (.ref f1) = true)
    (a2 : PySem.W.nsIn K mainGlobals "check_count" = some (some (.ref f2)))
    (l2 : K.lookup f2 = some ⟨oc2, od2, .func (PySem.W.fnOf "check_count" "check_count" (defArgs s_check_count) (defBody s_check_count) (defScope s_check_count) .none kV2 dc2 pm2 an2 cd2 ct2), sl2⟩)
    (c2 : PySem.W.codeIn K cd2 "check_count" = true)
    (k2 : PySem.W.keepIn K (.ref f2) = true)
    (a3 : PySem.W.nsIn K mainGlobals "ways_on" = some (some (.ref f3)))
    (l3 : K.lookup f3 = some ⟨oc3, od3, .func (PySem.W.fnOf "ways_on" "ways_on" (defArgs s_ways_on) (defBody s_ways_on) (defScope s_ways_on) .none kV3 dc3 pm3 an3 cd3 ct3), sl3⟩)
    (c3 : PySem.W.codeIn K cd3 "ways_on" = true)
    (k3 : PySem.W.keepIn K (.ref f3) = true)
    (a4 : PySem.W.nsIn K mainGlobals "row_with_cell" = some (some (.ref f4)))
    (l4 : K.lookup f4 = some ⟨oc4, od4, .func (PySem.W.fnOf "row_with_cell" "row_with_cell" (defArgs s_row_with_cell) (defBody s_row_with_cell) (defScope s_row_with_cell) .none kV4 dc4 pm4 an4 cd4 ct4), sl4⟩)
    (c4 : PySem.W.codeIn K cd4 "row_with_cell" = true)
    (k4 : PySem.W.keepIn K (.ref f4) = true)
    (a5 : PySem.W.nsIn K mainGlobals "_ends_of" = some (some (.ref f5)))
    (l5 : K.lookup f5 = some ⟨oc5, od5, .func (PySem.W.fnOf "_ends_of" "_ends_of" (defArgs s_ends_of) (defBody s_ends_of) (defScope s_ends_of) .none kV5 dc5 pm5 an5 cd5 ct5), sl5⟩)
    (c5 : PySem.W.codeIn K cd5 "_ends_of" = true)
    (k5 : PySem.W.keepIn K (.ref f5) = true)
    (a6 : PySem.W.nsIn K mainGlobals "_check_coordinate" = some (some (.ref f6)))
    (l6 : K.lookup f6 = some ⟨oc6, od6, .func (PySem.W.fnOf "_check_coordinate" "_check_coordinate" (defArgs s_check_coordinate) (defBody s_check_coordinate) (defScope s_check_coordinate) .none kV6 dc6 pm6 an6 cd6 ct6), sl6⟩)
    (c6 : PySem.W.codeIn K cd6 "_check_coordinate" = true)
    (k6 : PySem.W.keepIn K (.ref f6) = true)
    (a7 : PySem.W.nsIn K mainGlobals "_cells_before" = some (some (.ref f7)))
    (l7 : K.lookup f7 = some ⟨oc7, od7, .func (PySem.W.fnOf "_cells_before" "_cells_before" (defArgs s_cells_before) (defBody s_cells_before) (defScope s_cells_before) .none kV7 dc7 pm7 an7 cd7 ct7), sl7⟩)
    (c7 : PySem.W.codeIn K cd7 "_cells_before" = true)
    (k7 : PySem.W.keepIn K (.ref f7) = true)
    (a8 : PySem.W.nsIn K mainGlobals "name_of" = some (some (.ref f8)))
    (l8 : K.lookup f8 = some ⟨oc8, od8, .func (PySem.W.fnOf "name_of" "name_of" (defArgs s_name_of) (defBody s_name_of) (defScope s_name_of) .none kV8 dc8 pm8 an8 cd8 ct8), sl8⟩)
    (c8 : PySem.W.codeIn K cd8 "name_of" = true)
    (k8 : PySem.W.keepIn K (.ref f8) = true)
    (a9 : PySem.W.nsIn K mainGlobals "_found_after" = some (some (.ref f9)))
    (l9 : K.lookup f9 = some ⟨oc9, od9, .func (PySem.W.fnOf "_found_after" "_found_after" (defArgs s_found_after) (defBody s_found_after) (defScope s_found_after) .none kV9 dc9 pm9 an9 cd9 ct9), sl9⟩)
    (c9 : PySem.W.codeIn K cd9 "_found_after" = true)
    (k9 : PySem.W.keepIn K (.ref f9) = true)
    (a10 : PySem.W.nsIn K mainGlobals "_possible_lists" = some (some (.ref f10)))
    (l10 : K.lookup f10 = some ⟨oc10, od10, .func (PySem.W.fnOf "_possible_lists" "_possible_lists" (defArgs s_possible_lists) (defBody s_possible_lists) (defScope s_possible_lists) .none kV10 dc10 pm10 an10 cd10 ct10), sl10⟩)
    (c10 : PySem.W.codeIn K cd10 "_possible_lists" = true)
    (k10 : PySem.W.keepIn K (.ref f10) = true)
    (a11 : PySem.W.nsIn K mainGlobals "nth_set" = some (some (.ref f11)))
    (l11 : K.lookup f11 = some ⟨oc11, od11, .func (PySem.W.fnOf "nth_set" "nth_set" (defArgs s_nth_set) (defBody s_nth_set) (defScope s_nth_set) .none kV11 dc11 pm11 an11 cd11 ct11), sl11⟩)
    (c11 : PySem.W.codeIn K cd11 "nth_set" = true)
    (k11 : PySem.W.keepIn K (.ref f11) = true)
    (a12 : PySem.W.nsIn K mainGlobals "is_integer_list" = some (some (.ref f12)))
    (l12 : K.lookup f12 = some ⟨oc12, od12, .func (PySem.W.fnOf "is_integer_list" "is_integer_list" (defArgs s_is_integer_list) (defBody s_is_integer_list) (defScope s_is_integer_list) .none kV12 dc12 pm12 an12 cd12 ct12), sl12⟩)
    (c12 : PySem.W.codeIn K cd12 "is_integer_list" = true)
    (k12 : PySem.W.keepIn K (.ref f12) = true)
    (a13 : PySem.W.nsIn K mainGlobals "is_name_list" = some (some (.ref f13)))
    (l13 : K.lookup f13 = some ⟨oc13, od13, .func (PySem.W.fnOf "is_name_list" "is_name_list" (defArgs s_is_name_list) (defBody s_is_name_list) (defScope s_is_name_list) .none kV13 dc13 pm13 an13 cd13 ct13), sl13⟩)
    (c13 : PySem.W.codeIn K cd13 "is_name_list" = true)
    (k13 : PySem.W.keepIn K (.ref f13) = true)
    (a14 : PySem.W.nsIn K mainGlobals "check_names" = some (some (.ref f14)))
    (l14 : K.lookup f14 = some ⟨oc14, od14, .func (PySem.W.fnOf "check_names" "check_names" (defArgs s_check_names) (defBody s_check_names) (defScope s_check_names) .none kV14 dc14 pm14 an14 cd14 ct14), sl14⟩)
    (c14 : PySem.W.codeIn K cd14 "check_names" = true)
    (k14 : PySem.W.keepIn K (.ref f14) = true)
    (a15 : PySem.W.nsIn K mainGlobals "_stuck_in" = some (some (.ref f15)))
    (l15 : K.lookup f15 = some ⟨oc15, od15, .func (PySem.W.fnOf "_stuck_in" "_stuck_in" (defArgs s_stuck_in) (defBody s_stuck_in) (defScope s_stuck_in) .none kV15 dc15 pm15 an15 cd15 ct15), sl15⟩)
    (c15 : PySem.W.codeIn K cd15 "_stuck_in" = true)
    (k15 : PySem.W.keepIn K (.ref f15) = true)
    (a16 : PySem.W.nsIn K mainGlobals "_ways_from" = some (some (.ref f16)))
    (l16 : K.lookup f16 = some ⟨oc16, od16, .func (PySem.W.fnOf "_ways_from" "_ways_from" (defArgs s_ways_from) (defBody s_ways_from) (defScope s_ways_from) .none kV16 dc16 pm16 an16 cd16 ct16), sl16⟩)
    (c16 : PySem.W.codeIn K cd16 "_ways_from" = true)
    (k16 : PySem.W.keepIn K (.ref f16) = true)
    (a17 : PySem.W.nsIn K mainGlobals "_stage_after" = some (some (.ref f17)))
    (l17 : K.lookup f17 = some ⟨oc17, od17, .func (PySem.W.fnOf "_stage_after" "_stage_after" (defArgs s_stage_after) (defBody s_stage_after) (defScope s_stage_after) .none kV17 dc17 pm17 an17 cd17 ct17), sl17⟩)
    (c17 : PySem.W.codeIn K cd17 "_stage_after" = true)
    (k17 : PySem.W.keepIn K (.ref f17) = true)
    (a18 : PySem.W.nsIn K mainGlobals "stages_of" = some (some (.ref f18)))
    (l18 : K.lookup f18 = some ⟨oc18, od18, .func (PySem.W.fnOf "stages_of" "stages_of" (defArgs s_stages_of) (defBody s_stages_of) (defScope s_stages_of) .none kV18 dc18 pm18 an18 cd18 ct18), sl18⟩)
    (c18 : PySem.W.codeIn K cd18 "stages_of" = true)
    (k18 : PySem.W.keepIn K (.ref f18) = true)
    (a19 : PySem.W.nsIn K mainGlobals "_stages_of" = some (some (.ref f19)))
    (l19 : K.lookup f19 = some ⟨oc19, od19, .func (PySem.W.fnOf "_stages_of" "_stages_of" (defArgs s_stages_of_p) (defBody s_stages_of_p) (defScope s_stages_of_p) .none kV19 dc19 pm19 an19 cd19 ct19), sl19⟩)
    (c19 : PySem.W.codeIn K cd19 "_stages_of" = true)
    (k19 : PySem.W.keepIn K (.ref f19) = true)
    (a20 : PySem.W.nsIn K mainGlobals "stuck_diagonal" = some (some (.ref f20)))
    (l20 : K.lookup f20 = some ⟨oc20, od20, .func (PySem.W.fnOf "stuck_diagonal" "stuck_diagonal" (defArgs s_stuck_diagonal) (defBody s_stuck_diagonal) (defScope s_stuck_diagonal) .none kV20 dc20 pm20 an20 cd20 ct20), sl20⟩)
    (c20 : PySem.W.codeIn K cd20 "stuck_diagonal" = true)
    (k20 : PySem.W.keepIn K (.ref f20) = true)
    (a21 : PySem.W.nsIn K mainGlobals "set_number" = some (some (.ref f21)))
    (l21 : K.lookup f21 = some ⟨oc21, od21, .func (PySem.W.fnOf "set_number" "set_number" (defArgs s_set_number) (defBody s_set_number) (defScope s_set_number) .none kV21 dc21 pm21 an21 cd21 ct21), sl21⟩)
    (c21 : PySem.W.codeIn K cd21 "set_number" = true)
    (k21 : PySem.W.keepIn K (.ref f21) = true)
    (a22 : PySem.W.nsIn K mainGlobals "count_sets" = some (some (.ref f22)))
    (l22 : K.lookup f22 = some ⟨oc22, od22, .func (PySem.W.fnOf "count_sets" "count_sets" (defArgs s_count_sets) (defBody s_count_sets) (defScope s_count_sets) .none kV22 dc22 pm22 an22 cd22 ct22), sl22⟩)
    (c22 : PySem.W.codeIn K cd22 "count_sets" = true)
    (k22 : PySem.W.keepIn K (.ref f22) = true)
    (a23 : PySem.W.nsIn K mainGlobals "_law_sends" = some (some (.ref f23)))
    (l23 : K.lookup f23 = some ⟨oc23, od23, .func (PySem.W.fnOf "_law_sends" "_law_sends" (defArgs s_law_sends) (defBody s_law_sends) (defScope s_law_sends) .none kV23 dc23 pm23 an23 cd23 ct23), sl23⟩)
    (c23 : PySem.W.codeIn K cd23 "_law_sends" = true)
    (k23 : PySem.W.keepIn K (.ref f23) = true)
    (a24 : PySem.W.nsIn K mainGlobals "_law_all" = some (some (.ref f24)))
    (l24 : K.lookup f24 = some ⟨oc24, od24, .func (PySem.W.fnOf "_law_all" "_law_all" (defArgs s_law_all) (defBody s_law_all) (defScope s_law_all) .none kV24 dc24 pm24 an24 cd24 ct24), sl24⟩)
    (c24 : PySem.W.codeIn K cd24 "_law_all" = true)
    (k24 : PySem.W.keepIn K (.ref f24) = true)
    (a25 : PySem.W.nsIn K mainGlobals "_law_pot" = some (some (.ref f25)))
    (l25 : K.lookup f25 = some ⟨oc25, od25, .func (PySem.W.fnOf "_law_pot" "_law_pot" (defArgs s_law_pot) (defBody s_law_pot) (defScope s_law_pot) .none kV25 dc25 pm25 an25 cd25 ct25), sl25⟩)
    (c25 : PySem.W.codeIn K cd25 "_law_pot" = true)
    (k25 : PySem.W.keepIn K (.ref f25) = true)
    (a26 : PySem.W.nsIn K mainGlobals "_law_take" = some (some (.ref f26)))
    (l26 : K.lookup f26 = some ⟨oc26, od26, .func (PySem.W.fnOf "_law_take" "_law_take" (defArgs s_law_take) (defBody s_law_take) (defScope s_law_take) .none kV26 dc26 pm26 an26 cd26 ct26), sl26⟩)
    (c26 : PySem.W.codeIn K cd26 "_law_take" = true)
    (k26 : PySem.W.keepIn K (.ref f26) = true)
    (a27 : PySem.W.nsIn K mainGlobals "_law_one_right" = some (some (.ref f27)))
    (l27 : K.lookup f27 = some ⟨oc27, od27, .func (PySem.W.fnOf "_law_one_right" "_law_one_right" (defArgs s_law_one_right) (defBody s_law_one_right) (defScope s_law_one_right) .none kV27 dc27 pm27 an27 cd27 ct27), sl27⟩)
    (c27 : PySem.W.codeIn K cd27 "_law_one_right" = true)
    (k27 : PySem.W.keepIn K (.ref f27) = true)
    (a28 : PySem.W.nsIn K mainGlobals "law" = some (some (.ref f28)))
    (l28 : K.lookup f28 = some ⟨oc28, od28, .func (PySem.W.fnOf "law" "law" (defArgs s_law) (defBody s_law) (defScope s_law) .none kV28 dc28 pm28 an28 cd28 ct28), sl28⟩)
    (c28 : PySem.W.codeIn K cd28 "law" = true)
    (k28 : PySem.W.keepIn K (.ref f28) = true)
    (z_bool : PySem.W.nsIn K mainGlobals "bool" = some none)
    (z_enumerate : PySem.W.nsIn K mainGlobals "enumerate" = some none)
    (z_int : PySem.W.nsIn K mainGlobals "int" = some none)
    (z_isinstance : PySem.W.nsIn K mainGlobals "isinstance" = some none)
    (z_len : PySem.W.nsIn K mainGlobals "len" = some none)
    (z_list : PySem.W.nsIn K mainGlobals "list" = some none)
    (z_max : PySem.W.nsIn K mainGlobals "max" = some none)
    (z_min : PySem.W.nsIn K mainGlobals "min" = some none)
    (z_range : PySem.W.nsIn K mainGlobals "range" = some none)
    (z_repr : PySem.W.nsIn K mainGlobals "repr" = some none)
    (z_sorted : PySem.W.nsIn K mainGlobals "sorted" = some none)
    (z_sum : PySem.W.nsIn K mainGlobals "sum" = some none)
    (z_zip : PySem.W.nsIn K mainGlobals "zip" = some none)
    (q0 : PySem.W.nsIn K mainGlobals "GREATEST_COORDINATE" = some (some (.int (1000000000000000) tk0)))
    (q1 : PySem.W.nsIn K mainGlobals "GREATEST_COUNT" = some (some (.int (5) tk1)))
    (q2 : PySem.W.nsIn K mainGlobals "MOST_NAMES" = some (some (.int (8) tk2))) :
    ∃ fd : FuncData, (∀ (s : Shared) (v : Value), BindsTo s fd ⟨[v], []⟩ [("script", v)]) ∧ ∀ bs : Heap, K.In bs → bs.Ns mainGlobals mg → (PyProof.Rows.importsNone q = true → ∃ mm, bs.Ns sysModules mm) → Fg l.prog w K mg bs CX0 10 fa fd ["script"] (sp_law K) := by
  have e := hfa.symm.trans (PySem.W.mg_of X G a28)
  cases e
  have F0 := fun_mk (st := s_is_integer) l0 c0 k0
  have b0 := F0.binds (ps := ["value"]) fun _ _ _ _ _ _ us hl => match us, hl with | [_], _ => rfl
  have F1 := fun_mk (st := s_is_integer_within) l1 c1 k1
  have b1 := F1.binds (ps := ["value", "least", "greatest"]) fun _ _ _ _ _ _ us hl => match us, hl with | [_, _, _], _ => rfl
  have F2 := fun_mk (st := s_check_count) l2 c2 k2
  have b2 := F2.binds (ps := ["count", "greatest"]) fun _ _ _ _ _ _ us hl => match us, hl with | [_, _], _ => rfl
  have F3 := fun_mk (st := s_ways_on) l3 c3 k3
  have b3 := F3.binds (ps := ["entered", "listed"]) fun _ _ _ _ _ _ us hl => match us, hl with | [_, _], _ => rfl
  have F4 := fun_mk (st := s_row_with_cell) l4 c4 k4
  have b4 := F4.binds (ps := ["later", "right", "down"]) fun _ _ _ _ _ _ us hl => match us, hl with | [_, _, _], _ => rfl
  have F5 := fun_mk (st := s_ends_of) l5 c5 k5
  have b5 := F5.binds (ps := ["row", "first"]) fun _ _ _ _ _ _ us hl => match us, hl with | [_, _], _ => rfl
  have F6 := fun_mk (st := s_check_coordinate) l6 c6 k6
  have b6 := F6.binds (ps := ["value"]) fun _ _ _ _ _ _ us hl => match us, hl with | [_], _ => rfl
  have F7 := fun_mk (st := s_cells_before) l7 c7 k7
  have b7 := F7.binds (ps := ["diagonal"]) fun _ _ _ _ _ _ us hl => match us, hl with | [_], _ => rfl
  have F8 := fun_mk (st := s_name_of) l8 c8 k8
  have b8 := F8.binds (ps := ["right", "down"]) fun _ _ _ _ _ _ us hl => match us, hl with | [_, _], _ => rfl
  have F9 := fun_mk (st := s_found_after) l9 c9 k9
  have b9 := F9.binds (ps := ["found", "diagonal"]) fun _ _ _ _ _ _ us hl => match us, hl with | [_, _], _ => rfl
  have F10 := fun_mk (st := s_possible_lists) l10 c10 k10
  have b10 := F10.binds (ps := ["count"]) fun _ _ _ _ _ _ us hl => match us, hl with | [_], _ => rfl
  have F11 := fun_mk (st := s_nth_set) l11 c11 k11
  have b11 := F11.binds (ps := ["count", "number"]) fun _ _ _ _ _ _ us hl => match us, hl with | [_, _], _ => rfl
  have F12 := fun_mk (st := s_is_integer_list) l12 c12 k12
  have b12 := F12.binds (ps := ["value"]) fun _ _ _ _ _ _ us hl => match us, hl with | [_], _ => rfl
  have F13 := fun_mk (st := s_is_name_list) l13 c13 k13
  have b13 := F13.binds (ps := ["value"]) fun _ _ _ _ _ _ us hl => match us, hl with | [_], _ => rfl
  have F14 := fun_mk (st := s_check_names) l14 c14 k14
  have b14 := F14.binds (ps := ["names"]) fun _ _ _ _ _ _ us hl => match us, hl with | [_], _ => rfl
  have F15 := fun_mk (st := s_stuck_in) l15 c15 k15
  have b15 := F15.binds (ps := ["stages"]) fun _ _ _ _ _ _ us hl => match us, hl with | [_], _ => rfl
  have F16 := fun_mk (st := s_ways_from) l16 c16 k16
  have b16 := F16.binds (ps := ["row", "listed", "ways"]) fun _ _ _ _ _ _ us hl => match us, hl with | [_, _, _], _ => rfl
  have F17 := fun_mk (st := s_stage_after) l17 c17 k17
  have b17 := F17.binds (ps := ["rows", "listed", "ways"]) fun _ _ _ _ _ _ us hl => match us, hl with | [_, _, _], _ => rfl
  have F18 := fun_mk (st := s_stages_of) l18 c18 k18
  have b18 := F18.binds (ps := ["count", "names", "ways"]) fun _ _ _ _ _ _ us hl => match us, hl with | [_, _, _], _ => rfl
  have F19 := fun_mk (st := s_stages_of_p) l19 c19 k19
  have b19 := F19.binds (ps := ["names"]) fun _ _ _ _ _ _ us hl => match us, hl with | [_], _ => rfl
  have F20 := fun_mk (st := s_stuck_diagonal) l20 c20 k20
  have b20 := F20.binds (ps := ["names"]) fun _ _ _ _ _ _ us hl => match us, hl with | [_], _ => rfl
  have F21 := fun_mk (st := s_set_number) l21 c21 k21
  have b21 := F21.binds (ps := ["names"]) fun _ _ _ _ _ _ us hl => match us, hl with | [_], _ => rfl
  have F22 := fun_mk (st := s_count_sets) l22 c22 k22
  have b22 := F22.binds (ps := ["count"]) fun _ _ _ _ _ _ us hl => match us, hl with | [_], _ => rfl
  have F23 := fun_mk (st := s_law_sends) l23 c23 k23
  have b23 := F23.binds (ps := ["entered", "is_listed"]) fun _ _ _ _ _ _ us hl => match us, hl with | [_, _], _ => rfl
  have F24 := fun_mk (st := s_law_all) l24 c24 k24
  have b24 := F24.binds (ps := ["count"]) fun _ _ _ _ _ _ us hl => match us, hl with | [_], _ => rfl
  have F25 := fun_mk (st := s_law_pot) l25 c25 k25
  have b25 := F25.binds (ps := ["script", "k"]) fun _ _ _ _ _ _ us hl => match us, hl with | [_, _], _ => rfl
  have F26 := fun_mk (st := s_law_take) l26 c26 k26
  have b26 := F26.binds (ps := ["pot", "many"]) fun _ _ _ _ _ _ us hl => match us, hl with | [_, _], _ => rfl
  have F27 := fun_mk (st := s_law_one_right) l27 c27 k27
  have b27 := F27.binds (ps := ["every", "count", "number"]) fun _ _ _ _ _ _ us hl => match us, hl with | [_, _, _], _ => rfl
  have F28 := fun_mk (st := s_law) l28 c28 k28
  have b28 := F28.binds (ps := ["script"]) fun _ _ _ _ _ _ us hl => match us, hl with | [_], _ => rfl
  have m : Mo K mg ⟨f0, (PySem.W.fnOf "is_integer" "is_integer" (defArgs s_is_integer) (defBody s_is_integer) (defScope s_is_integer) .none kV0 dc0 pm0 an0 cd0 ct0), f1, (PySem.W.fnOf "is_integer_within" "is_integer_within" (defArgs s_is_integer_within) (defBody s_is_integer_within) (defScope s_is_integer_within) .none kV1 dc1 pm1 an1 cd1 ct1), f2, (PySem.W.fnOf "check_count" "check_count" (defArgs s_check_count) (defBody s_check_count) (defScope s_check_count) .none kV2 dc2 pm2 an2 cd2 ct2), f3, (PySem.W.fnOf "ways_on" "ways_on" (defArgs s_ways_on) (defBody s_ways_on) (defScope s_ways_on) .none kV3 dc3 pm3 an3 cd3 ct3), f4, (PySem.W.fnOf "row_with_cell" "row_with_cell" (defArgs s_row_with_cell) (defBody s_row_with_cell) (defScope s_row_with_cell) .none kV4 dc4 pm4 an4 cd4 ct4), f5, (PySem.W.fnOf "_ends_of" "_ends_of" (defArgs s_ends_of) (defBody s_ends_of) (defScope s_ends_of) .none kV5 dc5 pm5 an5 cd5 ct5), f6, (PySem.W.fnOf "_check_coordinate" "_check_coordinate" (defArgs s_check_coordinate) (defBody s_check_coordinate) (defScope s_check_coordinate) .none kV6 dc6 pm6 an6 cd6 ct6), f7, (PySem.W.fnOf "_cells_before" "_cells_before" (defArgs s_cells_before) (defBody s_cells_before) (defScope s_cells_before) .none kV7 dc7 pm7 an7 cd7 ct7), f8, (PySem.W.fnOf "name_of" "name_of" (defArgs s_name_of) (defBody s_name_of) (defScope s_name_of) .none kV8 dc8 pm8 an8 cd8 ct8), f9, (PySem.W.fnOf "_found_after" "_found_after" (defArgs s_found_after) (defBody s_found_after) (defScope s_found_after) .none kV9 dc9 pm9 an9 cd9 ct9), f10, (PySem.W.fnOf "_possible_lists" "_possible_lists" (defArgs s_possible_lists) (defBody s_possible_lists) (defScope s_possible_lists) .none kV10 dc10 pm10 an10 cd10 ct10), f11, (PySem.W.fnOf "nth_set" "nth_set" (defArgs s_nth_set) (defBody s_nth_set) (defScope s_nth_set) .none kV11 dc11 pm11 an11 cd11 ct11), f12, (PySem.W.fnOf "is_integer_list" "is_integer_list" (defArgs s_is_integer_list) (defBody s_is_integer_list) (defScope s_is_integer_list) .none kV12 dc12 pm12 an12 cd12 ct12), f13, (PySem.W.fnOf "is_name_list" "is_name_list" (defArgs s_is_name_list) (defBody s_is_name_list) (defScope s_is_name_list) .none kV13 dc13 pm13 an13 cd13 ct13), f14, (PySem.W.fnOf "check_names" "check_names" (defArgs s_check_names) (defBody s_check_names) (defScope s_check_names) .none kV14 dc14 pm14 an14 cd14 ct14), f15, (PySem.W.fnOf "_stuck_in" "_stuck_in" (defArgs s_stuck_in) (defBody s_stuck_in) (defScope s_stuck_in) .none kV15 dc15 pm15 an15 cd15 ct15), f16, (PySem.W.fnOf "_ways_from" "_ways_from" (defArgs s_ways_from) (defBody s_ways_from) (defScope s_ways_from) .none kV16 dc16 pm16 an16 cd16 ct16), f17, (PySem.W.fnOf "_stage_after" "_stage_after" (defArgs s_stage_after) (defBody s_stage_after) (defScope s_stage_after) .none kV17 dc17 pm17 an17 cd17 ct17), f18, (PySem.W.fnOf "stages_of" "stages_of" (defArgs s_stages_of) (defBody s_stages_of) (defScope s_stages_of) .none kV18 dc18 pm18 an18 cd18 ct18), f19, (PySem.W.fnOf "_stages_of" "_stages_of" (defArgs s_stages_of_p) (defBody s_stages_of_p) (defScope s_stages_of_p) .none kV19 dc19 pm19 an19 cd19 ct19), f20, (PySem.W.fnOf "stuck_diagonal" "stuck_diagonal" (defArgs s_stuck_diagonal) (defBody s_stuck_diagonal) (defScope s_stuck_diagonal) .none kV20 dc20 pm20 an20 cd20 ct20), f21, (PySem.W.fnOf "set_number" "set_number" (defArgs s_set_number) (defBody s_set_number) (defScope s_set_number) .none kV21 dc21 pm21 an21 cd21 ct21), f22, (PySem.W.fnOf "count_sets" "count_sets" (defArgs s_count_sets) (defBody s_count_sets) (defScope s_count_sets) .none kV22 dc22 pm22 an22 cd22 ct22), f23, (PySem.W.fnOf "_law_sends" "_law_sends" (defArgs s_law_sends) (defBody s_law_sends) (defScope s_law_sends) .none kV23 dc23 pm23 an23 cd23 ct23), f24, (PySem.W.fnOf "_law_all" "_law_all" (defArgs s_law_all) (defBody s_law_all) (defScope s_law_all) .none kV24 dc24 pm24 an24 cd24 ct24), f25, (PySem.W.fnOf "_law_pot" "_law_pot" (defArgs s_law_pot) (defBody s_law_pot) (defScope s_law_pot) .none kV25 dc25 pm25 an25 cd25 ct25), f26, (PySem.W.fnOf "_law_take" "_law_take" (defArgs s_law_take) (defBody s_law_take) (defScope s_law_take) .none kV26 dc26 pm26 an26 cd26 ct26), f27, (PySem.W.fnOf "_law_one_right" "_law_one_right" (defArgs s_law_one_right) (defBody s_law_one_right) (defScope s_law_one_right) .none kV27 dc27 pm27 an27 cd27 ct27), fa, (PySem.W.fnOf "law" "law" (defArgs s_law) (defBody s_law) (defScope s_law) .none kV28 dc28 pm28 an28 cd28 ct28)⟩ := by
    constructor
    · exact F0
    · exact b0
    · exact PySem.W.mg_of X G a0
    · exact F1
    · exact b1
    · exact PySem.W.mg_of X G a1
    · exact F2
    · exact b2
    · exact PySem.W.mg_of X G a2
    · exact F3
    · exact b3
    · exact PySem.W.mg_of X G a3
    · exact F4
    · exact b4
    · exact PySem.W.mg_of X G a4
    · exact F5
    · exact b5
    · exact PySem.W.mg_of X G a5
    · exact F6
    · exact b6
    · exact PySem.W.mg_of X G a6
    · exact F7
    · exact b7
    · exact PySem.W.mg_of X G a7
    · exact F8
    · exact b8
    · exact PySem.W.mg_of X G a8
    · exact F9
    · exact b9
    · exact PySem.W.mg_of X G a9
    · exact F10
    · exact b10
    · exact PySem.W.mg_of X G a10
    · exact F11
    · exact b11
    · exact PySem.W.mg_of X G a11
    · exact F12
    · exact b12
    · exact PySem.W.mg_of X G a12
    · exact F13
    · exact b13
    · exact PySem.W.mg_of X G a13
    · exact F14
    · exact b14
    · exact PySem.W.mg_of X G a14
    · exact F15
    · exact b15
    · exact PySem.W.mg_of X G a15
    · exact F16
    · exact b16
    · exact PySem.W.mg_of X G a16
    · exact F17
    · exact b17
    · exact PySem.W.mg_of X G a17
    · exact F18
    · exact b18
    · exact PySem.W.mg_of X G a18
    · exact F19
    · exact b19
    · exact PySem.W.mg_of X G a19
    · exact F20
    · exact b20
    · exact PySem.W.mg_of X G a20
    · exact F21
    · exact b21
    · exact PySem.W.mg_of X G a21
    · exact F22
    · exact b22
    · exact PySem.W.mg_of X G a22
    · exact F23
    · exact b23
    · exact PySem.W.mg_of X G a23
    · exact F24
    · exact b24
    · exact PySem.W.mg_of X G a24
    · exact F25
    · exact b25
    · exact PySem.W.mg_of X G a25
    · exact F26
    · exact b26
    · exact PySem.W.mg_of X G a26
    · exact F27
    · exact b27
    · exact PySem.W.mg_of X G a27
    · exact F28
    · exact b28
    · exact PySem.W.mg_of X G a28
    · exact PySem.W.mg_none_of X G z_bool
    · exact PySem.W.mg_none_of X G z_enumerate
    · exact PySem.W.mg_none_of X G z_int
    · exact PySem.W.mg_none_of X G z_isinstance
    · exact PySem.W.mg_none_of X G z_len
    · exact PySem.W.mg_none_of X G z_list
    · exact PySem.W.mg_none_of X G z_max
    · exact PySem.W.mg_none_of X G z_min
    · exact PySem.W.mg_none_of X G z_range
    · exact PySem.W.mg_none_of X G z_repr
    · exact PySem.W.mg_none_of X G z_sorted
    · exact PySem.W.mg_none_of X G z_sum
    · exact PySem.W.mg_none_of X G z_zip
    · exact ⟨_, PySem.W.mg_of X G q0⟩
    · exact ⟨_, PySem.W.mg_of X G q1⟩
    · exact ⟨_, PySem.W.mg_of X G q2⟩
  refine ⟨(PySem.W.fnOf "law" "law" (defArgs s_law) (defBody s_law) (defScope s_law) .none kV28 dc28 pm28 an28 cd28 ct28), fun s v => .of_eq rfl, fun bs _ _ smq => ?_⟩
  have G_is_integer := ok_is_integer (P := l.prog) (w := w) (bs := bs) m (smq hq) 
  have G_is_integer_within := ok_is_integer_within (P := l.prog) (w := w) (bs := bs) m (smq hq) G_is_integer
  have G_check_count := ok_check_count (P := l.prog) (w := w) (bs := bs) m (smq hq) G_is_integer_within
  have G_ways_on := ok_ways_on (P := l.prog) (w := w) (bs := bs) m (smq hq) 
  have G_row_with_cell := ok_row_with_cell (P := l.prog) (w := w) (bs := bs) m (smq hq) 
  have G_ends_of := ok_ends_of (P := l.prog) (w := w) (bs := bs) m (smq hq) G_ways_on G_row_with_cell
  have G_check_coordinate := ok_check_coordinate (P := l.prog) (w := w) (bs := bs) m (smq hq) G_is_integer_within
  have G_cells_before := ok_cells_before (P := l.prog) (w := w) (bs := bs) m (smq hq) 
  have G_name_of := ok_name_of (P := l.prog) (w := w) (bs := bs) m (smq hq) G_check_coordinate G_cells_before
  have G_found_after := ok_found_after (P := l.prog) (w := w) (bs := bs) m (smq hq) G_ends_of G_name_of
  have G_possible_lists := ok_possible_lists (P := l.prog) (w := w) (bs := bs) m (smq hq) G_found_after
  have G_nth_set := ok_nth_set (P := l.prog) (w := w) (bs := bs) m (smq hq) G_is_integer_within G_check_count G_possible_lists
  have G_is_integer_list := ok_is_integer_list (P := l.prog) (w := w) (bs := bs) m (smq hq) G_is_integer
  have G_is_name_list := ok_is_name_list (P := l.prog) (w := w) (bs := bs) m (smq hq) G_is_integer_list
  have G_check_names := ok_check_names (P := l.prog) (w := w) (bs := bs) m (smq hq) G_is_name_list
  have G_stuck_in := ok_stuck_in (P := l.prog) (w := w) (bs := bs) m (smq hq) 
  have G_ways_from := ok_ways_from (P := l.prog) (w := w) (bs := bs) m (smq hq) G_ways_on G_row_with_cell
  have G_stage_after := ok_stage_after (P := l.prog) (w := w) (bs := bs) m (smq hq) G_ways_from
  have G_stages_of := ok_stages_of (P := l.prog) (w := w) (bs := bs) m (smq hq) G_name_of G_stage_after
  have G_stages_of_p := ok_stages_of_p (P := l.prog) (w := w) (bs := bs) m (smq hq) G_stages_of
  have G_stuck_diagonal := ok_stuck_diagonal (P := l.prog) (w := w) (bs := bs) m (smq hq) G_check_names G_stuck_in G_stages_of_p
  have G_set_number := ok_set_number (P := l.prog) (w := w) (bs := bs) m (smq hq) G_possible_lists G_check_names G_stuck_diagonal
  have G_count_sets := ok_count_sets (P := l.prog) (w := w) (bs := bs) m (smq hq) G_check_count G_possible_lists
  have G_law_sends := ok_law_sends (P := l.prog) (w := w) (bs := bs) m (smq hq) 
  have G_law_all := ok_law_all (P := l.prog) (w := w) (bs := bs) m (smq hq) G_law_sends
  have G_law_pot := ok_law_pot (P := l.prog) (w := w) (bs := bs) m (smq hq) 
  have G_law_take := ok_law_take (P := l.prog) (w := w) (bs := bs) m (smq hq) 
  have G_law_one_right := ok_law_one_right (P := l.prog) (w := w) (bs := bs) m (smq hq) G_nth_set G_set_number
  have G_law := ok_law (P := l.prog) (w := w) (bs := bs) m (smq hq) G_nth_set G_set_number G_count_sets G_law_all G_law_pot G_law_take G_law_one_right
  exact G_law
end My
open PySem PySem.W PyProof.Rows
set_option maxHeartbeats 0 in
theorem PySem.Challenge.cw_splitnames_k30_sets_counted_and_numbered_holds : PySem.Challenge.rw_splitnames_k30_sets_counted_and_numbered.Holds := by
  w_on; o_law; k_head; (case hw => w_witness2)
  k_fill
  refine Vg.walk_q (l := PySem.Challenge.rw_splitnames_k30_sets_counted_and_numbered) (n := 63) (k := 10) (x := "script") (C := fun _ => L2.CX0) (sp := fun w => My.sp_law _) rfl (by decide) rfl ⟨rfl, by decide, by decide⟩ (fun w h Y => PySem.W.kIn_of Y) ?F (fun _ _ a ns hl hb _ hS => My.law_end hl hb hS) (fun _ _ _ _ _ h => h)
  case F =>
    intro w mg fa h KX G hmg
    refine' My.all_mk (by decide +kernel) KX G hmg ?a0 ?l0 ?c0 ?k0 ?a1 ?l1 ?c1 ?k1 ?a2 ?l2 ?c2 ?k2 ?a3 ?l3 ?c3 ?k3 ?a4 ?l4 ?c4 ?k4 ?a5 ?l5 ?c5 ?k5 ?a6 ?l6 ?c6 ?k6 ?a7 ?l7 ?c7 ?k7 ?a8 ?l8 ?c8 ?k8 ?a9 ?l9 ?c9 ?k9 ?a10 ?l10 ?c10 ?k10 ?a11 ?l11 ?c11 ?k11 ?a12 ?l12 ?c12 ?k12 ?a13 ?l13 ?c13 ?k13 ?a14 ?l14 ?c14 ?k14 ?a15 ?l15 ?c15 ?k15 ?a16 ?l16 ?c16 ?k16 ?a17 ?l17 ?c17 ?k17 ?a18 ?l18 ?c18 ?k18 ?a19 ?l19 ?c19 ?k19 ?a20 ?l20 ?c20 ?k20 ?a21 ?l21 ?c21 ?k21 ?a22 ?l22 ?c22 ?k22 ?a23 ?l23 ?c23 ?k23 ?a24 ?l24 ?c24 ?k24 ?a25 ?l25 ?c25 ?k25 ?a26 ?l26 ?c26 ?k26 ?a27 ?l27 ?c27 ?k27 ?a28 ?l28 ?c28 ?k28 ?z_bool ?z_enumerate ?z_int ?z_isinstance ?z_len ?z_list ?z_max ?z_min ?z_range ?z_repr ?z_sorted ?z_sum ?z_zip ?q0 ?q1 ?q2
    (case a0 => k_is)
    (case l0 => k_is)
    (case c0 => k_is)
    (case k0 => k_is)
    (case a1 => k_is)
    (case l1 => k_is)
    (case c1 => k_is)
    (case k1 => k_is)
    (case a2 => k_is)
    (case l2 => k_is)
    (case c2 => k_is)
    (case k2 => k_is)
    (case a3 => k_is)
    (case l3 => k_is)
    (case c3 => k_is)
    (case k3 => k_is)
    (case a4 => k_is)
    (case l4 => k_is)
    (case c4 => k_is)
    (case k4 => k_is)
    (case a5 => k_is)
    (case l5 => k_is)
    (case c5 => k_is)
    (case k5 => k_is)
    (case a6 => k_is)
    (case l6 => k_is)
    (case c6 => k_is)
    (case k6 => k_is)
    (case a7 => k_is)
    (case l7 => k_is)
    (case c7 => k_is)
    (case k7 => k_is)
    (case a8 => k_is)
    (case l8 => k_is)
    (case c8 => k_is)
    (case k8 => k_is)
    (case a9 => k_is)
    (case l9 => k_is)
    (case c9 => k_is)
    (case k9 => k_is)
    (case a10 => k_is)
    (case l10 => k_is)
    (case c10 => k_is)
    (case k10 => k_is)
    (case a11 => k_is)
    (case l11 => k_is)
    (case c11 => k_is)
    (case k11 => k_is)
    (case a12 => k_is)
    (case l12 => k_is)
    (case c12 => k_is)
    (case k12 => k_is)
    (case a13 => k_is)
    (case l13 => k_is)
    (case c13 => k_is)
    (case k13 => k_is)
    (case a14 => k_is)
    (case l14 => k_is)
    (case c14 => k_is)
    (case k14 => k_is)
    (case a15 => k_is)
    (case l15 => k_is)
    (case c15 => k_is)
    (case k15 => k_is)
    (case a16 => k_is)
    (case l16 => k_is)
    (case c16 => k_is)
    (case k16 => k_is)
    (case a17 => k_is)
    (case l17 => k_is)
    (case c17 => k_is)
    (case k17 => k_is)
    (case a18 => k_is)
    (case l18 => k_is)
    (case c18 => k_is)
    (case k18 => k_is)
    (case a19 => k_is)
    (case l19 => k_is)
    (case c19 => k_is)
    (case k19 => k_is)
    (case a20 => k_is)
    (case l20 => k_is)
    (case c20 => k_is)
    (case k20 => k_is)
    (case a21 => k_is)
    (case l21 => k_is)
    (case c21 => k_is)
    (case k21 => k_is)
    (case a22 => k_is)
    (case l22 => k_is)
    (case c22 => k_is)
    (case k22 => k_is)
    (case a23 => k_is)
    (case l23 => k_is)
    (case c23 => k_is)
    (case k23 => k_is)
    (case a24 => k_is)
    (case l24 => k_is)
    (case c24 => k_is)
    (case k24 => k_is)
    (case a25 => k_is)
    (case l25 => k_is)
    (case c25 => k_is)
    (case k25 => k_is)
    (case a26 => k_is)
    (case l26 => k_is)
    (case c26 => k_is)
    (case k26 => k_is)
    (case a27 => k_is)
    (case l27 => k_is)
    (case c27 => k_is)
    (case k27 => k_is)
    (case a28 => k_is)
    (case l28 => k_is)
    (case c28 => k_is)
    (case k28 => k_is)
    (case z_bool => k_is)
    (case z_enumerate => k_is)
    (case z_int => k_is)
    (case z_isinstance => k_is)
    (case z_len => k_is)
    (case z_list => k_is)
    (case z_max => k_is)
    (case z_min => k_is)
    (case z_range => k_is)
    (case z_repr => k_is)
    (case z_sorted => k_is)
    (case z_sum => k_is)
    (case z_zip => k_is)
    (case q0 => k_is)
    (case q1 => k_is)
    (case q2 => k_is)

