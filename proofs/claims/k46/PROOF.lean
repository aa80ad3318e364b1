import PyProof.Rows.All
import Wide.All
import OpenK.AllK
import Wide.FinOn
import PyProof.ReprRoads
import HandS.ForMost
import HandS.ForExc
import HandS.Wide
import HandS.EndBits
import HandS.FStrTup
import HandS.Flow
import HandS.IsInst
import HandS.SetFor
import HandS.Conv
import HandS.Style
import HandS.Sort
import PyProof.StrBlock2
import HandS.Text
import HandS.StrMore
import HandS.Property
import HandS.MethStar
import HandS.ClsMeth
import HandS.WordsExc
import HandS.ExcOwn
import HandS.RaiseMore
import HandS.FStr
import HandS.TryOnly
import HandS.ExcIs
import HandS.NoneIn
import KE.DataMinMax
import Flt.Sum
import HandS.SlotsOwn
import HandS.More
import HandS.WordsDict
import HandS.Strs
import PyProof.Rows.SetFrom
import HandS.DictTup
import HandS.TupAny
import HandS.CallLocal
import HandS.Zip
import KE.GoesEnum
import KE.GoesMore
import PyProof.Rows.TupDisplay
import PySem.Challenge.RW_splitnames_k46_desks_beside_runs
set_option Elab.async false
set_option linter.all false
set_option maxRecDepth 100000
set_option maxHeartbeats 2000000
namespace Vg
open PySem PySem.Spec PyProof.Rows L2

/-- a def's promise where no repr is under way around the call -/
structure Fg (P : Program) (w : World) (K : PySem.W.Frag) (mg : Str → Option Value) (bs : Heap) (C : CXT) (n : Nat) (f : Addr) (fd : FuncData) (ps : List Str) (sp : Sp) : Prop where
  ar : ∀ vs H Q E, sp vs H Q E → vs.length = ps.length
  go : ∀ (A : Around) (fr : List Env) (s : Shared) (H : Hp) (gs : Args) (us : List Value) (vs : List V) (Q : VK) (E : XK), A.guards = some [] → Room n A → Env0 P w K mg bs A fr s H →
    BindsTo s fd gs (ps.zip us) → Vals vs us → sp vs H Q E → codeAny (model P w) A (.call (.ref f) gs) (CR C fr P w H s Q E) s

section
variable {P : Program} {w : World} {K : PySem.W.Frag} {mg : Str → Option Value} {bs : Heap} {C : CXT} {n : Nat} {f : Addr} {fd : FuncData} {ps : List Str} {sp : Sp}
theorem Fg.up {m : Nat} (F : Fg P w K mg bs C n f fd ps sp) (h : n ≤ m) : Fg P w K mg bs C m f fd ps sp :=
  ⟨F.ar, fun A fr s H gs us vs Q E g r => F.go A fr s H gs us vs Q E g (r.mono h)⟩
theorem Fg.weaker {sq : Sp} (F : Fg P w K mg bs C n f fd ps sp) (h : ∀ vs H Q E, sq vs H Q E → sp vs H Q E) : Fg P w K mg bs C n f fd ps sq :=
  ⟨fun vs H Q E q => F.ar vs H Q E (h _ _ _ _ q), fun A fr s H gs us vs Q E g r e b v q => F.go A fr s H gs us vs Q E g r e b v (h _ _ _ _ q)⟩

/-- from a body's reading -/
theorem Fg.mk' {N : List Str} {nm qual : Str} {pr : Arguments} {body : List Stmt} {sc : Scope} {dV kV doc pm cdv ct oc : Value} {an od : Option Addr} {osl : Array (Option Value)}
    (lk : K.lookup f = some ⟨oc, od, .func (PySem.W.fnOf nm qual pr body sc dV kV doc pm an cdv ct), osl⟩) (hc : PySem.W.codeIn K cdv qual = true) (S : FnScope N ps sc)
    (ar : ∀ vs H Q E, sp vs H Q E → vs.length = ps.length)
    (hb : ∀ (A : Around) (fr : List Env) (s : Shared) (H : Hp) (vs : List V) (Q : VK) (E : XK), A.guards = some [] → Room n (A.deeper (envOfC qual sc s.heap.objs.size f cdv)) → sp vs H Q E →
      ∃ t, PSs (cxOf C P w K mg bs N qual sc f cdv A fr s H E) body t ∧ t { nx := fun _ H' => Q .non H', rt := Q } (start N vs) H) :
    Fg P w K mg bs C (n + 1) f (PySem.W.fnOf nm qual pr body sc dV kV doc pm an cdv ct) ps sp := by
  refine ⟨ar, fun A fr s H gs us vs Q E hg rm e0 bd rv q => ?_⟩
  have ln := ar _ _ _ _ q
  have kx : K.In s.heap := e0.mod.kin.keeps (fun b o z => (e0.bs b o z).1)
  have nl : s.heap.NoLimit := e0.mod.nolimit.keeps (fun b o z => (e0.bs b o z).1)
  have kd : ∀ y ∈ ps.zip us, sc.names.lookup y.1 = some .local ∨ (sc.names.lookup y.1 = some .cell ∧ ((cellsFrom (s.heap.objs.size + 1) sc.names []).lookup y.1).isSome = true) := by
    rintro ⟨y, v⟩ hy
    cases S.par y (List.of_mem_zip hy).1 with
    | inl z => exact Or.inl z
    | inr z => exact Or.inr ⟨z, PySem.W.cellsFrom_some _ _ _ (Or.inl z)⟩
  refine codeAny_call_function rm.depth (kx _ _ lk) rfl S.co S.gen rfl (PySem.W.codeRec_of kx hc) (bd _ _ _ _ ?_)
  refine wpAny_newFunctionEnv_cells S.kind kd fun en he s1 x => ?_
  subst he
  refine ⟨nl.keeps x.toInCall.keep, codeAny_func ?_⟩
  obtain ⟨t, ht, hq⟩ := hb A fr s H vs Q E hg (rm.deeper _) q
  have I : Inv (cxOf C P w K mg bs N qual sc f cdv A fr s H E) [] (start N vs) H s1 := inv_start S rm.hd e0 ln rv x
  refine wpAny_mono (ht.run [] s1 (start N vs) H _ I hq) (fun fl s' z => ?_) fun e s' z => z
  cases fl with
  | ret u =>
    obtain ⟨v, σ', H', J, r, q'⟩ := z
    exact ⟨v, H', J.os, J.bare, J.base, J.hok, r, q'⟩
  | next =>
    obtain ⟨σ', H', J, q'⟩ := z
    exact ⟨V.non, H', J.os, J.bare, J.base, J.hok, rfl, q'⟩
  | brk => exact z.elim fun _ z => z.elim fun _ z => z.2.elim
  | cont => exact z.elim fun _ z => z.elim fun _ z => z.2.elim
/-- a def of the text; the body may raise -/
theorem okX {N : List Str} {x qual : Str} {st : Stmt} (F : Fun K x qual st f fd) (S : FnScope N ps (defScope st)) (ar : ∀ vs H Q E, sp vs H Q E → vs.length = ps.length)
    (hb : ∀ (cdv : Value) (A : Around) (fr : List Env) (s : Shared) (H : Hp) (vs : List V) (Q : VK) (E : XK), A.guards = some [] → Room n (A.deeper (envOfC qual (defScope st) s.heap.objs.size f cdv)) → sp vs H Q E →
      ∃ t, PSs (cxOf C P w K mg bs N qual (defScope st) f cdv A fr s H E) (defBody st) t ∧ t { nx := fun _ H' => Q .non H', rt := Q } (start N vs) H) : Fg P w K mg bs C (n + 1) f fd ps sp := by
  obtain ⟨oc, od, kV, doc, pm, an, cdv, ct, osl, rfl, lk, hc⟩ := F.ex
  exact Fg.mk' lk hc S ar fun A fr s H vs Q E => hb cdv A fr s H vs Q E
/-- a def of the text that lets nothing out -/
theorem ok {N : List Str} {x qual : Str} {st : Stmt} (F : Fun K x qual st f fd) (S : FnScope N ps (defScope st)) (ar : ∀ vs H Q E, sp vs H Q E → vs.length = ps.length)
    (hb : ∀ (cdv : Value) (A : Around) (fr : List Env) (s : Shared) (H : Hp) (vs : List V) (Q : VK) (E : XK), A.guards = some [] → Room n (A.deeper (envOfC qual (defScope st) s.heap.objs.size f cdv)) → sp vs H Q E →
      ∃ t, PSs (cxOf CX0 P w K mg bs N qual (defScope st) f cdv A fr s H E).nox (defBody st) t ∧ t { nx := fun _ H' => Q .non H', rt := Q } (start N vs) H) : Fg P w K mg bs CX0 (n + 1) f fd ps sp := by
  obtain ⟨oc, od, kV, doc, pm, an, cdv, ct, osl, rfl, lk, hc⟩ := F.ex
  refine Fg.mk' lk hc S ar fun A fr s H vs Q E g r q => ?_
  obtain ⟨t, h1, h2⟩ := hb cdv A fr s H vs Q E g r q
  exact ⟨t, h1.nox, h2⟩
end

section
variable {X : Cx} {C : CXT} {n : Nat} {f : Addr} {fd : FuncData} {ps : List Str} {sp : Sp} {dvs : List V} {ds : List Value} {E : XK} {x m : Str} {p pos apos : Pos} {e o : Expr} {es : List Expr} {ta : TE} {t : TA}
theorem goS {pins : List (Addr × Obj)} {σ : L2.St} {H : Hp} {s : Shared} {Q : VK} {us : List Value} {vs : List V} (F : Fg X.prog X.w X.K X.mg X.base C n f fd ps sp) (g : X.A.guards = some []) (r : Room n X.A)
    (b : Binds X.K fd ps ds) (d : Vals dvs ds) {E : XK} (hx : PassesAt C X σ E) (I : Inv X pins σ H s) (v : Vals vs us) (h : sp (vs ++ dvs) H Q E) : wpAny (model X.prog X.w) X.A (call (.ref f) us) (EP X pins σ Q) X.xe s := by
  have v2 : Vals (vs ++ dvs) (us ++ ds) := v.append d
  have hl : (us ++ ds).length = ps.length := v2.length ▸ F.ar _ _ _ _ h
  refine wpAny_call (codeAny_mono (F.go X.A X.stack s H ⟨us, []⟩ (us ++ ds) (vs ++ dvs) Q E g r I.env0 (b s us I.kIn hl) v2 h) fun z s' hz => ?_)
  match z, hz with
  | .error e, hz => exact hx pins H s e s' I hz
  | .ok (.ret u), hz => exact I.after hz
/-- f(..) -/
def tG (sp : Sp) (dvs : List V) (E : L2.St → XK) (t : TA) : TE := fun σ H Q => t σ H fun vs H1 => sp (vs ++ dvs) H1 Q (E σ)
def tMG (C : Addr) (m : Str) (sp : Sp) (dvs : List V) (E : L2.St → XK) (ta : TE) (t : TA) : TE := fun σ H Q => ta σ H fun x H1 => ∃ a dx fs, x = .ref a ∧ H1 a = some (.ins C dx fs) ∧ fs.lookup m = none ∧
  t σ H1 fun vs H2 => sp (x :: (vs ++ dvs)) H2 Q (E σ)
theorem passG {X : Cx} {σ : L2.St} : PassesAt CX0 X σ E0 := fun _ _ _ _ _ _ h => h.elim
theorem pg_call {E : L2.St → XK} (F : Fg X.prog X.w X.K X.mg X.base C n f fd ps sp) (g : X.A.guards = some []) (r : Room n X.A) (hg : Gl X x) (hm : X.mg x = some (.ref f)) (hk : PySem.W.keepIn X.K (.ref f) = true)
    (b : Binds X.K fd ps ds) (d : Vals dvs ds) (hx : ∀ σ, PassesAt C X σ (E σ)) (ha : PA X (e :: es) t) (hdb : (x == ("__debug__" : Str)) = false := by decide)
    (he : starEach (e :: es) X.env = (false, eval e X.env) :: starEach es X.env := by rfl) (hp : (backTo pos (starEach es X.env)).any (·.1) = false := by rfl) :
    PE X (.Call (.Name x p) (e :: es) [] pos) (tG sp dvs E t) := by
  refine ⟨fun pins s σ H Q I h => ?_⟩
  refine wpAny_Call_Name_kw (ld_glob I hg hm (PySem.W.callWith_K (h₀ := X.base) I.ok.mod.kin hk (thn (ha.run pos pins s σ H _ I h) ?_) he hp) hdb)
  rintro us s1 ⟨vs, H1, J, v, q⟩
  exact ⟨J.kIn, goS F g r b d (hx σ) J v q⟩
theorem pg_call0 {E : L2.St → XK} (F : Fg X.prog X.w X.K X.mg X.base C n f fd ps sp) (g : X.A.guards = some []) (r : Room n X.A) (hg : Gl X x) (hm : X.mg x = some (.ref f)) (hk : PySem.W.keepIn X.K (.ref f) = true)
    (b : Binds X.K fd ps ds) (d : Vals dvs ds) (hx : ∀ σ, PassesAt C X σ (E σ)) (hdb : (x == ("__debug__" : Str)) = false := by decide) : PE X (.Call (.Name x p) [] [] pos) (tG sp dvs E tNil) := by
  refine ⟨fun pins s σ H Q I h => ?_⟩
  exact wpAny_Call_Name_kw (ld_glob I hg hm (PySem.W.callWith_K0 I.kIn hk (goS (us := []) F g r b d (hx σ) I .nil h)) hdb)
theorem pg_meth {Cl : Addr} {E : L2.St → XK} {pl : Sem Bool} (he : PE X o ta) (c : Cls X.K Cl) (hm : Meth X.K Cl m f) (F : Fg X.prog X.w X.K X.mg X.base C n f fd ps sp) (g : X.A.guards = some []) (r : Room n X.A)
    (b : Binds X.K fd ps ds) (d : Vals dvs ds) (hx : ∀ σ, PassesAt C X σ (E σ)) (ha : PA X (e :: es) t)
    (hst : starEach (e :: es) X.env = (false, eval e X.env) :: starEach es X.env := by rfl) (hp : (backTo pos (starEach es X.env)).any (·.1) = false := by rfl)
    (ht : eval (.Call (.Attribute o m apos) (e :: es) [] pos) X.env = (do
      let ov ← eval o X.env
      standAt apos.atName
      let (f, first) ← holding [ov] (getMethod ov m pl)
      callWith pos f first (backTo pos (starEach (e :: es) X.env)) (backToKw pos (keywordEach [] X.env))) := by rfl) :
    PE X (.Call (.Attribute o m apos) (e :: es) [] pos) (tMG Cl m sp dvs E ta t) := by
  refine ⟨fun pins s σ H Q I h => ?_⟩
  refine PySem.W.methodCall_KW (pl := pl) (thn (he.run pins s σ H _ I h) ?_) ht
  rintro u s1 ⟨y, H1, J, ry, a, dx, fs, ey, ea, l, q⟩
  subst ey
  obtain rfl : u = Value.ref a := ry
  refine getmeth_ok J ea c hm l (PySem.W.callWith_K (first := [.ref a]) (h₀ := X.base) I.ok.mod.kin hm.kp (thn (ha.run pos pins s1 σ H1 _ J q) ?_) hst hp)
  rintro us s2 ⟨vs, H2, J2, v, q2⟩
  exact ⟨J2.kIn, goS (us := .ref a :: us) (vs := .ref a :: vs) F g r b d (hx σ) J2 (.cons rfl v) q2⟩
theorem pg_meth0 {Cl : Addr} {E : L2.St → XK} {pl : Sem Bool} (he : PE X o ta) (c : Cls X.K Cl) (hm : Meth X.K Cl m f) (F : Fg X.prog X.w X.K X.mg X.base C n f fd ps sp) (g : X.A.guards = some []) (r : Room n X.A)
    (b : Binds X.K fd ps ds) (d : Vals dvs ds) (hx : ∀ σ, PassesAt C X σ (E σ))
    (ht : eval (.Call (.Attribute o m apos) [] [] pos) X.env = (do
      let ov ← eval o X.env
      standAt apos.atName
      let (f, first) ← holding [ov] (getMethod ov m pl)
      callWith pos f first (backTo pos (starEach [] X.env)) (backToKw pos (keywordEach [] X.env))) := by rfl) :
    PE X (.Call (.Attribute o m apos) [] [] pos) (tMG Cl m sp dvs E ta tNil) := by
  refine ⟨fun pins s σ H Q I h => ?_⟩
  refine PySem.W.methodCall_KW (pl := pl) (thn (he.run pins s σ H _ I h) ?_) ht
  rintro u s1 ⟨y, H1, J, ry, a, dx, fs, ey, ea, l, q⟩
  subst ey
  obtain rfl : u = Value.ref a := ry
  exact getmeth_ok J ea c hm l (PySem.W.callWith_K0 (first := [.ref a]) J.kIn hm.kp (goS (us := [.ref a]) (vs := [.ref a]) F g r b d (hx σ) J (.cons rfl .nil) q))
theorem make_guards {A : Around} {D : Addr} {us : List Value} {kw : List (Str × Value)} (g : A.guards = some []) : (A.under (.builtin "type.__call__" ⟨.ref D :: us, kw⟩)).guards = some [] := by
  first
  | exact g
  | (have h : (Code.builtin "type.__call__" ⟨.ref D :: us, kw⟩).guards = [] := by
       first | rfl | simp [Code.guards, Code.isGuard, guardIds]
     show pushGuards _ A.guards = _
     rw [h, g]; rfl)
/-- C(..) -/
def tKG (Cl : Addr) (sp : Sp) (dvs : List V) (E : L2.St → XK) (t : TA) : TE := fun σ H Q => t σ H fun vs H1 => ∀ x dx, H1 x = none → H1 dx = none → dx ≠ x →
  sp (.ref x :: (vs ++ dvs)) (upd (upd H1 dx (.own x)) x (.ins Cl dx [])) (fun v H2 => v = .non ∧ Q (.ref x) H2) (E σ)
theorem goK {Cl : Addr} {pins : List (Addr × Obj)} {σ : L2.St} {H : Hp} {s : Shared} {Q : VK} {us : List Value} {vs : List V} {E : XK} (M : Mk X.K Cl f) (F : Fg X.prog X.w X.K X.mg X.base C n f fd ps sp) (g : X.A.guards = some [])
    (r : Room (n + 1) X.A) (b : Binds X.K fd ps ds) (d : Vals dvs ds) (hx : PassesAt C X σ E) (I : Inv X pins σ H s) (v : Vals vs us)
    (h : ∀ x dx, H x = none → H dx = none → dx ≠ x → sp (.ref x :: (vs ++ dvs)) (upd (upd H dx (.own x)) x (.ins Cl dx [])) (fun v H2 => v = .non ∧ Q (.ref x) H2) E) :
    wpAny (model X.prog X.w) X.A (call (.ref Cl) us) (EP X pins σ Q) X.xe s := by
  have q := h (s.heap.objs.size + 1) s.heap.objs.size (I.hok.fresh (Nat.le_succ _)) (I.hok.fresh (Nat.le_refl _)) (Nat.ne_of_lt (Nat.lt_succ_self _))
  have J := Inv.made (C := Cl) I
  have v2 : Vals (V.ref (s.heap.objs.size + 1) :: (vs ++ dvs)) (Value.ref (s.heap.objs.size + 1) :: (us ++ ds)) := .cons rfl (v.append d)
  have hl : (Value.ref (s.heap.objs.size + 1) :: us ++ ds).length = ps.length := (v2.length.symm.trans (F.ar _ _ _ _ q) : _)
  refine wpAny_call (make_map (f := f) I.kIn M.makes M.init (beq_iff_eq.mp M.fn) (codeAny_mono (F.go _ X.stack _ _ ⟨Value.ref (s.heap.objs.size + 1) :: us, []⟩ (Value.ref (s.heap.objs.size + 1) :: (us ++ ds)) _ _ E
    (make_guards g) (r.make Cl us []) (J.env0.make Cl us []) (b _ (Value.ref (s.heap.objs.size + 1) :: us) J.kIn hl) v2 q) fun z s' hz => ?_))
  match z, hz with
  | .error e, hz => exact hx pins _ _ e s' J hz
  | .ok (.ret u), hz =>
    obtain ⟨y, H', J3, ry, ey, q3⟩ := J.after hz
    subst ey
    exact ⟨ry, ⟨V.ref (s.heap.objs.size + 1), H', J3, rfl, q3⟩⟩
theorem pg_make {Cl : Addr} {E : L2.St → XK} (M : Mk X.K Cl f) (F : Fg X.prog X.w X.K X.mg X.base C n f fd ps sp) (g : X.A.guards = some []) (r : Room (n + 1) X.A) (hg : Gl X x) (hm : X.mg x = some (.ref Cl))
    (b : Binds X.K fd ps ds) (d : Vals dvs ds) (hx : ∀ σ, PassesAt C X σ (E σ)) (ha : PA X (e :: es) t) (hdb : (x == ("__debug__" : Str)) = false := by decide)
    (he : starEach (e :: es) X.env = (false, eval e X.env) :: starEach es X.env := by rfl) (hp : (backTo pos (starEach es X.env)).any (·.1) = false := by rfl) :
    PE X (.Call (.Name x p) (e :: es) [] pos) (tKG Cl sp dvs E t) := by
  refine ⟨fun pins s σ H Q I h => ?_⟩
  refine wpAny_Call_Name_kw (ld_glob I hg hm (PySem.W.callWith_K (h₀ := X.base) I.ok.mod.kin M.kp (thn (ha.run pos pins s σ H _ I h) ?_) he hp) hdb)
  rintro us s1 ⟨vs, H1, J, v, q⟩
  exact ⟨J.kIn, goK M F g r b d (hx σ) J v q⟩
theorem pg_make0 {Cl : Addr} {E : L2.St → XK} (M : Mk X.K Cl f) (F : Fg X.prog X.w X.K X.mg X.base C n f fd ps sp) (g : X.A.guards = some []) (r : Room (n + 1) X.A) (hg : Gl X x) (hm : X.mg x = some (.ref Cl))
    (b : Binds X.K fd ps ds) (d : Vals dvs ds) (hx : ∀ σ, PassesAt C X σ (E σ)) (hdb : (x == ("__debug__" : Str)) = false := by decide) : PE X (.Call (.Name x p) [] [] pos) (tKG Cl sp dvs E tNil) := by
  refine ⟨fun pins s σ H Q I h => ?_⟩
  exact wpAny_Call_Name_kw (ld_glob I hg hm (PySem.W.callWith_K0 I.kIn M.kp (goK (us := []) M F g r b d (hx σ) I .nil h)) hdb)
end

/-! ### the law's own call -/
section
variable {P : Program} {w : World} {K : PySem.W.Frag} {mg mb : Str → Option Value} {C : CXT} {n : Nat} {fa a : Addr} {fd : FuncData} {x : Str} {sp : Sp} {s1 : Shared} {us : List Value} {ns : List Int}
/-- from an abstract heap that tracks the script at most -/
theorem law_from (H : Hp) (KX : K.In s1.heap) (n1 : s1.heap.Ns mainGlobals mg) (n2 : s1.heap.Ns builtinsNs mb) (n3 : ∀ x : Str, x ≠ "__name__" → mb x = bootBuiltins x) (n4 : s1.heap.NoLimit) (n5 : s1.gens = #[])
    (ha : s1.heap.get? a = some { cls := .type "list", data := .seq us.toArray }) (hr : Room n callerA)
    (F : ∀ bs : Heap, K.In bs → bs.Ns mainGlobals mg → (s1.heap.NoSeer → ∃ mm, bs.Ns sysModules mm) → Fg P w K mg bs C n fa fd [x] sp) (hb : ∀ (s : Shared) (u : Value), BindsTo s fd ⟨[u], []⟩ [(x, u)])
    (hO : Only H) (hok : HOk P w H s1.heap) (hA : ∀ b, H b ≠ none → b = a ∧ K.lookup a = none) (q : sp [.ref a] H (fun v _ => v = .bl true) fun _ _ _ => False)
    (hC : ∀ e s', C [] H s1 (fun _ _ _ => False) e s' → False) :
    codeAny (model P w) callerA (.call (.ref fa) ⟨[.ref a], []⟩) (fun r s' => r = .ok (.ret (.bool true)) ∧ OldK s1.heap s'.heap ∧ s'.os = s1.os ∧ AllBare s'.gens) s1 := by
  have nf : ∀ {b : Addr}, b ≠ a → H b = none := fun {b} hb => Classical.byContradiction fun z => hb (hA b z).1
  have und : ∀ {b : Addr} {o : Obj}, s1.heap.get? b = some o → H b = none → (hidT s1.heap H).get? b = some o := fun z1 z2 => hidT_get z1 z2
  have nd : ∀ {b : Addr} {o : Obj} {es : Array DictEntry} {ep : Nat}, s1.heap.get? b = some o → o.data = .dict es ep → H b = none := by
    intro b o es ep z1 z2
    refine nf fun e => ?_
    subst e
    rw [ha] at z1
    cases z1
    exact absurd z2 (by intro z; cases z)
  have nsH : ∀ {b : Addr} {m : Str → Option Value}, s1.heap.Ns b m → (hidT s1.heap H).Ns b m := fun ⟨o, es, ep, z1, z2, r⟩ => ⟨o, es, ep, und z1 (nd z1 z2), z2, r⟩
  have kH : K.In (hidT s1.heap H) := by
    intro b o z
    refine und (KX b o z) (Classical.byContradiction fun c => ?_)
    obtain ⟨e, l⟩ := hA b c
    rw [e, l] at z
    cases z
  have md : Mod K mg (hidT s1.heap H) := ⟨kH, nsH n1, ⟨mb, nsH n2, n3⟩, n4.elim fun mc z => ⟨mc, nsH z.1, z.2⟩⟩
  have e0 : Env0 P w K mg (hidT s1.heap H) callerA [] s1 H := ⟨rfl, md, fun b o z => of_hidT z, Nat.le_of_eq (hidT_size _ _), trivial, fun b z => (List.not_mem_nil z).elim, hok, AllBare.of_eq n5⟩
  refine codeAny_mono ((F _ kH (nsH n1) fun z => z.mods.elim fun mm h => ⟨mm, nsH h.1⟩).go callerA [] s1 H ⟨[.ref a], []⟩ [.ref a] [.ref a] _ _ rfl hr e0 (hb s1 (.ref a)) (.cons rfl .nil) q) fun r s' z => ?_
  match r, z with
  | .error e, z => exact (hC e s' z).elim
  | .ok (.ret u), ⟨v, H', o1, o2, un, hok', rv, ev⟩ =>
    have ev' : v = .bl true := ev
    subst ev'
    obtain rfl : u = Value.bool true := rv
    refine ⟨rfl, OldK.of_keep fun b o z => ?_, o1, o2⟩
    rcases hO b with c | ⟨ob, xs, c⟩
    · exact un.keep b o z c (fun y => (List.not_mem_nil y).elim) (fun y => (List.not_mem_nil y).elim)
    · obtain ⟨z1, _⟩ := hok b _ c
      obtain ⟨z2, _⟩ := hok' b _ (un.frzs b ob _ c)
      rw [z] at z1
      cases z1
      exact z2
theorem law_go (KX : K.In s1.heap) (n1 : s1.heap.Ns mainGlobals mg) (n2 : s1.heap.Ns builtinsNs mb) (n3 : ∀ x : Str, x ≠ "__name__" → mb x = bootBuiltins x) (n4 : s1.heap.NoLimit) (n5 : s1.gens = #[])
    (ha : s1.heap.get? a = some { cls := .type "list", data := .seq us.toArray }) (hi : IntsAre us ns) (hl : ns.length ≤ sizeLine) (hr : Room n callerA)
    (F : ∀ bs : Heap, K.In bs → bs.Ns mainGlobals mg → (s1.heap.NoSeer → ∃ mm, bs.Ns sysModules mm) → Fg P w K mg bs C n fa fd [x] sp) (hb : ∀ (s : Shared) (u : Value), BindsTo s fd ⟨[u], []⟩ [(x, u)])
    (q : ∀ H : Hp, Only H → SqL K H a (ns.map V.int) → sp [.ref a] H (fun v _ => v = .bl true) fun _ _ _ => False) (hC : ∀ H e s', C [] H s1 (fun _ _ _ => False) e s' → False) :
    codeAny (model P w) callerA (.call (.ref fa) ⟨[.ref a], []⟩) (fun r s' => r = .ok (.ret (.bool true)) ∧ OldK s1.heap s'.heap ∧ s'.os = s1.os ∧ AllBare s'.gens) s1 := by
  have lu := hi.length
  cases hk : K.lookup a with
  | some o =>
    have e := KX a o hk
    rw [ha] at e
    cases e
    have hO : Only (fun _ => none) := fun _ => Or.inl rfl
    refine law_from (fun _ => none) KX n1 n2 n3 n4 n5 ha hr F hb hO (fun b u z => (by cases z)) (fun b z => absurd rfl z) (q _ hO (Or.inr ⟨_, us.toArray, _, hk, rfl, rfl, rfl, ?_, ?_⟩)) fun e s' => hC _ e s'
    · rw [List.size_toArray, lu]
      exact hl
    · exact vals_ints hi
  | none =>
    let H0 : Hp := fun b => if b = a then some (.frz { cls := .type "list", data := .seq us.toArray } (.lst (ns.map V.int))) else none
    have h1 : H0 a = some (.frz { cls := .type "list", data := .seq us.toArray } (.lst (ns.map V.int))) := if_pos rfl
    have h2 : ∀ {b : Addr}, b ≠ a → H0 b = none := fun z => if_neg z
    have hO : Only H0 := fun b => by
      by_cases c : b = a
      · subst c
        exact Or.inr ⟨_, _, h1⟩
      · exact Or.inl (h2 c)
    refine law_from H0 KX n1 n2 n3 n4 n5 ha hr F hb hO (fun b u z => ?_) (fun b z => ⟨Classical.byContradiction fun c => z (h2 c), hk⟩) (q _ hO (Or.inl (Or.inr ⟨_, h1⟩))) fun e s' => hC _ e s'
    by_cases c : b = a
    · subst c
      cases h1.symm.trans z
      exact ⟨ha, by rw [List.length_map]; exact hl, us, _, vals_ints hi, ha⟩
    · cases (h2 c).symm.trans z
end
theorem walk_q {l : PySem.W.OpenLaw} {n k : Nat} {q : Program} {loose : List Str} {XP : (Str → Option Value) → Heap → Prop} {YP : World → Heap → Prop} {d : DefRec} {K : Params → PySem.W.Frag} {C : World → CXT} {sp : World → Sp} {x : Str}
    (hn : l.most = some n) (hn2 : n ≤ sizeLine) (hdf : d.params.defaults = []) (hr : Room k callerA) (hY : ∀ (w : World) (h : Heap), YP w h → (K w.params).In h)
    (F : ∀ (w : World) (mg : Str → Option Value) (fa : Addr) (h : Heap), (K w.params).In h → h.Ns mainGlobals mg → mg d.name = some (.ref fa) →
      ∃ fd : FuncData, (∀ (s : Shared) (u : Value), BindsTo s fd ⟨[u], []⟩ [(x, u)]) ∧ ∀ bs : Heap, (K w.params).In bs → bs.Ns mainGlobals mg → (PyProof.Rows.importsNone q = true → ∃ mm, bs.Ns sysModules mm) → Fg l.prog w (K w.params) mg bs (C w) k fa fd [x] (sp w))
    (hsp : ∀ (w : World) (H : Hp) (a : Addr) (ns : List Int), ns.length ≤ n → (∀ z ∈ ns, Builtin.Int.intBits z ≤ 1048576) → Only H → SqL (K w.params) H a (ns.map V.int) → sp w [.ref a] H (fun v _ => v = .bl true) fun _ _ _ => False)
    (hC : ∀ (w : World) (H : Hp) (s : Shared) (e : Value) (s' : Shared), C w [] H s (fun _ _ _ => False) e s' → False) :
    PySem.W.WalkO q loose XP YP l.row.toRowW d [] (fun f vs => PySem.call f vs) := by
  refine Att.attach_callB hn hdf fun w s0 s1 mg mb fa o pm cd doc a us ns G Y ho hd hcd hmg hobj hi hlen hbits hg => ?_
  obtain ⟨fd, hb, hF⟩ := F w mg fa _ (hY w _ Y) G.T.g hmg
  exact law_go (hY w _ Y) G.T.g G.T.b G.T.builtins G.T.nolimit hg hobj hi (Nat.le_trans hlen hn2) hr (fun bs h1 h2 h3 => hF bs h1 h2 fun z => h3 (G.T.seer z)) hb (fun H hO hS => hsp w H a ns hlen hbits hO hS) fun H e s' => hC w H s1 e s'
theorem walk_g {l : PySem.W.OpenLaw} {n k : Nat} {q : Program} {loose : List Str} {XP : (Str → Option Value) → Heap → Prop} {YP : World → Heap → Prop} {d : DefRec} {K : Params → PySem.W.Frag} {C : World → CXT} {sp : World → Sp} {x : Str}
    (hn : l.most = some n) (hn2 : n ≤ sizeLine) (hdf : d.params.defaults = []) (hr : Room k callerA) (hY : ∀ (w : World) (h : Heap), YP w h → (K w.params).In h)
    (F : ∀ (w : World) (mg : Str → Option Value) (fa : Addr) (h : Heap), (K w.params).In h → h.Ns mainGlobals mg → mg d.name = some (.ref fa) →
      ∃ fd : FuncData, (∀ (s : Shared) (u : Value), BindsTo s fd ⟨[u], []⟩ [(x, u)]) ∧ ∀ bs : Heap, (K w.params).In bs → bs.Ns mainGlobals mg → Fg l.prog w (K w.params) mg bs (C w) k fa fd [x] (sp w))
    (hsp : ∀ (w : World) (H : Hp) (a : Addr) (ns : List Int), ns.length ≤ n → (∀ z ∈ ns, Builtin.Int.intBits z ≤ 1048576) → Only H → SqL (K w.params) H a (ns.map V.int) → sp w [.ref a] H (fun v _ => v = .bl true) fun _ _ _ => False)
    (hC : ∀ (w : World) (H : Hp) (s : Shared) (e : Value) (s' : Shared), C w [] H s (fun _ _ _ => False) e s' → False) :
    PySem.W.WalkO q loose XP YP l.row.toRowW d [] (fun f vs => PySem.call f vs) :=
  walk_q hn hn2 hdf hr hY (fun w mg fa h h1 h2 h3 => let ⟨fd, hb, hF⟩ := F w mg fa h h1 h2 h3; ⟨fd, hb, fun bs k1 k2 _ => hF bs k1 k2⟩) hsp hC
end Vg


set_option Elab.async false
set_option linter.all false
set_option maxRecDepth 100000
set_option maxHeartbeats 2000000
namespace Vg
open PySem PySem.Spec PyProof.Rows L2

/-! ### how long a text repr gives -/
theorem lt_one {n : Nat} (ts : List Str) (h : ∀ t ∈ ts, t.length ≤ n) : piled ts ≤ ts.length * (n + 2) := by
  induction ts with
  | nil => exact Nat.zero_le _
  | cons t r ih =>
    have h1 := h t List.mem_cons_self
    have h2 := ih fun u hu => h u (List.mem_cons_of_mem _ hu)
    rw [piled_cons, List.length_cons, Nat.succ_mul]
    omega
theorem listText_le (ts : List Str) : (listText ts).length ≤ piled ts + 2 := by
  cases ts with
  | nil => exact Nat.le_refl _
  | cons t r =>
    have h := textFrom_length_pos r 1 (("[" : Str) ++ (if (0 : Nat) > 0 then ", " else "" : String) ++ t) (Nat.succ_pos 0)
    have e : (("[" : Str) ++ (if (0 : Nat) > 0 then ", " else "" : String) ++ t).length = 1 + t.length := by
      rw [strLen_append, strLen_append]; rfl
    have x : (listText (t :: r)).length = (textFrom 0 "[" (t :: r)).length + 1 := by
      show (textFrom 0 "[" (t :: r) ++ "]").length = _
      rw [strLen_append]; rfl
    have y : textFrom 0 "[" (t :: r) = textFrom 1 (("[" : Str) ++ (if (0 : Nat) > 0 then ", " else "" : String) ++ t) r := rfl
    rw [x, y, h, e, piled_cons]
    omega
theorem shownAll_map : ∀ ds : List PyData, PyData.shownAll ds = ds.map PyData.shown
  | [] => rfl
  | d :: r => by
    rw [PyData.shownAll, shownAll_map r]; rfl
theorem showableAll_all : ∀ ds : List PyData, (∀ d ∈ ds, d.showable = true) → PyData.showableAll ds = true
  | [], _ => rfl
  | d :: r, h => by
    rw [PyData.showableAll, h d List.mem_cons_self, showableAll_all r fun e he => h e (List.mem_cons_of_mem _ he)]; rfl
theorem hasDictAll_all : ∀ ds : List PyData, (∀ d ∈ ds, d.hasDict = false) → PyData.hasDictAll ds = false
  | [], _ => rfl
  | d :: r, h => by
    rw [PyData.hasDictAll, h d List.mem_cons_self, hasDictAll_all r fun e he => h e (List.mem_cons_of_mem _ he)]; rfl
theorem depthAll_le {k : Nat} : ∀ ds : List PyData, (∀ d ∈ ds, d.depth ≤ k) → PyData.depthAll ds ≤ k
  | [], _ => Nat.zero_le _
  | d :: r, h => by
    rw [PyData.depthAll]
    exact Nat.max_le.mpr ⟨h d List.mem_cons_self, depthAll_le r fun e he => h e (List.mem_cons_of_mem _ he)⟩
/-- data that repr writes in at most n signs, nested at most k deep -/
structure Shw (n k : Nat) (d : PyData) : Prop where
  sh : d.showable = true
  nd : d.hasDict = false
  dp : d.depth ≤ k
  sz : d.shown.length ≤ n
theorem Shw.up {n k m j : Nat} {d : PyData} (h : Shw n k d) (h1 : n ≤ m) (h2 : k ≤ j) : Shw m j d := ⟨h.sh, h.nd, Nat.le_trans h.dp h2, Nat.le_trans h.sz h1⟩
theorem Shw.non : Shw 4 1 .none := ⟨rfl, rfl, by decide +kernel, by decide +kernel⟩
theorem Shw.bl (b : Bool) : Shw 5 1 (.bool b) := by cases b <;> exact ⟨rfl, rfl, by decide +kernel, by decide +kernel⟩
theorem Shw.str (x : Str) (h : ∀ c ∈ x.cps.toList, c < 16 ^ 8) : Shw (10 * x.length + 2) 1 (.str x) := ⟨by rw [PyData.showable], by rw [PyData.hasDict], by simp [PyData.depth], by rw [PyData.shown]; exact StrLaws.reprText_len x h⟩
theorem Shw.int {k : Nat} {i : Int} (hk : 0 < k) (hk2 : k ≤ 1920) (h : i.natAbs < 2 ^ k) : Shw (k + 1) 1 (.int i) := by
  refine ⟨?_, by rw [PyData.hasDict], by simp [PyData.depth], ?_⟩
  · rw [PyData.showable]
    exact decide_eq_true (Nat.lt_of_lt_of_le (PySem.Flt.log2_lt_of hk h) hk2)
  · rw [PyData.shown]
    show (Str.ofString (toString i)).length ≤ _
    rw [PySem.ofString_length]
    exact int_text_length_le hk (PySem.Flt.log2_lt_of hk h)
theorem Shw.lst {n k : Nat} {ds : List PyData} (h : ∀ d ∈ ds, Shw n k d) : Shw (ds.length * (n + 2) + 2) (k + 1) (.list ds) := by
  refine ⟨?_, ?_, ?_, ?_⟩
  · rw [PyData.showable]
    exact showableAll_all ds fun d hd => (h d hd).sh
  · rw [PyData.hasDict]
    exact hasDictAll_all ds fun d hd => (h d hd).nd
  · simp only [PyData.depth]
    have := depthAll_le ds fun d hd => (h d hd).dp
    omega
  · rw [PyData.shown, shownAll_map]
    refine Nat.le_trans (listText_le _) ?_
    have := lt_one (n := n) (ds.map PyData.shown) (by
      intro t ht
      obtain ⟨d, hd, rfl⟩ := List.mem_map.mp ht
      exact (h d hd).sz)
    rw [List.length_map] at this
    omega
theorem Shw.tup {n k : Nat} {ds : List PyData} (h : ∀ d ∈ ds, Shw n k d) : Shw (ds.length * (n + 2) + 2) (k + 1) (.tuple ds) := by
  refine ⟨?_, ?_, ?_, ?_⟩
  · rw [PyData.showable]
    exact showableAll_all ds fun d hd => (h d hd).sh
  · rw [PyData.hasDict]
    exact hasDictAll_all ds fun d hd => (h d hd).nd
  · simp only [PyData.depth]
    have := depthAll_le ds fun d hd => (h d hd).dp
    omega
  · rw [PyData.shown, shownAll_map]
    refine Nat.le_trans (fmt_text _) ?_
    have := lt_one (n := n) (ds.map PyData.shown) (by
      intro t ht
      obtain ⟨d, hd, rfl⟩ := List.mem_map.mp ht
      exact (h d hd).sz)
    rw [List.length_map] at this
    omega

/-! ### repr -/
def rRepr (K : PySem.W.Frag) : List V → Hp → VK → Prop := fun xs H Q => ∃ x d, xs = [x] ∧ Dp K H x d ∧ Shw 16000000 60 d ∧ Q (.str d.shown) H
theorem call_repr {X : Cx} {n : Nat} (g : X.A.guards = some []) (r : Room n X.A) : CallR X (.builtin "repr") (rRepr X.K) := by
  intro pins s σ H xs us Q I rv h
  obtain ⟨x, d, rfl, hd, sw, q⟩ := h
  obtain ⟨u, rfl, ru⟩ := vals1 rv
  have hz : d.shown.length ≤ sizeLine := Nat.le_trans sw.sz (by decide)
  have hu := r.units
  cases hd with
  | non =>
    cases ru
    rw [PyData.shown] at q
    exact PySem.P.repr_of_none ⟨.str _, H, I.tok _, ⟨_, rfl⟩, q⟩
  | bl b =>
    cases ru
    rw [PyData.shown] at q
    exact PySem.P.repr_of_bool ⟨.str _, H, I.tok _, ⟨_, rfl⟩, q⟩
  | int i =>
    obtain ⟨t, rfl⟩ := ru
    have hs := sw.sh
    rw [PyData.showable] at hs
    rw [PyData.shown] at q
    exact PySem.P.repr_of_int (of_decide_eq_true hs) ⟨.str _, H, I.tok _, ⟨_, rfl⟩, q⟩
  | str y =>
    obtain ⟨t, rfl⟩ := ru
    rw [PyData.shown] at hz q
    exact PySem.P.repr_of_str ⟨.str _, H, I.tok _, ⟨_, rfl⟩, q⟩ hz
  | lst hs ha =>
    obtain rfl : u = Value.ref _ := ru
    obtain ⟨as, rd⟩ := Dp.reads I _ _ _ (Dp.lst hs ha) rfl
    refine repr_of_reads' rd sw.sh (fun z => by rw [sw.nd] at z; cases z) g (by have := sw.dp; omega) (fun _ _ z => z) (fun h' u tk hk => ?_) hz
    exact ⟨.str _, H, I.call' (s' := { s with heap := h', toks := tk }) (ch := []) rfl (Un.kept hk) (I.hok.kept hk) I.bare (fun b z => (List.not_mem_nil z).elim), ⟨u, rfl⟩, q⟩
  | tup hs ha =>
    obtain rfl : u = Value.ref _ := ru
    obtain ⟨as, rd⟩ := Dp.reads I _ _ _ (Dp.tup hs ha) rfl
    refine repr_of_reads' rd sw.sh (fun z => by rw [sw.nd] at z; cases z) g (by have := sw.dp; omega) (fun _ _ z => z) (fun h' u tk hk => ?_) hz
    exact ⟨.str _, H, I.call' (s' := { s with heap := h', toks := tk }) (ch := []) rfl (Un.kept hk) (I.hok.kept hk) I.bare (fun b z => (List.not_mem_nil z).elim), ⟨u, rfl⟩, q⟩

/-! ### x ** k of great numbers -/
theorem op_powW {X : Cx} : OpR X (binaryOp .Pow) (rI (fun i j => 0 ≤ j ∧ (Builtin.Int.intBits i : Int) * j ≤ 2 ^ 27) fun i j => .int (i ^ j.toNat)) := opI fun _ _ _ _ _ _ _ hc q => pow_int hc.1 hc.2 q
theorem bits_le {i : Int} {n : Nat} (hn : 0 < n) (h : i.natAbs < 2 ^ n) : Builtin.Int.intBits i ≤ n := by
  have := PySem.Flt.log2_lt_of hn h
  unfold Builtin.Int.intBits
  split <;> omega
end Vg


set_option Elab.async false
set_option linter.all false
set_option maxRecDepth 100000
set_option maxHeartbeats 2000000
namespace Vg
open PySem PySem.Spec PyProof.Rows L2

/-! ### the ledger: over a heap B that stands, what is owned -/
structure Led (B H : Hp) (l : List (Addr × HO)) : Prop where
  sm : Same B H
  nd : (l.map (·.1)).Nodup
  fr : ∀ e ∈ l, B e.1 = none
  hs : ∀ e ∈ l, H e.1 = some e.2
inductive Put : List (Addr × HO) → Addr → HO → List (Addr × HO) → Prop
  | hd {p : Addr} {o o' : HO} {l : List (Addr × HO)} : Put ((p, o) :: l) p o' ((p, o') :: l)
  | tl {e : Addr × HO} {p : Addr} {o' : HO} {l l' : List (Addr × HO)} : Put l p o' l' → Put (e :: l) p o' (e :: l')
/-- the entries of l' are, one by one, entries of l -/
inductive Pick : List (Addr × HO) → Addr × HO → List (Addr × HO) → Prop
  | hd {e : Addr × HO} {l : List (Addr × HO)} : Pick (e :: l) e l
  | tl {d e : Addr × HO} {l l' : List (Addr × HO)} : Pick l e l' → Pick (d :: l) e (d :: l')
inductive Sel : List (Addr × HO) → List (Addr × HO) → Prop
  | nil {l : List (Addr × HO)} : Sel l []
  | all {l : List (Addr × HO)} : Sel l l
  | cons {e : Addr × HO} {l r l' : List (Addr × HO)} : Pick l e r → Sel r l' → Sel l (e :: l')
  | skip {e : Addr × HO} {l l' : List (Addr × HO)} : Sel l l' → Sel (e :: l) l'
section
variable {B H : Hp} {l l' : List (Addr × HO)} {p q : Addr} {o o' : HO}
theorem Led.nil (H : Hp) : Led H H [] := ⟨Same.refl H, List.nodup_nil, fun _ h => (List.not_mem_nil h).elim, fun _ h => (List.not_mem_nil h).elim⟩
theorem Led.at (L : Led B H l) (h : (p, o) ∈ l) : H p = some o := L.hs _ h
theorem Led.seq {K : PySem.W.Frag} {a : Addr} {xs : List V} (L : Led B H l) (h : SqL K B a xs) : SqL K H a xs := L.sm.seq h
theorem Led.lstAt {K : PySem.W.Frag} {a : Addr} {xs : List V} (L : Led B H l) (h : (a, HO.lst xs) ∈ l) : SqL K H a xs := Or.inl (Or.inl (L.at h))
theorem Led.tupAt {K : PySem.W.Frag} {a : Addr} {xs : List V} (L : Led B H l) (h : (a, HO.tup xs) ∈ l) : SqT K H a xs := Or.inl (Or.inl (L.at h))
theorem Led.new (L : Led B H l) (h : H p = none) : Led B (upd H p o) ((p, o) :: l) := by
  have hb : B p = none := L.sm.free h
  have ne : ∀ e ∈ l, e.1 ≠ p := fun e he z => by
    have := L.hs e he
    rw [z, h] at this
    cases this
  refine ⟨fun a u z => ?_, ?_, fun e he => ?_, fun e he => ?_⟩
  · rw [upd_ne (ne_of_none (L.sm a u z) h)]
    exact L.sm a u z
  · rw [List.map_cons]
    refine List.nodup_cons.mpr ⟨fun z => ?_, L.nd⟩
    obtain ⟨e, he, e2⟩ := List.mem_map.mp z
    exact ne e he e2
  · rcases List.mem_cons.mp he with z | z
    · rw [z]; exact hb
    · exact L.fr e z
  · rcases List.mem_cons.mp he with z | z
    · rw [z]; exact upd_same
    · rw [upd_ne (ne e z)]; exact L.hs e z
theorem Put.map (h : Put l p o' l') : l'.map (·.1) = l.map (·.1) := by
  induction h with
  | hd => rfl
  | tl _ ih => rw [List.map_cons, List.map_cons, ih]
theorem Put.mem (h : Put l p o' l') : ∀ e ∈ l', e = (p, o') ∨ e ∈ l := by
  induction h with
  | hd => intro e he; exact (List.mem_cons.mp he).imp id fun z => List.mem_cons_of_mem _ z
  | tl _ ih =>
    intro e he
    rcases List.mem_cons.mp he with z | z
    · exact Or.inr (z ▸ List.mem_cons_self)
    · exact (ih e z).imp id fun z => List.mem_cons_of_mem _ z
theorem Put.of (h : Put l p o' l') : p ∈ l.map (·.1) := by
  induction h with
  | hd => exact List.mem_cons_self
  | tl _ ih => exact List.mem_cons_of_mem _ ih
theorem Put.pm (h : Put l p o' l') : (p, o') ∈ l' := by
  induction h with
  | hd => exact List.mem_cons_self
  | tl _ ih => exact List.mem_cons_of_mem _ ih
theorem mem_apart {l : List (Addr × HO)} (nd : (l.map (·.1)).Nodup) {e d : Addr × HO} (h1 : e ∈ l) (h2 : d ∈ l) (h : e.1 = d.1) : e = d := by
  induction l with
  | nil => cases h1
  | cons x r ih =>
    rw [List.map_cons] at nd
    obtain ⟨n1, n2⟩ := List.nodup_cons.mp nd
    rcases List.mem_cons.mp h1 with z1 | z1
    · rcases List.mem_cons.mp h2 with z2 | z2
      · rw [z1, z2]
      · exact (n1 (by rw [← z1, h]; exact List.mem_map_of_mem z2)).elim
    · rcases List.mem_cons.mp h2 with z2 | z2
      · exact (n1 (by rw [← z2, ← h]; exact List.mem_map_of_mem z1)).elim
      · exact ih n2 z1 z2
theorem Led.put (L : Led B H l) (h : Put l p o' l') : Led B (upd H p o') l' := by
  obtain ⟨e0, he0, e1⟩ := List.mem_map.mp h.of
  have hp : B p = none := by rw [← e1]; exact L.fr e0 he0
  have nd' : (l'.map (·.1)).Nodup := by rw [h.map]; exact L.nd
  have pm : (p, o') ∈ l' := h.pm
  refine ⟨fun a u z => ?_, nd', fun e he => ?_, fun e he => ?_⟩
  · rw [upd_ne (ne_of_none z hp)]
    exact L.sm a u z
  · rcases h.mem e he with z | z
    · rw [z]; exact hp
    · exact L.fr e z
  · by_cases c : e.1 = p
    · have e2 : e = (p, o') := mem_apart nd' he pm c
      rw [e2]; exact upd_same
    · rw [upd_ne c]
      rcases h.mem e he with z | z
      · exact absurd (by rw [z]) c
      · exact L.hs e z
theorem Pick.sub {e : Addr × HO} (h : Pick l e l') : (∀ d ∈ e :: l', d ∈ l) ∧ ((l.map (·.1)).Nodup → ((e :: l').map (·.1)).Nodup) := by
  induction h with
  | hd => exact ⟨fun _ h => h, fun h => h⟩
  | @tl d e l l' _ ih =>
    refine ⟨fun c hc => ?_, fun n => ?_⟩
    · rcases List.mem_cons.mp hc with z | z
      · exact List.mem_cons_of_mem _ (ih.1 c (z ▸ List.mem_cons_self))
      · rcases List.mem_cons.mp z with z | z
        · exact z ▸ List.mem_cons_self
        · exact List.mem_cons_of_mem _ (ih.1 c (List.mem_cons_of_mem _ z))
    · rw [List.map_cons] at n
      obtain ⟨n1, n2⟩ := List.nodup_cons.mp n
      have n3 := ih.2 n2
      rw [List.map_cons] at n3
      obtain ⟨n4, n5⟩ := List.nodup_cons.mp n3
      rw [List.map_cons, List.map_cons]
      refine List.nodup_cons.mpr ⟨fun z => ?_, List.nodup_cons.mpr ⟨fun z => ?_, n5⟩⟩
      · rcases List.mem_cons.mp z with z | z
        · exact n1 (by rw [← z]; exact List.mem_map_of_mem (ih.1 e List.mem_cons_self))
        · exact n4 z
      · obtain ⟨c, hc, ec⟩ := List.mem_map.mp z
        exact n1 (by rw [← ec]; exact List.mem_map_of_mem (ih.1 c (List.mem_cons_of_mem _ hc)))
theorem Sel.sub (h : Sel l l') : (∀ d ∈ l', d ∈ l) ∧ ((l.map (·.1)).Nodup → (l'.map (·.1)).Nodup) := by
  induction h with
  | nil => exact ⟨fun _ h => (List.not_mem_nil h).elim, fun _ => List.nodup_nil⟩
  | all => exact ⟨fun _ h => h, fun h => h⟩
  | @skip e l l' _ ih => exact ⟨fun d hd => List.mem_cons_of_mem _ (ih.1 d hd), fun n => ih.2 (by rw [List.map_cons] at n; exact (List.nodup_cons.mp n).2)⟩
  | @cons e l r l' hp hs ih =>
    obtain ⟨p1, p2⟩ := hp.sub
    refine ⟨fun d hd => ?_, fun n => ?_⟩
    · rcases List.mem_cons.mp hd with z | z
      · exact p1 d (z ▸ List.mem_cons_self)
      · exact p1 d (List.mem_cons_of_mem _ (ih.1 d z))
    · have n2 := p2 n
      rw [List.map_cons] at n2
      obtain ⟨n3, n4⟩ := List.nodup_cons.mp n2
      rw [List.map_cons]
      refine List.nodup_cons.mpr ⟨fun z => n3 ?_, ih.2 n4⟩
      obtain ⟨d, hd, ed⟩ := List.mem_map.mp z
      rw [← ed]; exact List.mem_map_of_mem (ih.1 d hd)
/-- keep some entries, in any order -/
theorem Led.sel (L : Led B H l) (h : Sel l l') : Led B H l' := ⟨L.sm, h.sub.2 L.nd, fun e he => L.fr e (h.sub.1 e he), fun e he => L.hs e (h.sub.1 e he)⟩
theorem Led.drop {n : Nat} (L : Led B H l) : Led B H (l.drop n) := ⟨L.sm, (L.nd.sublist ((List.drop_sublist n l).map _)), fun e he => L.fr e (List.mem_of_mem_drop he), fun e he => L.hs e (List.mem_of_mem_drop he)⟩
/-- what a callee, that was given H as a base, leaves -/
theorem Led.join {H' : Hp} {m : List (Addr × HO)} (L : Led B H l) (M : Led H H' m) : Led B H' (m ++ l) := by
  refine ⟨L.sm.trans M.sm, ?_, fun e he => ?_, fun e he => ?_⟩
  · rw [List.map_append]
    refine List.nodup_append.mpr ⟨M.nd, L.nd, fun a ha b hb z => ?_⟩
    obtain ⟨e, he, e1⟩ := List.mem_map.mp ha
    obtain ⟨d, hd, d1⟩ := List.mem_map.mp hb
    have h1 := M.fr e he
    have h2 := L.hs d hd
    rw [e1, z] at h1
    rw [d1, h1] at h2
    cases h2
  · rcases List.mem_append.mp he with z | z
    · exact L.sm.free (M.fr e z)
    · exact L.fr e z
  · rcases List.mem_append.mp he with z | z
    · exact M.hs e z
    · exact M.sm _ _ (L.hs e z)
theorem Led.same {H' : Hp} (L : Led B H l) (s : Same H H') : Led B H' l := ⟨L.sm.trans s, L.nd, L.fr, fun e he => s _ _ (L.hs e he)⟩
theorem Led.base {B' : Hp} (L : Led B H l) (h : Same B' B) : Led B' H l := ⟨h.trans L.sm, L.nd, fun e he => h.free (L.fr e he), L.hs⟩
theorem less_put {l : List (Addr × HO)} (L : Led B H ((p, o) :: l)) : Led (upd B p o) H l := by
  have nd := L.nd
  rw [List.map_cons] at nd
  obtain ⟨n1, n2⟩ := List.nodup_cons.mp nd
  refine ⟨fun a u z => ?_, n2, fun e he => ?_, fun e he => L.hs e (List.mem_cons_of_mem _ he)⟩
  · by_cases c : a = p
    · subst c
      rw [upd_same] at z
      cases z
      exact L.hs _ List.mem_cons_self
    · rw [upd_ne c] at z
      exact L.sm a u z
  · rw [upd_ne fun z => n1 (by rw [← z]; exact List.mem_map.mpr ⟨e, he, rfl⟩)]
    exact L.fr e (List.mem_cons_of_mem _ he)
/-- what will not change any more goes to the base -/
theorem Led.sink (L : Led B H ((p, o) :: l)) : ∃ B', Same B B' ∧ B' p = some o ∧ Led B' H l := ⟨upd B p o, fun a u z => by rw [upd_ne (ne_of_none z (L.fr _ List.mem_cons_self))]; exact z, upd_same, less_put L⟩
/-- the heap without what is owned -/
def less (H : Hp) (ps : List Addr) : Hp := fun a => if a ∈ ps then none else H a
theorem Led.ofLess {l : List (Addr × HO)} (n : (l.map (·.1)).Nodup) (h : ∀ e ∈ l, H e.1 = some e.2) : Led (less H (l.map (·.1))) H l := by
  refine ⟨fun a u z => ?_, n, fun e he => ?_, h⟩
  · unfold less at z
    split at z
    · cases z
    · exact z
  · unfold less
    rw [if_pos (List.mem_map_of_mem he)]
end

/-! ### the readings, one step each -/
/-- a new object -/
def NewK (o : HO) (H : Hp) (G : Addr → Hp → Prop) : Prop := ∀ p, H p = none → G p (upd H p o)
/-- a list's item, a tuple's -/
def IxLK (K : PySem.W.Frag) (p : Addr) (i : Int) (H : Hp) (G : V → Prop) : Prop := ∃ xs v, SqL K H p xs ∧ atI xs i = some v ∧ G v
def IxTK (K : PySem.W.Frag) (p : Addr) (i : Int) (H : Hp) (G : V → Prop) : Prop := ∃ xs v, SqT K H p xs ∧ atI xs i = some v ∧ G v
/-- p[i] = v, p.append(v), p.extend(q) -/
def SetK (p : Addr) (i : Int) (v : V) (H : Hp) (G : Hp → Prop) : Prop := ∃ xs j, H p = some (.lst xs) ∧ ixN xs.length i = some j ∧ G (upd H p (.lst (xs.set j v)))
def AppK (p : Addr) (v : V) (H : Hp) (G : Hp → Prop) : Prop := ∃ xs, H p = some (.lst xs) ∧ xs.length < sizeLine ∧ G (upd H p (.lst (xs ++ [v])))
def ExtK (p q : Addr) (H : Hp) (G : Hp → Prop) : Prop := ∃ xs ys, H p = some (.lst xs) ∧ H q = some (.lst ys) ∧ xs.length + ys.length ≤ sizeLine ∧ G (upd H p (.lst (xs ++ ys)))
def CatK (p q : Addr) (H : Hp) (G : Addr → Hp → Prop) : Prop := ∃ xs ys, H p = some (.lst xs) ∧ H q = some (.lst ys) ∧ xs.length + ys.length ≤ sizeLine ∧ NewK (.lst (xs ++ ys)) H G
def LenK (K : PySem.W.Frag) (p : Addr) (H : Hp) (G : Int → Prop) : Prop := ∃ xs : List V, (SqL K H p xs ∨ SqT K H p xs) ∧ G xs.length
/-- a tuple's items, n of them -/
def UnpK (K : PySem.W.Frag) (p : Addr) (n : Nat) (H : Hp) (G : List V → Prop) : Prop := ∃ xs, SqT K H p xs ∧ xs.length = n ∧ G xs
def IterLK (K : PySem.W.Frag) (p : Addr) (H : Hp) (G : Prop) : Prop := (∃ xs, SqL K H p xs) ∧ G
def SlLK (K : PySem.W.Frag) (p : Addr) (lo hi : Option Int) (H : Hp) (G : Addr → Hp → Prop) : Prop := ∃ xs, SqL K H p xs ∧ NewK (.lst (cutV xs lo hi)) H G
/-- repr(x) -/
def RepK (K : PySem.W.Frag) (x : V) (H : Hp) (G : Str → Prop) : Prop := ∃ d, Dp K H x d ∧ Shw 16000000 60 d ∧ G d.shown
def InK (K : PySem.W.Frag) (neg : Bool) (x : V) (p : Addr) (H : Hp) (G : Bool → Prop) : Prop := ∃ xs, (SqL K H p xs ∨ SqT K H p xs) ∧ flatV x = true ∧ xs.all flatV = true ∧ G (if neg then !inV x xs else inV x xs)
section
variable {K : PySem.W.Frag} {B H : Hp} {l l' : List (Addr × HO)} {p q : Addr} {o : HO} {i : Int} {v : V} {xs ys : List V} {n : Nat}
theorem NewK.of {G : Addr → Hp → Prop} (L : Led B H l) (k : ∀ p H1, Led B H1 ((p, o) :: l) → G p H1) : NewK o H G := fun p hp => k p _ (L.new hp)
theorem NewK.ofS {G : Addr → Hp → Prop} (k : ∀ p H1, Same H H1 → H p = none → H1 p = some o → G p H1) : NewK o H G := fun p hp => k p _ (fun a u z => by rw [upd_ne (ne_of_none z hp)]; exact z) hp upd_same
theorem IxLK.of {G : V → Prop} (h : SqL K H p xs) (a : atI xs i = some v) (k : G v) : IxLK K p i H G := ⟨xs, v, h, a, k⟩
theorem IxTK.of {G : V → Prop} (h : SqT K H p xs) (a : atI xs i = some v) (k : G v) : IxTK K p i H G := ⟨xs, v, h, a, k⟩
theorem SetK.of {G : Hp → Prop} {j : Nat} (L : Led B H l) (h : (p, HO.lst xs) ∈ l) (a : ixN xs.length i = some j) (t : Put l p (.lst (xs.set j v)) l') (k : ∀ H1, Led B H1 l' → G H1) : SetK p i v H G := ⟨xs, j, L.at h, a, k _ (L.put t)⟩
theorem AppK.of {G : Hp → Prop} (L : Led B H l) (h : (p, HO.lst xs) ∈ l) (a : xs.length < sizeLine) (t : Put l p (.lst (xs ++ [v])) l') (k : ∀ H1, Led B H1 l' → G H1) : AppK p v H G := ⟨xs, L.at h, a, k _ (L.put t)⟩
theorem ExtK.of {G : Hp → Prop} (L : Led B H l) (h : (p, HO.lst xs) ∈ l) (h2 : (q, HO.lst ys) ∈ l) (a : xs.length + ys.length ≤ sizeLine) (t : Put l p (.lst (xs ++ ys)) l') (k : ∀ H1, Led B H1 l' → G H1) : ExtK p q H G := ⟨xs, ys, L.at h, L.at h2, a, k _ (L.put t)⟩
theorem CatK.of {G : Addr → Hp → Prop} (L : Led B H l) (h : (p, HO.lst xs) ∈ l) (h2 : (q, HO.lst ys) ∈ l) (a : xs.length + ys.length ≤ sizeLine) (k : ∀ p H1, Led B H1 ((p, .lst (xs ++ ys)) :: l) → G p H1) : CatK p q H G := ⟨xs, ys, L.at h, L.at h2, a, NewK.of L k⟩
theorem LenK.ofL {G : Int → Prop} (h : SqL K H p xs) (k : G xs.length) : LenK K p H G := ⟨xs, Or.inl h, k⟩
theorem LenK.ofT {G : Int → Prop} (h : SqT K H p xs) (k : G xs.length) : LenK K p H G := ⟨xs, Or.inr h, k⟩
theorem UnpK.of {G : List V → Prop} (h : SqT K H p xs) (e : xs.length = n) (k : G xs) : UnpK K p n H G := ⟨xs, h, e, k⟩
theorem IterLK.of {G : Prop} (h : SqL K H p xs) (k : G) : IterLK K p H G := ⟨⟨xs, h⟩, k⟩
theorem SlLK.of {G : Addr → Hp → Prop} {lo hi : Option Int} (L : Led B H l) (h : SqL K H p xs) (k : ∀ p H1, Led B H1 ((p, .lst (cutV xs lo hi)) :: l) → G p H1) : SlLK K p lo hi H G := ⟨xs, h, NewK.of L k⟩
variable {Q : VK} {j : Int}
theorem x_I {C : Int → Int → Prop} {g : Int → Int → V} : rI C g (.int i) (.int j) H Q ↔ C i j ∧ Q (g i j) H := ⟨fun ⟨_, _, e1, e2, c, q⟩ => by cases e1; cases e2; exact ⟨c, q⟩, fun ⟨c, q⟩ => ⟨i, j, rfl, rfl, c, q⟩⟩
theorem x_I0 {g : Int → Int → V} : rI0 g (.int i) (.int j) H Q ↔ Q (g i j) H := ⟨fun ⟨_, _, e1, e2, q⟩ => by cases e1; cases e2; exact q, fun q => ⟨i, j, rfl, rfl, q⟩⟩
theorem x_U {g : Int → V} : rU g (.int i) H Q ↔ Q (g i) H := ⟨fun ⟨_, e1, q⟩ => by cases e1; exact q, fun q => ⟨i, rfl, q⟩⟩
theorem x_eq {x y : V} : rEq x y H Q ↔ scal x y = true ∧ Q (.bl (decide (x = y))) H := ⟨fun h => h, fun h => h⟩
theorem x_ne {x y : V} : rNe x y H Q ↔ scal x y = true ∧ Q (.bl (!decide (x = y))) H := ⟨fun h => h, fun h => h⟩
theorem x_ixL : rIxL K (.ref p) (.int i) H Q ↔ IxLK K p i H fun v => Q v H := ⟨fun ⟨_, xs, _, v, e1, e2, a, b, q⟩ => by cases e1; cases e2; exact ⟨xs, v, a, b, q⟩, fun ⟨xs, v, a, b, q⟩ => ⟨p, xs, i, v, rfl, rfl, a, b, q⟩⟩
theorem x_ixT : rIxT K (.ref p) (.int i) H Q ↔ IxTK K p i H fun v => Q v H := ⟨fun ⟨_, xs, _, v, e1, e2, a, b, q⟩ => by cases e1; cases e2; exact ⟨xs, v, a, b, q⟩, fun ⟨xs, v, a, b, q⟩ => ⟨p, xs, i, v, rfl, rfl, a, b, q⟩⟩
theorem x_setL {N : Hp → Prop} : rSetL (.ref p) (.int i) v H N ↔ SetK p i v H N := ⟨fun ⟨_, xs, _, j, e1, e2, a, b, q⟩ => by cases e1; cases e2; exact ⟨xs, j, a, b, q⟩, fun ⟨xs, j, a, b, q⟩ => ⟨p, xs, i, j, rfl, rfl, a, b, q⟩⟩
theorem x_app : rAppend (.ref p) [v] H Q ↔ AppK p v H fun H1 => Q .non H1 := ⟨fun ⟨_, xs, _, e1, e2, a, b, q⟩ => by cases e1; cases e2; exact ⟨xs, a, b, q⟩, fun ⟨xs, a, b, q⟩ => ⟨p, xs, v, rfl, rfl, a, b, q⟩⟩
theorem x_ext : rExtend (.ref p) [.ref q] H Q ↔ ExtK p q H fun H1 => Q .non H1 := ⟨fun ⟨_, _, xs, ys, e1, e2, a, b, c, q⟩ => by cases e1; cases e2; exact ⟨xs, ys, a, b, c, q⟩, fun ⟨xs, ys, a, b, c, q'⟩ => ⟨p, q, xs, ys, rfl, rfl, a, b, c, q'⟩⟩
theorem x_cat : rCat (.ref p) (.ref q) H Q ↔ CatK p q H fun r H1 => Q (.ref r) H1 := ⟨fun ⟨_, _, xs, ys, e1, e2, a, b, c, q⟩ => by cases e1; cases e2; exact ⟨xs, ys, a, b, c, q⟩, fun ⟨xs, ys, a, b, c, q'⟩ => ⟨p, q, xs, ys, rfl, rfl, a, b, c, q'⟩⟩
theorem x_slL {lo hi : Option Int} : rSlL K (.ref p) lo hi H Q ↔ SlLK K p lo hi H fun r H1 => Q (.ref r) H1 := ⟨fun ⟨_, xs, e1, a, q⟩ => by cases e1; exact ⟨xs, a, q⟩, fun ⟨xs, a, q⟩ => ⟨p, xs, rfl, a, q⟩⟩
theorem x_in {neg : Bool} {x : V} : rIn K neg x (.ref p) H Q ↔ InK K neg x p H fun b => Q (.bl b) H := ⟨fun ⟨_, xs, e1, a, b, c, q⟩ => by cases e1; exact ⟨xs, a, b, c, q⟩, fun ⟨xs, a, b, c, q⟩ => ⟨p, xs, rfl, a, b, c, q⟩⟩
theorem x_repr {x : V} : rRepr K [x] H Q ↔ RepK K x H fun t => Q (.str t) H := ⟨fun ⟨_, d, e1, a, b, q⟩ => by cases e1; exact ⟨d, a, b, q⟩, fun ⟨d, a, b, q⟩ => ⟨x, d, rfl, a, b, q⟩⟩
end
section
variable {σ : L2.St} {H : Hp} {Q : VK} {D : Ends} {ta tb te : TE} {t u : TT} {s1 s2 : TS} {v : V} {i n : Nat} {r : R2} {K : PySem.W.Frag} {TQ : Bool → Hp → Prop} {AQ : List V → Hp → Prop} {al : TA}
theorem e_var : tVar i σ H Q = ∃ v, σ[i]? = some (some v) ∧ Q v H := propext ⟨fun h => h, fun h => h⟩
theorem e_c : tC v σ H Q = Q v H := propext ⟨fun h => h, fun h => h⟩
theorem e_op : tOp r ta tb σ H Q = ta σ H fun x H1 => tb σ H1 fun y H2 => r x y H2 Q := propext ⟨fun h => h, fun h => h⟩
theorem e_un {r : V → Hp → VK → Prop} : tUn r ta σ H Q = ta σ H fun x H1 => r x H1 Q := propext ⟨fun h => h, fun h => h⟩
theorem e_if : tIf t ta tb σ H Q = t σ H fun c H1 => if c = true then ta σ H1 Q else tb σ H1 Q := propext ⟨fun h => h, fun h => h⟩
theorem e_andV : tAndV ta tb σ H Q = ta σ H fun x H1 => ∃ c, x = .bl c ∧ if c = true then tb σ H1 Q else Q (.bl false) H1 := propext ⟨fun h => h, fun h => h⟩
theorem e_orV : tOrV ta tb σ H Q = ta σ H fun x H1 => ∃ c, x = .bl c ∧ if c = true then Q (.bl true) H1 else tb σ H1 Q := propext ⟨fun h => h, fun h => h⟩
theorem e_notV : tNotV ta σ H Q = ta σ H fun x H1 => ∃ c, x = .bl c ∧ Q (.bl (!c)) H1 := propext ⟨fun h => h, fun h => h⟩
theorem e_lst : tLst al σ H Q = al σ H fun xs H1 => xs.length ≤ sizeLine ∧ NewK (.lst xs) H1 fun p H2 => Q (.ref p) H2 := propext ⟨fun h => h, fun h => h⟩
theorem e_tup : tTup al σ H Q = al σ H fun xs H1 => xs.length ≤ sizeLine ∧ NewK (.tup xs) H1 fun p H2 => Q (.ref p) H2 := propext ⟨fun h => h, fun h => h⟩
theorem e_CB {r : List V → Hp → VK → Prop} : tCB r al σ H Q = al σ H fun vs H1 => r vs H1 Q := propext ⟨fun h => h, fun h => h⟩
theorem e_BM {T : String} {r : V → List V → Hp → VK → Prop} : tBM K T r ta al σ H Q = ta σ H fun x H1 => tyV K T x H1 ∧ al σ H1 fun xs H2 => r x xs H2 Q := propext ⟨fun h => h, fun h => h⟩
theorem e_BM0 {T : String} {r : V → List V → Hp → VK → Prop} : tBM0 K T r ta σ H Q = ta σ H fun x H1 => tyV K T x H1 ∧ r x [] H1 Q := propext ⟨fun h => h, fun h => h⟩
theorem e_G {sp : Sp} {dvs : List V} {E : L2.St → XK} : tG sp dvs E al σ H Q = al σ H fun vs H1 => sp (vs ++ dvs) H1 Q (E σ) := propext ⟨fun h => h, fun h => h⟩
theorem e_chain {r r' : R2} {tc : TE} : tChain r r' ta tb tc σ H Q = ta σ H fun x H1 => tb σ H1 fun y H2 => r x y H2 fun z H3 => ∃ k, z = .bl k ∧ if k = true then tc σ H3 fun z H4 => r' y z H4 Q else Q (.bl false) H3 := propext ⟨fun h => h, fun h => h⟩
theorem e_sl {r : V → Option Int → Option Int → Hp → VK → Prop} {tl th : TO} : tSl r te tl th σ H Q = te σ H fun x H1 => tl σ H1 fun l H2 => th σ H2 fun u H3 => r x l u H3 Q := propext ⟨fun h => h, fun h => h⟩
theorem e_part {OQ : Option Int → Hp → Prop} : tPart te σ H OQ = te σ H fun x H1 => ∃ i, x = .int i ∧ OQ (some i) H1 := propext ⟨fun h => h, fun h => h⟩
theorem e_nopart {OQ : Option Int → Hp → Prop} : tNoPart σ H OQ = OQ none H := propext ⟨fun h => h, fun h => h⟩
theorem a_nil : tNil σ H AQ = AQ [] H := propext ⟨fun h => h, fun h => h⟩
theorem a_cons : tCons ta al σ H AQ = ta σ H fun x H1 => al σ H1 fun xs H2 => AQ (x :: xs) H2 := propext ⟨fun h => h, fun h => h⟩
theorem e_callLen : tCB (fun xs H Q => ∃ p ys, xs = [V.ref p] ∧ (SqL K H p ys ∨ SqT K H p ys) ∧ Q (.int ys.length) H) (tCons ta tNil) σ H Q ↔ ta σ H fun x H1 => ∃ p, x = .ref p ∧ LenK K p H1 fun n => Q (.int n) H1 := Iff.of_eq (congrArg (ta σ H) (funext fun x => funext fun H1 => propext ⟨fun ⟨p, ys, e, h, q⟩ => by cases e; exact ⟨p, rfl, ys, h, q⟩, fun ⟨p, e, ys, h, q⟩ => ⟨p, ys, by rw [e], h, q⟩⟩))
theorem t_B : tB te σ H TQ = te σ H fun x H1 => ∃ c, x = .bl c ∧ TQ c H1 := propext ⟨fun h => h, fun h => h⟩
theorem t_test : tTest te σ H TQ = te σ H fun x H1 => ∃ c, x = .bl c ∧ TQ c H1 := propext ⟨fun h => h, fun h => h⟩
theorem t_and : tAnd t u σ H TQ = t σ H fun c H1 => if c = true then u σ H1 TQ else TQ false H1 := propext ⟨fun h => h, fun h => h⟩
theorem t_or : tOr t u σ H TQ = t σ H fun c H1 => if c = true then TQ true H1 else u σ H1 TQ := propext ⟨fun h => h, fun h => h⟩
theorem t_not : tNot t σ H TQ = t σ H fun c H1 => TQ (!c) H1 := propext ⟨fun h => h, fun h => h⟩
theorem t_yes : tYes σ H TQ = TQ true H := propext ⟨fun h => h, fun h => h⟩
theorem s_seq : tSeq s1 s2 D σ H = s1 { D with nx := s2 D } σ H := propext ⟨fun h => h, fun h => h⟩
theorem s_next : tNext D σ H = D.nx σ H := propext ⟨fun h => h, fun h => h⟩
theorem s_break : tBreak D σ H = D.bk σ H := propext ⟨fun h => h, fun h => h⟩
theorem s_cont : tCont D σ H = D.ct σ H := propext ⟨fun h => h, fun h => h⟩
theorem s_drop : tDrop te D σ H = te σ H fun _ H1 => D.nx σ H1 := propext ⟨fun h => h, fun h => h⟩
theorem s_ret : tRet te D σ H = te σ H D.rt := propext ⟨fun h => h, fun h => h⟩
theorem s_retN : tRetN D σ H = D.rt .non H := propext ⟨fun h => h, fun h => h⟩
theorem s_ifS : tIfS t s1 s2 D σ H = t σ H fun b H1 => if b = true then s1 D σ H1 else s2 D σ H1 := propext ⟨fun h => h, fun h => h⟩
theorem s_asg {g : TG} : tAsg te g D σ H = te σ H fun x H1 => g x σ H1 D.nx := propext ⟨fun h => h, fun h => h⟩
theorem s_aug {ti : TIp} : tAug i te ti D σ H = ∃ x, σ[i]? = some (some x) ∧ te σ H fun y H1 => ti x y H1 fun z H2 => D.nx (σ.set i (some z)) H2 := propext ⟨fun h => h, fun h => h⟩
variable {N : L2.St → Hp → Prop}
theorem s_par {j : Nat} : tPar i j al D σ H = al σ H fun vs H1 => ∃ v w, vs = [v, w] ∧ D.nx ((σ.set i (some v)).set j (some w)) H1 := propext ⟨fun h => h, fun h => h⟩
theorem g_name : gName i v σ H N = N (σ.set i (some v)) H := propext ⟨fun h => h, fun h => h⟩
theorem g_tup {gs : TGs} {a : Addr} : gTup K n gs (.ref a) σ H N ↔ UnpK K a n H fun xs => gs xs σ H N := ⟨fun ⟨_, xs, e, h, z, q⟩ => by cases e; exact ⟨xs, h, z, q⟩, fun ⟨xs, h, z, q⟩ => ⟨a, xs, rfl, h, z, q⟩⟩
theorem g_nil : gNil [] σ H N ↔ N σ H := ⟨fun h => h.2, fun h => ⟨rfl, h⟩⟩
theorem g_cons {g : TG} {gs : TGs} {v : V} {vs : List V} : gCons g gs (v :: vs) σ H N ↔ g v σ H fun σ' H' => gs vs σ' H' N := ⟨fun ⟨_, _, e, q⟩ => by cases e; exact q, fun q => ⟨v, vs, rfl, q⟩⟩
theorem g_sub {st : TSet} : gSub ta tb st v σ H N = ta σ H fun o H1 => tb σ H1 fun i H2 => st o i v H2 fun H3 => N σ H3 := propext ⟨fun h => h, fun h => h⟩
theorem i_list {R : It → Hp → Prop} : iList K te σ H R = te σ H fun x H1 => ∃ a, x = .ref a ∧ (∃ xs, SqL K H1 a xs) ∧ R (Itl K a) H1 := propext ⟨fun h => h, fun h => h⟩
theorem i_tup {R : It → Hp → Prop} : iTup K te σ H R = te σ H fun x H1 => ∃ a, x = .ref a ∧ (∃ xs, SqT K H1 a xs) ∧ R (Itt K a) H1 := propext ⟨fun h => h, fun h => h⟩
theorem i_rng1 {R : It → Hp → Prop} : iRng1 al σ H R = al σ H fun vs H1 => ∃ j : Int, vs = [.int j] ∧ -(2 ^ 62) ≤ j ∧ j < 2 ^ 62 ∧ R (Itr 0 j.toNat) H1 := propext ⟨fun h => h, fun h => h⟩
theorem i_rng2 {R : It → Hp → Prop} : iRng2 al σ H R = al σ H fun vs H1 => ∃ i j : Int, vs = [.int i, .int j] ∧ (-(2 ^ 62) ≤ i ∧ i < 2 ^ 62 ∧ -(2 ^ 62) ≤ j ∧ j < 2 ^ 62) ∧ R (Itr i (j - i).toNat) H1 := propext ⟨fun h => h, fun h => h⟩
theorem i_enum {R : It → Hp → Prop} : iEnum K al σ H R = al σ H fun vs H1 => ∃ a xs, vs = [.ref a] ∧ SqL K H1 a xs ∧ R (Ite K a) H1 := propext ⟨fun h => h, fun h => h⟩
/-- a loop, kept whole -/
def LoopK (J : It) (g : TG) (tb : TS) (D : Ends) (σ : L2.St) (H1 : Hp) : Prop := ∃ W : Nat → Nat → L2.St → Hp → Prop, (∃ m, W 0 m σ H1) ∧ ∀ i m σ H, W i m σ H →
  (J.stop i H ∧ D.nx σ H) ∨ (J.go i H ∧ ∃ N : L2.St → Hp → Prop, (∀ σ' H', N σ' H' → ∃ m', m' < m ∧ W (i + 1) m' σ' H') ∧ ∀ x H', J.yld i H x H' → g x σ H' fun σ2 H2 => tb { D with nx := N, ct := N, bk := D.nx } σ2 H2)
theorem s_for {wi : TI} {g : TG} {tb : TS} : tFor wi g tb D σ H = wi σ H fun J H1 => LoopK J g tb D σ H1 := propext ⟨fun h => h, fun h => h⟩
/-- a comprehension, kept whole -/
def LcK (J : It) (g : TG) (tt : TT) (te : TE) (vs : List Nat) (σ : L2.St) (H1 : Hp) (Q : VK) : Prop := tLc (fun _ H R => R J H) g tt te vs σ H1 Q
theorem e_lc {wi : TI} {g : TG} {tt : TT} {vs : List Nat} : tLc wi g tt te vs σ H Q = wi σ H fun J H1 => LcK J g tt te vs σ H1 Q := propext ⟨fun h => h, fun h => h⟩
end

section
variable {X : Cx}
def rLen (K : PySem.W.Frag) : List V → Hp → VK → Prop := fun xs H Q => ∃ p ys, xs = [.ref p] ∧ (SqL K H p ys ∨ SqT K H p ys) ∧ Q (.int ys.length) H
theorem cr_len : CallR X (.builtin "len") (rLen X.K) := call_len_seq
theorem x_len {K : PySem.W.Frag} {p : Addr} {H : Hp} {Q : VK} : rLen K [.ref p] H Q ↔ LenK K p H fun n => Q (.int n) H := ⟨fun ⟨_, ys, e, h, q⟩ => by cases e; exact ⟨ys, h, q⟩, fun ⟨ys, h, q⟩ => ⟨p, ys, rfl, h, q⟩⟩
def rMx : List V → Hp → VK → Prop := fun xs H Q => ∃ i j, xs = [.int i, .int j] ∧ Q (.int (max i j)) H
def rMn : List V → Hp → VK → Prop := fun xs H Q => ∃ i j, xs = [.int i, .int j] ∧ Q (.int (min i j)) H
theorem mx_eq (i j : Int) : (if j > i then j else i) = max i j := by split <;> omega
theorem mn_eq (i j : Int) : (if j < i then j else i) = min i j := by split <;> omega
theorem CallR.as {f : Value} {r r' : List V → Hp → VK → Prop} (h : CallR X f r) (i : ∀ xs H Q, r' xs H Q → r xs H Q) : CallR X f r' := fun pins s σ H xs us Q I v q => h pins s σ H xs us Q I v (i xs H Q q)
theorem cr_max2 (hc : X.calm = true) : CallR X (.builtin "max") rMx := CallR.as (call_max2 hc) fun _ _ _ ⟨i, j, e, q⟩ => ⟨i, j, e, by rw [mx_eq]; exact q⟩
theorem cr_min2 (hc : X.calm = true) : CallR X (.builtin "min") rMn := CallR.as (call_min2 hc) fun _ _ _ ⟨i, j, e, q⟩ => ⟨i, j, e, by rw [mn_eq]; exact q⟩
theorem x_mx {i j : Int} {H : Hp} {Q : VK} : rMx [.int i, .int j] H Q ↔ Q (.int (max i j)) H := ⟨fun ⟨_, _, e, q⟩ => by cases e; exact q, fun q => ⟨i, j, rfl, q⟩⟩
theorem x_mn {i j : Int} {H : Hp} {Q : VK} : rMn [.int i, .int j] H Q ↔ Q (.int (min i j)) H := ⟨fun ⟨_, _, e, q⟩ => by cases e; exact q, fun q => ⟨i, j, rfl, q⟩⟩
theorem k_cx {C : CXT} {P : Program} {w : World} {K : PySem.W.Frag} {mg : Str → Option Value} {bs : Heap} {N : List Str} {qual : Str} {sc : Scope} {f : Addr} {cd : Value} {A : Around} {fr : List Env} {s : Shared} {H : Hp} {E : XK} :
    (cxOf C P w K mg bs N qual sc f cd A fr s H E).nox.K = K := rfl
theorem k_cx2 {C : CXT} {P : Program} {w : World} {K : PySem.W.Frag} {mg : Str → Option Value} {bs : Heap} {N : List Str} {qual : Str} {sc : Scope} {f : Addr} {cd : Value} {A : Around} {fr : List Env} {s : Shared} {H : Hp} {E : XK} :
    (cxOf C P w K mg bs N qual sc f cd A fr s H E).K = K := rfl
end
/-! ### isinstance(x, T), T a built-in class -/
def tyB (K : PySem.W.Frag) (H : Hp) (x : V) (t : String) : Prop := TyX K H x (.type t)
def rIs (K : PySem.W.Frag) : List V → Hp → VK → Prop := fun xs H Q => ∃ x n t b, xs = [x, .ty n] ∧ tyB K H x t ∧ kitB t n = some b ∧ Q (.bl b) H
theorem cr_is {X : Cx} : CallR X (.builtin "isinstance") (rIs X.K) := CallR.as call_isi fun _ _ _ ⟨x, n, _, b, e, ht, hb, q⟩ => ⟨x, .ty n, _, _, b, e, ClsV.ty n, ht, kit_ty hb, q⟩
section
variable {K : PySem.W.Frag} {H : Hp} {Q : VK}
theorem ty_int {i : Int} {t : String} (h : tyB K H (.int i) t) : t = "int" := by
  cases h with
  | base h => cases h; rfl
theorem ty_bl {i : Bool} {t : String} (h : tyB K H (.bl i) t) : t = "bool" := by
  cases h with
  | base h => cases h; rfl
theorem ty_non {t : String} (h : tyB K H .non t) : t = "NoneType" := by
  cases h with
  | base h => cases h; rfl
theorem ty_str {i : Str} {t : String} (h : tyB K H (.str i) t) : t = "str" := by
  cases h with
  | base h => cases h; rfl
theorem x_is {x : V} {t n : String} {b : Bool} (h1 : tyB K H x t) (h2 : ∀ u, tyB K H x u → u = t) (h3 : kitB t n = some b) : rIs K [x, .ty n] H Q ↔ Q (.bl b) H := by
  constructor
  · rintro ⟨_, _, u, c, e, hu, hc, q⟩
    cases e
    rw [h2 u hu, h3] at hc
    cases hc
    exact q
  · intro q
    exact ⟨x, n, t, b, rfl, h1, h3, q⟩
theorem x_is_int {i : Int} : rIs K [.int i, .ty "int"] H Q ↔ Q (.bl true) H := x_is (.base (.int i)) (fun _ => ty_int) (by decide +kernel)
theorem x_is_bi {i : Int} : rIs K [.int i, .ty "bool"] H Q ↔ Q (.bl false) H := x_is (.base (.int i)) (fun _ => ty_int) (by decide +kernel)
theorem x_is_bool {i : Bool} : rIs K [.bl i, .ty "int"] H Q ↔ Q (.bl true) H := x_is (.base (.bl i)) (fun _ => ty_bl) (by decide +kernel)
theorem x_is_bb {i : Bool} : rIs K [.bl i, .ty "bool"] H Q ↔ Q (.bl true) H := x_is (.base (.bl i)) (fun _ => ty_bl) (by decide +kernel)
theorem x_is_nb : rIs K [.non, .ty "bool"] H Q ↔ Q (.bl false) H := x_is (.base .non) (fun _ => ty_non) (by decide +kernel)
theorem x_is_ni : rIs K [.non, .ty "int"] H Q ↔ Q (.bl false) H := x_is (.base .non) (fun _ => ty_non) (by decide +kernel)
theorem x_is_sb {i : Str} : rIs K [.str i, .ty "bool"] H Q ↔ Q (.bl false) H := x_is (.base (.str i)) (fun _ => ty_str) (by decide +kernel)
theorem x_is_si {i : Str} : rIs K [.str i, .ty "int"] H Q ↔ Q (.bl false) H := x_is (.base (.str i)) (fun _ => ty_str) (by decide +kernel)
theorem x_is_ib {i : Str} : rIs K [.str i, .ty "str"] H Q ↔ Q (.bl true) H := x_is (.base (.str i)) (fun _ => ty_str) (by decide +kernel)
/-- isinstance of an object -/
def IsK (K : PySem.W.Frag) (a : Addr) (n : String) (H : Hp) (G : Bool → Prop) : Prop := ∃ t b, tyB K H (.ref a) t ∧ kitB t n = some b ∧ G b
theorem x_isR {a : Addr} {n : String} : rIs K [.ref a, .ty n] H Q ↔ IsK K a n H fun b => Q (.bl b) H := ⟨fun ⟨_, _, t, b, e, h1, h2, q⟩ => by cases e; exact ⟨t, b, h1, h2, q⟩, fun ⟨t, b, h1, h2, q⟩ => ⟨_, _, t, b, rfl, h1, h2, q⟩⟩
theorem IsK.tup {a : Addr} {n : String} {xs : List V} {b : Bool} {G : Bool → Prop} (h : H a = some (.tup xs)) (k : kitB "tuple" n = some b) (q : G b) : IsK K a n H G := ⟨_, b, .base (.tup h), k, q⟩
theorem IsK.lst {a : Addr} {n : String} {xs : List V} {b : Bool} {G : Bool → Prop} (h : H a = some (.lst xs)) (k : kitB "list" n = some b) (q : G b) : IsK K a n H G := ⟨_, b, .base (.lst h), k, q⟩
end
/-! ### instances -/
def FldK (K : PySem.W.Frag) (p : Addr) (f : Str) (H : Hp) (G : V → Prop) : Prop := ∃ C dx fs v, H p = some (.ins C dx fs) ∧ Cls K C ∧ NoAttr K C f ∧ fs.lookup f = some v ∧ G v
def StK (K : PySem.W.Frag) (p : Addr) (f : Str) (y : V) (H : Hp) (G : Hp → Prop) : Prop := ∃ C dx fs, H p = some (.ins C dx fs) ∧ Cls K C ∧ NoAttr K C f ∧ fs.length < 1000 ∧ G (upd H p (.ins C dx (putF f y fs)))
section
variable {K : PySem.W.Frag} {B H : Hp} {l l' : List (Addr × HO)} {p C dx : Addr} {fs fs' : List (Str × V)} {f : Str} {v : V} {σ : L2.St} {Q : VK} {D : Ends} {ta tv : TE}
theorem e_fld : tFld K ta f σ H Q ↔ ta σ H fun x H1 => ∃ a, x = .ref a ∧ FldK K a f H1 fun v => Q v H1 := Iff.of_eq (congrArg (ta σ H) (funext fun x => funext fun H1 => propext ⟨fun ⟨a, C, dx, fs, v, e, r⟩ => ⟨a, e, C, dx, fs, v, r⟩, fun ⟨a, e, C, dx, fs, v, r⟩ => ⟨a, C, dx, fs, v, e, r⟩⟩))
theorem s_fld : sFld K ta tv f D σ H ↔ tv σ H fun y H1 => ta σ H1 fun x H2 => ∃ a, x = .ref a ∧ StK K a f y H2 fun H3 => D.nx σ H3 := Iff.of_eq (congrArg (tv σ H) (funext fun y => funext fun H1 => congrArg (ta σ H1) (funext fun x => funext fun H2 => propext ⟨fun ⟨a, C, dx, fs, e, r⟩ => ⟨a, e, C, dx, fs, r⟩, fun ⟨a, e, C, dx, fs, r⟩ => ⟨a, C, dx, fs, e, r⟩⟩)))
theorem FldK.of {G : V → Prop} (L : Led B H l) (m : (p, HO.ins C dx fs) ∈ l) (c : Cls K C) (n : NoAttr K C f) (e : fs.lookup f = some v) (k : G v) : FldK K p f H G := ⟨C, dx, fs, v, L.at m, c, n, e, k⟩
theorem StK.of {G : Hp → Prop} (L : Led B H l) (m : (p, HO.ins C dx fs) ∈ l) (c : Cls K C) (n : NoAttr K C f) (e : putF f v fs = fs') (t : Put l p (.ins C dx fs') l') (k : ∀ H1, Led B H1 l' → G H1) (h : fs.length < 1000 := by first | decide | (simp only [List.length_cons, List.length_nil]; decide) | omega) : StK K p f v H G :=
  ⟨C, dx, fs, L.at m, c, n, h, by rw [e]; exact k _ (L.put t)⟩
/-- o.m(..) -/
def MtK (p C : Addr) (m : Str) (H : Hp) (G : Prop) : Prop := ∃ dx fs, H p = some (.ins C dx fs) ∧ fs.lookup m = none ∧ G
theorem e_MG {m : Str} {sp : Sp} {dvs : List V} {E : L2.St → XK} {t : TA} : tMG C m sp dvs E ta t σ H Q ↔ ta σ H fun x H1 => ∃ a, x = .ref a ∧ MtK a C m H1 (t σ H1 fun vs H2 => sp (x :: (vs ++ dvs)) H2 Q (E σ)) :=
  Iff.of_eq (congrArg (ta σ H) (funext fun x => funext fun H1 => propext ⟨fun ⟨a, dx, fs, e, r1, r2, r3⟩ => ⟨a, e, dx, fs, r1, r2, r3⟩, fun ⟨a, e, dx, fs, r1, r2, r3⟩ => ⟨a, dx, fs, e, r1, r2, r3⟩⟩))
theorem MtK.of {m : Str} {G : Prop} (L : Led B H l) (h : (p, HO.ins C dx fs) ∈ l) (e : fs.lookup m = none) (k : G) : MtK p C m H G := ⟨dx, fs, L.at h, e, k⟩
/-- C(..) -/
def MkK (C : Addr) (H : Hp) (G : Addr → Hp → Prop) : Prop := ∀ x dx, H x = none → H dx = none → dx ≠ x → G x (upd (upd H dx (.own x)) x (.ins C dx []))
theorem e_KG {sp : Sp} {dvs : List V} {E : L2.St → XK} {t : TA} : tKG C sp dvs E t σ H Q = t σ H fun vs H1 => MkK C H1 fun x H2 => sp (.ref x :: (vs ++ dvs)) H2 (fun v H3 => v = .non ∧ Q (.ref x) H3) (E σ) := propext ⟨fun h => h, fun h => h⟩
theorem MkK.of {G : Addr → Hp → Prop} (L : Led B H l) (k : ∀ x dx H1, Led B H1 ((x, .ins C dx []) :: l) → G x H1) : MkK C H G := fun x dx hx hd ne =>
  k x dx _ (((L.new hd).new (by rw [upd_ne ne.symm]; exact hx)).sel (.cons .hd (.skip .all)))
/-! ### lists again -/
def RptK (l : Addr) (n : Int) (H : Hp) (G : Addr → Hp → Prop) : Prop := ∃ xs, H l = some (.lst xs) ∧ -(2 ^ 63) ≤ n ∧ n < 2 ^ 63 ∧ xs.length * n.toNat ≤ sizeLine ∧ NewK (.lst (List.replicate n.toNat xs).flatten) H G
theorem x_rpt {a : Addr} {n : Int} : rRep (.ref a) (.int n) H Q ↔ RptK a n H fun p H1 => Q (.ref p) H1 := ⟨fun ⟨_, _, xs, e1, e2, h, h1, h2, h3, q⟩ => by cases e1; cases e2; exact ⟨xs, h, h1, h2, h3, q⟩, fun ⟨xs, h, h1, h2, h3, q⟩ => ⟨a, n, xs, rfl, rfl, h, h1, h2, h3, q⟩⟩
theorem flat_one {α : Type} (n : Nat) (x : α) : (List.replicate n [x]).flatten = List.replicate n x := by
  induction n with
  | zero => rfl
  | succ n ih => rw [List.replicate_succ, List.flatten_cons, ih, List.replicate_succ]; rfl
theorem RptK.of {a : Addr} {n : Nat} {G : Addr → Hp → Prop} (L : Led B H l) (h : (a, HO.lst [v]) ∈ l) (hn : n ≤ 100000) (k : ∀ p H1, Led B H1 ((p, .lst (List.replicate n v)) :: l) → G p H1) : RptK a (n : Int) H G :=
  ⟨[v], L.at h, by omega, by omega, Nat.le_trans (m := 100000) (by rw [Int.toNat_natCast]; simpa using hn) (by decide), by rw [Int.toNat_natCast, flat_one]; exact NewK.of L k⟩
def RemK (a : Addr) (n : Int) (H : Hp) (G : Hp → Prop) : Prop := ∃ (ns : List Int) (j : Nat), H a = some (.lst (ns.map V.int)) ∧ ns[j]? = some n ∧ (∀ m : Nat, m < j → ns[m]? ≠ some n) ∧ G (upd H a (.lst ((ns.eraseIdx j).map V.int)))
theorem x_rem {a : Addr} {n : Int} : rRemI (.ref a) [.int n] H Q ↔ RemK a n H fun H1 => Q .non H1 := ⟨fun ⟨_, ns, _, j, e1, e2, h, h1, h2, q⟩ => by cases e1; cases e2; exact ⟨ns, j, h, h1, h2, q⟩, fun ⟨ns, j, h, h1, h2, q⟩ => ⟨a, ns, n, j, rfl, rfl, h, h1, h2, q⟩⟩
theorem first_at {n : Int} : ∀ {ns : List Int}, n ∈ ns → ∃ j, ns[j]? = some n ∧ (∀ m : Nat, m < j → ns[m]? ≠ some n) ∧ ns.eraseIdx j = ns.erase n
  | [], h => (List.not_mem_nil h).elim
  | x :: r, h => by
    by_cases c : x = n
    · subst c
      exact ⟨0, rfl, fun m hm => absurd hm (Nat.not_lt_zero _), by rw [List.erase_cons_head]; rfl⟩
    · obtain ⟨j, h1, h2, h3⟩ := first_at ((List.mem_cons.mp h).resolve_left fun z => c z.symm)
      refine ⟨j + 1, h1, fun m hm => ?_, ?_⟩
      · cases m with
        | zero => intro z; exact c (Option.some.inj z)
        | succ m => exact h2 m (by omega)
      · rw [List.erase_cons_tail (by simpa using c), List.eraseIdx_cons_succ, h3]
theorem RemK.of {a : Addr} {n : Int} {ns : List Int} {G : Hp → Prop} (L : Led B H l) (h : (a, HO.lst (ns.map V.int)) ∈ l) (hm : n ∈ ns) (t : Put l a (.lst ((ns.erase n).map V.int)) l') (k : ∀ H1, Led B H1 l' → G H1) : RemK a n H G := by
  obtain ⟨j, h1, h2, h3⟩ := first_at hm
  exact ⟨ns, j, L.at h, h1, h2, by rw [h3]; exact k _ (L.put t)⟩
def MinK (K : PySem.W.Frag) (a : Addr) (H : Hp) (G : Int → Prop) : Prop := ∃ ns : List Int, SqL K H a (ns.map V.int) ∧ 0 < ns.length ∧ ∀ m, m ∈ ns → (∀ y, y ∈ ns → m ≤ y) → G m
theorem x_min {a : Addr} : rMin K [.ref a] H Q ↔ MinK K a H fun m => Q (.int m) H := ⟨fun ⟨_, ns, e, r⟩ => by cases e; exact ⟨ns, r⟩, fun ⟨ns, r⟩ => ⟨a, ns, rfl, r⟩⟩
theorem e_lrg1 {te : L2.St → Hp → (Int → Int → Hp → Prop) → Prop} : tLstRg te σ H Q = te σ H fun a b H1 => RgOk a b ∧ NewK (.lst (rgV a b)) H1 fun p H2 => Q (.ref p) H2 := propext ⟨fun h => h, fun h => h⟩
theorem e_rg1 {R : Int → Int → Hp → Prop} : tRg1 ta σ H R = ta σ H fun x H1 => ∃ n, x = .int n ∧ R 0 n H1 := propext ⟨fun h => h, fun h => h⟩
def rRev : V → List V → Hp → VK → Prop := rReverse
def RevK (a : Addr) (H : Hp) (G : Hp → Prop) : Prop := ∃ xs, H a = some (.lst xs) ∧ G (upd H a (.lst xs.reverse))
theorem x_rev {a : Addr} : rReverse (.ref a) [] H Q ↔ RevK a H fun H1 => Q .non H1 := ⟨fun ⟨_, xs, e, _, h, q⟩ => by cases e; exact ⟨xs, h, q⟩, fun ⟨xs, h, q⟩ => ⟨a, xs, rfl, rfl, h, q⟩⟩
theorem RevK.of {a : Addr} {xs : List V} {G : Hp → Prop} (L : Led B H l) (h : (a, HO.lst xs) ∈ l) (t : Put l a (.lst xs.reverse) l') (k : ∀ H1, Led B H1 l' → G H1) : RevK a H G := ⟨xs, L.at h, k _ (L.put t)⟩
theorem s_augS {to ti te : TE} {tget : V → V → Hp → VK → Prop} {tip : TIp} {tset : TSet} : tAugS to ti te tget tip tset D σ H = to σ H fun o H1 => ti σ H1 fun i H2 => tget o i H2 fun x H3 => te σ H3 fun y H4 => tip x y H4 fun z H5 => tset o i z H5 fun H6 => D.nx σ H6 := propext ⟨fun h => h, fun h => h⟩
theorem x_ip {g : Int → Int → Int} {i j : Int} : ipI g (.int i) (.int j) H Q ↔ Q (.int (g i j)) H := ⟨fun ⟨_, _, e1, e2, q⟩ => by cases e1; cases e2; exact q, fun q => ⟨i, j, rfl, rfl, q⟩⟩
theorem i_rng3 {al : TA} {R : It → Hp → Prop} : iRng3 al σ H R = al σ H fun vs H1 => ∃ (i j c : Int) (n : Nat), vs = [.int i, .int j, .int c] ∧ RgC i j c n ∧ R (Itc i c n) H1 := propext ⟨fun h => h, fun h => h⟩
end
theorem pget_list {X : Cx} : PGet X (rIxL X.K) := by
  intro pins s σ H x y v u Q I rx ry h
  obtain ⟨p, xs, i, z, rfl, rfl, hq, he, q⟩ := h
  cases rx
  obtain ⟨t, rfl⟩ := ry
  obtain ⟨its, r, pl, hz⟩ := I.list hq
  obtain ⟨j, h1, h2, h3, h4, h5⟩ := atI_get he
  obtain ⟨w, ew, rw'⟩ := r.get h2
  have hl := r.length
  have hn := line63
  have fin : EP X pins σ Q w s := ⟨z, H, I, rw', q⟩
  by_cases h0 : 0 ≤ i
  · have hj : i.toNat = j := by
      have h1' := h1
      rw [seqIndex_of h0 h5] at h1'
      exact Option.some.inj h1'
    exact wpAny_getItem_list pl.isList h0 (by omega) (by rw [hj]; simpa using ew) fin
  · have hj : (i + (its.toArray.size : Int)).toNat = j := by
      have h1' := h1
      rw [seqIndex_neg (by omega) h4] at h1'
      rw [List.size_toArray, ← hl]
      exact Option.some.inj h1'
    exact wpAny_getItem_list_neg pl.isList (by omega) (by rw [List.size_toArray] <;> omega) (by omega) (by rw [hj]; simpa using ew) fin
/-! ### loops, kept whole -/
section
variable {K : PySem.W.Frag} {g : TG} {tb : TS} {D : Ends} {σ : L2.St} {H : Hp} {a : Addr} {xs : List V} {lo : Int} {n : Nat}
theorem loop_list (Pv : Nat → L2.St → Hp → Prop) (h0 : Pv 0 σ H) (hl : ∀ i σ H, i ≤ xs.length → Pv i σ H → SqL K H a xs)
    (hs : ∀ i x σ H (N : L2.St → Hp → Prop), xs[i]? = some x → Pv i σ H → (∀ σ' H', Pv (i + 1) σ' H' → N σ' H') → g x σ H fun σ2 H2 => tb { D with nx := N, ct := N, bk := D.nx } σ2 H2) (hd : ∀ σ H, Pv xs.length σ H → D.nx σ H) : LoopK (Itl K a) g tb D σ H :=
  for_list Pv h0 hl (fun i x σ H e p => hs i x σ H _ e p fun _ _ z => z) hd
theorem loop_tup (Pv : Nat → L2.St → Hp → Prop) (h0 : Pv 0 σ H) (hl : ∀ i σ H, i ≤ xs.length → Pv i σ H → SqT K H a xs)
    (hs : ∀ i x σ H (N : L2.St → Hp → Prop), xs[i]? = some x → Pv i σ H → (∀ σ' H', Pv (i + 1) σ' H' → N σ' H') → g x σ H fun σ2 H2 => tb { D with nx := N, ct := N, bk := D.nx } σ2 H2) (hd : ∀ σ H, Pv xs.length σ H → D.nx σ H) : LoopK (Itt K a) g tb D σ H :=
  for_tup Pv h0 hl (fun i x σ H e p => hs i x σ H _ e p fun _ _ z => z) hd
theorem loop_range (Pv : Nat → L2.St → Hp → Prop) (h0 : Pv 0 σ H)
    (hs : ∀ i σ H (N : L2.St → Hp → Prop), i < n → Pv i σ H → (∀ σ' H', Pv (i + 1) σ' H' → N σ' H') → g (.int (lo + i)) σ H fun σ2 H2 => tb { D with nx := N, ct := N, bk := D.nx } σ2 H2) (hd : ∀ σ H, Pv n σ H → D.nx σ H) : LoopK (Itr lo n) g tb D σ H :=
  for_range Pv h0 (fun i σ H e p => hs i σ H _ e p fun _ _ z => z) hd
theorem loop_rangeC {c : Int} (Pv : Nat → L2.St → Hp → Prop) (h0 : Pv 0 σ H)
    (hs : ∀ i σ H (N : L2.St → Hp → Prop), i < n → Pv i σ H → (∀ σ' H', Pv (i + 1) σ' H' → N σ' H') → g (.int (lo + (i : Nat) * c)) σ H fun σ2 H2 => tb { D with nx := N, ct := N, bk := D.nx } σ2 H2) (hd : ∀ σ H, Pv n σ H → D.nx σ H) : LoopK (Itc lo c n) g tb D σ H :=
  for_rangeC Pv h0 (fun i σ H e p => hs i σ H _ e p fun _ _ z => z) hd
variable {tt : TT} {te : TE} {vs : List Nat} {Q : VK}
/-- what a turn of a comprehension does, N behind it -/
def TurnK (g : TG) (tt : TT) (te : TE) (vs : List Nat) (σ : L2.St) (p : Addr) (N : Hp → Prop) (x : V) (H : Hp) : Prop :=
  g x (wipe σ vs) H fun σ2 H2 => wipe σ2 vs = wipe σ vs ∧ tt σ2 H2 fun b H3 => if b = true then te σ2 H3 fun y H4 => AppK p y H4 N else N H3
theorem comp_gen {J : It} (n : Nat) (R : Nat → Addr → List V → Hp → Prop) (h0 : ∀ p, H p = none → R 0 p [] (upd H p (.lst [])))
    (hn : ∀ p acc H', R n p acc H' → J.stop n H' ∧ Q (.ref p) H')
    (hs : ∀ i p acc H', i < n → R i p acc H' → J.go i H' ∧ ∀ x H2, J.yld i H' x H2 → TurnK g tt te vs σ p (fun H3 => ∃ acc, R (i + 1) p acc H3) x H2) : LcK J g tt te vs σ H Q := by
  intro p hp
  refine ⟨fun i m H' => m = n - i ∧ i ≤ n ∧ ∃ acc, R i p acc H', ⟨n, rfl, Nat.zero_le _, [], h0 p hp⟩, ?_⟩
  rintro i m H' ⟨rfl, hi, acc, r⟩
  by_cases c : i < n
  · obtain ⟨r1, r2⟩ := hs i p acc H' c r
    exact Or.inr ⟨r1, fun H'' => ∃ acc, R (i + 1) p acc H'', fun H'' z => ⟨n - (i + 1), by omega, rfl, c, z⟩, fun x H2 y => r2 x H2 y⟩
  · have e : i = n := by omega
    subst e
    exact Or.inl (hn p acc H' r)
/-- over a list that stands -/
theorem comp_list (R : Nat → Addr → List V → Hp → Prop) (h0 : ∀ p, H p = none → R 0 p [] (upd H p (.lst []))) (hl : ∀ i p acc H', R i p acc H' → SqL K H' a xs)
    (hn : ∀ p acc H', R xs.length p acc H' → Q (.ref p) H') (hs : ∀ i p acc H' x (N : Hp → Prop), xs[i]? = some x → R i p acc H' → (∀ acc H3, R (i + 1) p acc H3 → N H3) → TurnK g tt te vs σ p N x H') : LcK (Itl K a) g tt te vs σ H Q := by
  refine comp_gen xs.length R h0 (fun p acc H' r => ⟨⟨xs, hl _ _ _ _ r, Nat.le_refl _⟩, hn p acc H' r⟩) fun i p acc H' hi r => ?_
  refine ⟨⟨xs, xs[i], hl _ _ _ _ r, List.getElem?_eq_getElem hi⟩, ?_⟩
  rintro x H2 ⟨rfl, hx⟩
  exact hs i p acc _ x _ (hx xs (hl _ _ _ _ r)) r fun acc H3 z => ⟨acc, z⟩
theorem comp_tup (R : Nat → Addr → List V → Hp → Prop) (h0 : ∀ p, H p = none → R 0 p [] (upd H p (.lst []))) (hl : ∀ i p acc H', R i p acc H' → SqT K H' a xs)
    (hn : ∀ p acc H', R xs.length p acc H' → Q (.ref p) H') (hs : ∀ i p acc H' x (N : Hp → Prop), xs[i]? = some x → R i p acc H' → (∀ acc H3, R (i + 1) p acc H3 → N H3) → TurnK g tt te vs σ p N x H') : LcK (Itt K a) g tt te vs σ H Q := by
  refine comp_gen xs.length R h0 (fun p acc H' r => ⟨⟨xs, hl _ _ _ _ r, Nat.le_refl _⟩, hn p acc H' r⟩) fun i p acc H' hi r => ?_
  refine ⟨⟨xs, xs[i], hl _ _ _ _ r, List.getElem?_eq_getElem hi⟩, ?_⟩
  rintro x H2 ⟨rfl, hx⟩
  exact hs i p acc _ x _ (hx xs (hl _ _ _ _ r)) r fun acc H3 z => ⟨acc, z⟩
theorem comp_range (R : Nat → Addr → List V → Hp → Prop) (h0 : ∀ p, H p = none → R 0 p [] (upd H p (.lst [])))
    (hn : ∀ p acc H', R n p acc H' → Q (.ref p) H') (hs : ∀ i p acc H' (N : Hp → Prop), i < n → R i p acc H' → (∀ acc H3, R (i + 1) p acc H3 → N H3) → TurnK g tt te vs σ p N (.int (lo + i)) H') : LcK (Itr lo n) g tt te vs σ H Q := by
  refine comp_gen n R h0 (fun p acc H' r => ⟨Nat.le_refl _, hn p acc H' r⟩) fun i p acc H' hi r => ⟨hi, ?_⟩
  rintro x H2 ⟨rfl, rfl⟩
  exact hs i p acc _ _ hi r fun acc H3 z => ⟨acc, z⟩
/-- over enumerate of a list that stands -/
theorem comp_enum (R : Nat → Addr → List V → Hp → Prop) (h0 : ∀ p, H p = none → R 0 p [] (upd H p (.lst []))) (hl : ∀ i p acc H', R i p acc H' → SqL K H' a xs)
    (hn : ∀ p acc H', R xs.length p acc H' → Q (.ref p) H')
    (hs : ∀ i p acc H' x (N : Hp → Prop), xs[i]? = some x → R i p acc H' → (∀ acc H3, R (i + 1) p acc H3 → N H3) → NewK (.tup [.int (i : Nat), x]) H' fun t H2 => TurnK g tt te vs σ p N (.ref t) H2) : LcK (Ite K a) g tt te vs σ H Q := by
  refine comp_gen xs.length R h0 (fun p acc H' r => ⟨⟨xs, hl _ _ _ _ r, Nat.le_refl _⟩, hn p acc H' r⟩) fun i p acc H' hi r => ?_
  refine ⟨⟨xs, xs[i], hl _ _ _ _ r, List.getElem?_eq_getElem hi⟩, ?_⟩
  rintro v H2 ⟨t, x, rfl, ht, rfl, hx⟩
  exact hs i p acc _ x _ (hx xs (hl _ _ _ _ r)) r (fun acc H3 z => ⟨acc, z⟩) t ht
end

/-! ### small facts -/
theorem NeD.of {K : PySem.W.Frag} {H : Hp} {x y : V} {d e : PyData} {Q : VK} (h1 : Dp K H x d) (h2 : Dp K H y e) (s1 : SeqAt.shaped d = true) (s2 : SeqAt.shaped e = true) (q : Q (.bl (!PyData.eqv d e)) H) : rNeD K x y H Q := ⟨d, e, h1, h2, s1, s2, q⟩
theorem EqD.of {K : PySem.W.Frag} {H : Hp} {x y : V} {d e : PyData} {Q : VK} (h1 : Dp K H x d) (h2 : Dp K H y e) (s1 : SeqAt.shaped d = true) (s2 : SeqAt.shaped e = true) (q : Q (.bl (PyData.eqv d e)) H) : rEqD K x y H Q := ⟨d, e, h1, h2, s1, s2, q⟩
theorem RepK.of {K : PySem.W.Frag} {H : Hp} {x : V} {d : PyData} {n k : Nat} {G : Str → Prop} (h : Dp K H x d) (w : Shw n k d) (h1 : n ≤ 16000000) (h2 : k ≤ 60) (q : G d.shown) : RepK K x H G := ⟨d, h, w.up h1 h2, q⟩
theorem RepK.int {K : PySem.W.Frag} {H : Hp} {i : Int} {G : Str → Prop} (k : Nat) (h : i.natAbs < 2 ^ k) (q : G (PyData.int i).shown) (h0 : 0 < k := by decide) (h1 : k ≤ 1920 := by decide) : RepK K (.int i) H G := RepK.of (Dp.int i) (Shw.int h0 h1 h) (by omega) (by decide) q
theorem RepK.bl {K : PySem.W.Frag} {H : Hp} {b : Bool} {G : Str → Prop} (q : G (PyData.bool b).shown) : RepK K (.bl b) H G := RepK.of (Dp.bl b) (Shw.bl b) (by decide) (by decide) q
theorem canLayAll_all : ∀ ds : List PyData, (∀ d ∈ ds, d.canLay0 = true) → PyData.canLayAll0 ds = true
  | [], _ => rfl
  | d :: r, h => by
    rw [PyData.canLayAll0, h d List.mem_cons_self, canLayAll_all r fun e he => h e (List.mem_cons_of_mem _ he)]; rfl
/-- data that == takes -/
structure Eqd (k : Nat) (d : PyData) : Prop where
  c : d.canLay0 = true
  p : d.depth ≤ k
theorem Eqd.lst {k : Nat} {ds : List PyData} (h : ∀ d ∈ ds, Eqd k d) : Eqd (k + 1) (.list ds) := ⟨by rw [PyData.canLay0]; exact canLayAll_all ds fun d hd => (h d hd).c, by
  simp only [PyData.depth]
  have := depthAll_le ds fun d hd => (h d hd).p
  omega⟩
theorem Eqd.tup {k : Nat} {ds : List PyData} (h : ∀ d ∈ ds, Eqd k d) : Eqd (k + 1) (.tuple ds) := ⟨by rw [PyData.canLay0]; exact canLayAll_all ds fun d hd => (h d hd).c, by
  simp only [PyData.depth]
  have := depthAll_le ds fun d hd => (h d hd).p
  omega⟩
theorem Eqd.int (i : Int) : Eqd 1 (.int i) := ⟨by rw [PyData.canLay0], by simp [PyData.depth]⟩
theorem Eqd.str (i : Str) (h : PyData.strOk i = true) : Eqd 1 (.str i) := ⟨by rw [PyData.canLay0]; exact h, by simp [PyData.depth]⟩
theorem Eqd.bl (i : Bool) : Eqd 1 (.bool i) := ⟨by rw [PyData.canLay0], by simp [PyData.depth]⟩
theorem Eqd.non : Eqd 1 .none := ⟨by rw [PyData.canLay0], by simp [PyData.depth]⟩
theorem Eqd.sh {k : Nat} {d : PyData} (h : Eqd k d) (hk : k ≤ 64) : SeqAt.shaped d = true := by
  unfold SeqAt.shaped
  rw [h.c, Bool.true_and]
  exact decide_eq_true (Nat.le_trans h.p hk)
theorem eqv_nil (ds : List PyData) : PyData.eqv (.list ds) (.list []) = ds.isEmpty := by
  cases ds with
  | nil => exact rfl
  | cons d r => exact rfl
theorem EqD.nil {K : PySem.W.Frag} {H : Hp} {a b : Addr} {xs : List V} {ds : List PyData} {Q : VK} {k : Nat} (h : SqL K H a xs) (e : DpAll K H xs ds) (g : ∀ d ∈ ds, Eqd k d) (hk : k ≤ 60) (h2 : SqL K H b []) (q : Q (.bl ds.isEmpty) H) : rEqD K (.ref a) (.ref b) H Q :=
  EqD.of (.lst h e) (.lst h2 .nil) ((Eqd.lst g).sh (by omega)) ((Eqd.lst (k := 1) (ds := []) (fun _ z => (List.not_mem_nil z).elim)).sh (by decide)) (by rw [eqv_nil]; exact q)
theorem NeD.nil {K : PySem.W.Frag} {H : Hp} {a b : Addr} {xs : List V} {ds : List PyData} {Q : VK} {k : Nat} (h : SqL K H a xs) (e : DpAll K H xs ds) (g : ∀ d ∈ ds, Eqd k d) (hk : k ≤ 60) (h2 : SqL K H b []) (q : Q (.bl (!ds.isEmpty)) H) : rNeD K (.ref a) (.ref b) H Q :=
  NeD.of (.lst h e) (.lst h2 .nil) ((Eqd.lst g).sh (by omega)) ((Eqd.lst (k := 1) (ds := []) (fun _ z => (List.not_mem_nil z).elim)).sh (by decide)) (by rw [eqv_nil]; exact q)
theorem tyL {K : PySem.W.Frag} {H : Hp} {p : Addr} {xs : List V} (h : SqL K H p xs) : tyV K "list" (.ref p) H := Or.inl ⟨rfl, _, h⟩
theorem tri_even (t : Int) : t * (t + 1) % 2 = 0 := by
  rw [Int.mul_emod]
  have h : t % 2 = 0 ∨ t % 2 = 1 := by omega
  rcases h with h | h
  · rw [h, Int.zero_mul]; rfl
  · have e : (t + 1) % 2 = 0 := by omega
    rw [e, Int.mul_zero]; rfl
theorem eqv_refl_nil : PyData.eqv (.list []) (.list []) = true := by first | rfl | simp [PyData.eqv, PyData.eqvAll] | decide +kernel
theorem sc_ii {i j : Int} : scal (.int i) (.int j) = true ↔ True := iff_true_intro rfl
theorem sc_ss {i j : Str} : scal (.str i) (.str j) = true ↔ True := iff_true_intro rfl
theorem sc_bb {i j : Bool} : scal (.bl i) (.bl j) = true ↔ True := iff_true_intro rfl
theorem sc_nn : scal .non .non = true ↔ True := iff_true_intro rfl
theorem sc_ns {j : Str} : scal .non (.str j) = true ↔ True := iff_true_intro rfl
theorem sc_sn {j : Str} : scal (.str j) .non = true ↔ True := iff_true_intro rfl
theorem sc_ni {j : Int} : scal .non (.int j) = true ↔ True := iff_true_intro rfl
theorem sc_in {j : Int} : scal (.int j) .non = true ↔ True := iff_true_intro rfl
theorem tri (t : Int) : (t + 1) * (t + 1 + 1) / 2 = t * (t + 1) / 2 + (t + 1) := by
  have e : (t + 1) * (t + 1 + 1) = t * (t + 1) + 2 * (t + 1) := by
    rw [Int.mul_add (t + 1) (t + 1) 1, Int.add_mul t 1 (t + 1)]
    omega
  rw [e]
  omega
theorem atI_in {α : Type} {xs : List α} {i : Int} (h0 : 0 ≤ i) (h : i < xs.length) : atI xs i = some (xs[i.toNat]'(by omega)) := by
  unfold atI ixN
  rw [if_pos h0, if_pos h]
  show xs[i.toNat]? = _
  exact List.getElem?_eq_getElem _
theorem atI_map {ns : List Int} {i : Int} (h0 : 0 ≤ i) (h : i < ns.length) : ∃ n, n ∈ ns ∧ atI (ns.map V.int) i = some (.int n) := by
  have h2 : i < ((ns.map V.int).length : Nat) := by rw [List.length_map]; exact h
  refine ⟨ns[i.toNat]'(by omega), List.getElem_mem _, ?_⟩
  rw [atI_in h0 h2, List.getElem_map]
theorem two_pow (n : Nat) : (2 : Int) ^ n = ((2 ^ n : Nat) : Int) := by
  rw [Int.natCast_pow]; rfl
theorem abs_lt {i : Int} {n : Nat} (h0 : 0 ≤ i) (h : i < 2 ^ n) : i.natAbs < 2 ^ n := by
  rw [two_pow] at h
  omega
theorem pow_bits {i : Int} {n m : Nat} (hn : 0 < n) (h0 : 0 ≤ i) (h : i < 2 ^ n) (hm : n * m ≤ 2 ^ 27) : 0 ≤ (m : Int) ∧ (Builtin.Int.intBits i : Int) * (m : Int) ≤ 2 ^ 27 := by
  have h2 := bits_le hn (abs_lt h0 h)
  refine ⟨by omega, ?_⟩
  have h3 : Builtin.Int.intBits i * m ≤ 2 ^ 27 := Nat.le_trans (Nat.mul_le_mul_right m h2) hm
  have h4 : ((Builtin.Int.intBits i * m : Nat) : Int) ≤ ((2 ^ 27 : Nat) : Int) := Int.ofNat_le.mpr h3
  rw [Int.natCast_mul] at h4
  exact h4
theorem mul_w {i j : Int} {n : Nat} (hn : 0 < n) (h0 : 0 ≤ i) (h : i < 2 ^ n) (h1 : 0 ≤ j) (h2 : j < 2 ^ n) (hm : n + n ≤ 1000000) : CMulW i j := wide_mul (a := n) (b := n) (abs_lt h0 h) (abs_lt h1 h2) hn hn hm
theorem div_w {i j : Int} {n : Nat} (hn : 0 < n) (h0 : 0 < j) (h : j < 2 ^ n) (hm : n ≤ 9000) : CDivW i j := wide_div h0 (b := n) (abs_lt (by omega) h) hn hm
end Vg


set_option Elab.async false
set_option linter.all false
set_option maxRecDepth 100000
set_option maxHeartbeats 2000000
namespace Vg
open PySem PySem.Spec PyProof.Rows L2

/-! ### data of any kind, dicts within -/
def keyD : Key → PyData
  | .inl i => .int i
  | .inr x => .str x
mutual
inductive Dq (K : PySem.W.Frag) (H : Hp) : V → PyData → Prop
  | non : Dq K H .non .none
  | bl (b : Bool) : Dq K H (.bl b) (.bool b)
  | int (i : Int) : Dq K H (.int i) (.int i)
  | str (x : Str) : Dq K H (.str x) (.str x)
  | lst {a : Addr} {xs : List V} {ds : List PyData} : SqL K H a xs → DqAll K H xs ds → Dq K H (.ref a) (.list ds)
  | tup {a : Addr} {xs : List V} {ds : List PyData} : SqT K H a xs → DqAll K H xs ds → Dq K H (.ref a) (.tuple ds)
  | dct {a : Addr} {kvs : List (Key × V)} {ps : List (PyData × PyData)} : H a = some (.dK kvs) → ps.map (·.1) = kvs.map (fun kv => keyD kv.1) → DqAll K H (kvs.map (·.2)) (ps.map (·.2)) → Dq K H (.ref a) (.dict ps)
inductive DqAll (K : PySem.W.Frag) (H : Hp) : List V → List PyData → Prop
  | nil : DqAll K H [] []
  | cons {v : V} {vs : List V} {d : PyData} {ds : List PyData} : Dq K H v d → DqAll K H vs ds → DqAll K H (v :: vs) (d :: ds)
end
/-- sys.modules stands -/
def SM (bs : Heap) : Prop := ∃ mm, bs.Ns sysModules mm
section
variable {X : Cx} {pins : List (Addr × Obj)} {σ : L2.St} {H : Hp} {s : Shared}
theorem SM.ne (m : SM X.base) (I : L2.Inv X pins σ H s) {a : Addr} {o : Obj} {its : Array Value} {n : Nat} (h : s.heap.get? a = some o) (hd : o.data = .seq its n) : sysModules ≠ a := by
  intro e
  obtain ⟨mm, ob, es, ep, h1, h2, _⟩ := m
  have h3 := I.bk _ _ h1
  rw [e, h] at h3
  cases h3
  rw [hd] at h2
  cases h2
theorem keys_reads {P : Program} {w : World} {h : Heap} : ∀ {es : List DictEntry} {vs : List (Key × Value)}, Pairs (mixKind P w) es vs → ReadsAll h (es.map (·.key)) (vs.map fun kv => keyD kv.1) []
  | _, _, .nil => .nil
  | _, _, .cons (e := e) (kv := kv) h1 h2 r => by
    have ih := keys_reads (h := h) r
    rcases keyIs_shape (show keyIs kv.1 e.key = true from h1) with ⟨i, t, e1, e2⟩ | ⟨x, t, e1, e2⟩
    · rw [List.map_cons, List.map_cons, e2, e1]
      exact ReadsAll.cons (Reads.int i t) ih
    · rw [List.map_cons, List.map_cons, e2, e1]
      exact ReadsAll.cons (Reads.str x t) ih
theorem vals_of_pairs {P : Program} {w : World} : ∀ {es : List DictEntry} {vs : List (Key × Value)} {kvs : List (Key × V)}, Pairs (mixKind P w) es vs → KV kvs vs → Vals (kvs.map (·.2)) (es.map (·.val)) ∧ kvs.map (fun kv => keyD kv.1) = vs.map (fun kv => keyD kv.1)
  | _, _, _, .nil, .nil => ⟨.nil, rfl⟩
  | _, _, _, .cons h1 h2 r, .cons p q => by
    obtain ⟨i1, i2⟩ := vals_of_pairs r q
    refine ⟨.cons (by show L2.RelV _ (DictEntry.val _); rw [h2]; exact p.2) i1, ?_⟩
    rw [List.map_cons, List.map_cons, i2, p.1]
theorem size_snd : ∀ ps : List (PyData × PyData), sizeOf (ps.map (·.2)) ≤ sizeOf ps
  | [] => Nat.le_refl _
  | (k, v) :: r => by
    have := size_snd r
    simp only [List.map_cons, List.cons.sizeOf_spec, Prod.mk.sizeOf_spec]
    omega
mutual
theorem Dq.reads (m : SM X.base) (I : L2.Inv X pins σ H s) : ∀ (d : PyData) (v : V) (u : Value), Dq X.K H v d → RelV v u → ∃ as, Reads s.heap u d as ∧ sysModules ∉ as
  | .none, _, _, h, r => by
    cases h
    cases r
    exact ⟨_, Reads.none, List.not_mem_nil⟩
  | .bool b, _, _, h, r => by
    cases h
    cases r
    exact ⟨_, Reads.bool b, List.not_mem_nil⟩
  | .int i, _, _, h, r => by
    cases h
    obtain ⟨t, rfl⟩ := r
    exact ⟨_, Reads.int i t, List.not_mem_nil⟩
  | .str x, _, _, h, r => by
    cases h
    obtain ⟨t, rfl⟩ := r
    exact ⟨_, Reads.str x t, List.not_mem_nil⟩
  | .list ds, _, _, h, r => by
    cases h with
    | lst hs ha =>
      cases r
      obtain ⟨its, rv, ⟨o, n, ho, hc, _, hd⟩, _⟩ := I.list hs
      obtain ⟨as, hr, hn⟩ := DqAll.reads m I ds _ its ha rv
      exact ⟨_, Reads.list ho hc hd hr, fun z => (List.mem_cons.mp z).elim (m.ne I ho hd) hn⟩
  | .tuple ds, _, _, h, r => by
    cases h with
    | tup hs ha =>
      cases r
      obtain ⟨its, rv, ⟨o, ho, hc, n, hd⟩, _⟩ := I.tuple hs
      obtain ⟨as, hr, hn⟩ := DqAll.reads m I ds _ its ha rv
      exact ⟨_, Reads.tuple ho hc hd hr, hn⟩
  | .dict ps, _, _, h, r => by
    cases h with
    | dct hd hk ha =>
      cases r
      obtain ⟨_, lo, vs, kv, o, es, ep, ho, ex, hdat, _, pr, _⟩ := I.hok _ _ hd
      obtain ⟨v1, v2⟩ := vals_of_pairs pr kv
      obtain ⟨as, hr, hn⟩ := DqAll.reads m I (ps.map (·.2)) _ _ ha v1
      have hkeys := keys_reads (h := s.heap) pr
      rw [← v2, ← hk] at hkeys
      refine ⟨_, Reads.dict ho ex.1 hdat hkeys hr, fun z => ?_⟩
      rcases List.mem_cons.mp z with z | z
      · exact (beq_eq_false_iff_ne.mp lo) z.symm
      · exact hn z
termination_by d => sizeOf d
decreasing_by
  all_goals first
  | (simp only [PyData.dict.sizeOf_spec]; have := size_snd ps; omega)
  | (simp only [PyData.list.sizeOf_spec]; omega)
  | (simp only [PyData.tuple.sizeOf_spec]; omega)
theorem DqAll.reads (m : SM X.base) (I : L2.Inv X pins σ H s) : ∀ (ds : List PyData) (vs : List V) (us : List Value), DqAll X.K H vs ds → Vals vs us → ∃ as, ReadsAll s.heap us ds as ∧ sysModules ∉ as
  | [], _, _, h, r => by
    cases h
    cases r
    exact ⟨_, ReadsAll.nil, List.not_mem_nil⟩
  | d :: ds, _, _, h, r => by
    cases h with
    | cons h1 h2 =>
      cases r with
      | cons r1 r2 =>
        obtain ⟨as, q1, n1⟩ := Dq.reads m I d _ _ h1 r1
        obtain ⟨bs, q2, n2⟩ := DqAll.reads m I ds _ _ h2 r2
        exact ⟨_, ReadsAll.cons q1 q2, fun z => (List.mem_append.mp z).elim n1 n2⟩
termination_by ds => sizeOf ds
decreasing_by all_goals (simp only [List.cons.sizeOf_spec]; omega)
end
end
mutual
theorem Dq.of {K : PySem.W.Frag} {H : Hp} : ∀ {v : V} {d : PyData}, Dp K H v d → Dq K H v d
  | _, _, .non => .non
  | _, _, .bl b => .bl b
  | _, _, .int i => .int i
  | _, _, .str x => .str x
  | _, _, .lst h a => .lst h (DqAll.of a)
  | _, _, .tup h a => .tup h (DqAll.of a)
theorem DqAll.of {K : PySem.W.Frag} {H : Hp} : ∀ {v : List V} {d : List PyData}, DpAll K H v d → DqAll K H v d
  | _, _, .nil => .nil
  | _, _, .cons h r => .cons (Dq.of h) (DqAll.of r)
end
mutual
theorem Dq.mono {K : PySem.W.Frag} {H H' : Hp} (s : Same H H') : ∀ {v : V} {d : PyData}, Dq K H v d → Dq K H' v d
  | _, _, .non => .non
  | _, _, .bl b => .bl b
  | _, _, .int i => .int i
  | _, _, .str x => .str x
  | _, _, .lst h a => .lst (s.seq h) (DqAll.mono s a)
  | _, _, .tup (a := p) (xs := xs) h a => .tup (by
      rcases h with (h | ⟨o, h⟩) | h
      · exact Or.inl (Or.inl (s _ _ h))
      · exact Or.inl (Or.inr ⟨o, s _ _ h⟩)
      · exact Or.inr h) (DqAll.mono s a)
  | _, _, .dct h k a => .dct (s _ _ h) k (DqAll.mono s a)
theorem DqAll.mono {K : PySem.W.Frag} {H H' : Hp} (s : Same H H') : ∀ {v : List V} {d : List PyData}, DqAll K H v d → DqAll K H' v d
  | _, _, .nil => .nil
  | _, _, .cons h r => .cons (Dq.mono s h) (DqAll.mono s r)
end
/-- as Shw, dicts within -/
structure Shq (n k : Nat) (d : PyData) : Prop where
  sh : d.showable = true
  dp : d.depth ≤ k
  sz : d.shown.length ≤ n
theorem Shw.q {n k : Nat} {d : PyData} (h : Shw n k d) : Shq n k d := ⟨h.sh, h.dp, h.sz⟩
theorem Shq.up {n k m j : Nat} {d : PyData} (h : Shq n k d) (h1 : n ≤ m) (h2 : k ≤ j) : Shq m j d := ⟨h.sh, Nat.le_trans h.dp h2, Nat.le_trans h.sz h1⟩
theorem Shq.lst {n k : Nat} {ds : List PyData} (h : ∀ d ∈ ds, Shq n k d) : Shq (ds.length * (n + 2) + 2) (k + 1) (.list ds) := by
  refine ⟨?_, ?_, ?_⟩
  · rw [PyData.showable]
    exact showableAll_all ds fun d hd => (h d hd).sh
  · simp only [PyData.depth]
    have := depthAll_le ds fun d hd => (h d hd).dp
    omega
  · rw [PyData.shown, shownAll_map]
    refine Nat.le_trans (listText_le _) ?_
    have := lt_one (n := n) (ds.map PyData.shown) (by
      intro t ht
      obtain ⟨d, hd, rfl⟩ := List.mem_map.mp ht
      exact (h d hd).sz)
    rw [List.length_map] at this
    omega
theorem Shq.tup {n k : Nat} {ds : List PyData} (h : ∀ d ∈ ds, Shq n k d) : Shq (ds.length * (n + 2) + 2) (k + 1) (.tuple ds) := by
  refine ⟨?_, ?_, ?_⟩
  · rw [PyData.showable]
    exact showableAll_all ds fun d hd => (h d hd).sh
  · simp only [PyData.depth]
    have := depthAll_le ds fun d hd => (h d hd).dp
    omega
  · rw [PyData.shown, shownAll_map]
    refine Nat.le_trans (fmt_text _) ?_
    have := lt_one (n := n) (ds.map PyData.shown) (by
      intro t ht
      obtain ⟨d, hd, rfl⟩ := List.mem_map.mp ht
      exact (h d hd).sz)
    rw [List.length_map] at this
    omega
/-! ### repr of these -/
def RepQ (K : PySem.W.Frag) (x : V) (H : Hp) (G : Str → Prop) : Prop := ∃ d, Dq K H x d ∧ Shq 16000000 60 d ∧ G d.shown
def rReprQ (K : PySem.W.Frag) : List V → Hp → VK → Prop := fun xs H Q => ∃ x, xs = [x] ∧ RepQ K x H fun t => Q (.str t) H
theorem x_reprQ {K : PySem.W.Frag} {x : V} {H : Hp} {Q : VK} : rReprQ K [x] H Q ↔ RepQ K x H fun t => Q (.str t) H := ⟨fun ⟨_, e, q⟩ => by cases e; exact q, fun q => ⟨x, rfl, q⟩⟩
theorem call_reprQ {X : Cx} {n : Nat} (g : X.A.guards = some []) (r : Room n X.A) (m : SM X.base) : CallR X (.builtin "repr") (rReprQ X.K) := by
  intro pins s σ H xs us Q I rv h
  obtain ⟨x, rfl, d, hd, sw, q⟩ := h
  obtain ⟨u, rfl, ru⟩ := vals1 rv
  have hz : d.shown.length ≤ sizeLine := Nat.le_trans sw.sz (by decide)
  have hu := r.units
  obtain ⟨as, rd, hno⟩ := Dq.reads m I _ _ _ hd ru
  have rest : ∀ a, u = Value.ref a → wpAny (model X.prog X.w) X.A (call (.builtin "repr") [u]) (EP X pins σ Q) X.xe s := by
    rintro a rfl
    refine repr_of_reads' rd sw.sh (fun _ => hno) g (by have := sw.dp; omega) (fun _ _ z => z) (fun h' u tk hk => ?_) hz
    exact ⟨.str _, H, I.call' (s' := { s with heap := h', toks := tk }) (ch := []) rfl (Un.kept hk) (I.hok.kept hk) I.bare (fun b z => (List.not_mem_nil z).elim), ⟨u, rfl⟩, q⟩
  cases hd with
  | non =>
    cases ru
    rw [PyData.shown] at q
    exact PySem.P.repr_of_none ⟨.str _, H, I.tok _, ⟨_, rfl⟩, q⟩
  | bl b =>
    cases ru
    rw [PyData.shown] at q
    exact PySem.P.repr_of_bool ⟨.str _, H, I.tok _, ⟨_, rfl⟩, q⟩
  | int i =>
    obtain ⟨t, rfl⟩ := ru
    have hs := sw.sh
    rw [PyData.showable] at hs
    rw [PyData.shown] at q
    exact PySem.P.repr_of_int (of_decide_eq_true hs) ⟨.str _, H, I.tok _, ⟨_, rfl⟩, q⟩
  | str y =>
    obtain ⟨t, rfl⟩ := ru
    rw [PyData.shown] at hz q
    exact PySem.P.repr_of_str ⟨.str _, H, I.tok _, ⟨_, rfl⟩, q⟩ hz
  | lst hs ha => exact rest _ ru
  | tup hs ha => exact rest _ ru
  | dct hs hk ha => exact rest _ ru
/-! ### == of two lists of other lengths; list.count of flat things -/
def LenNe (K : PySem.W.Frag) (a b : Addr) (H : Hp) : Prop := ∃ xs ys : List V, SqL K H a xs ∧ SqL K H b ys ∧ xs.length ≠ ys.length
def rEqL (K : PySem.W.Frag) : R2 := fun x y H Q => rEqD K x y H Q ∨ ∃ a b, x = .ref a ∧ y = .ref b ∧ LenNe K a b H ∧ Q (.bl false) H
theorem op_eqL {X : Cx} (hu : X.A.units + 64 < cLine) : OpR X (compareOp .Eq) (rEqL X.K) := by
  intro pins s σ H x y v u Q I rx ry h
  rcases h with h | ⟨a, b, rfl, rfl, ⟨xs, ys, h1, h2, ne⟩, q⟩
  · exact op_eqD hu pins s σ H x y v u Q I rx ry h
  · cases rx
    cases ry
    obtain ⟨i1, r1, p1, _⟩ := I.list h1
    obtain ⟨i2, r2, p2, _⟩ := I.list h2
    refine SeqAt.eq_list_lengthsAt p1.isList p2.isList ?_ (by omega) ⟨.bl _, H, I, rfl, q⟩
    rw [bne_iff_ne, List.size_toArray, List.size_toArray, ← r1.length, ← r2.length]
    exact ne
def rCnt (K : PySem.W.Frag) : V → List V → Hp → VK → Prop := fun x vs H Q => ∃ (p : Addr) (xs : List V) (y : V), x = .ref p ∧ vs = [y] ∧ SqL K H p xs ∧ flatV y = true ∧ xs.all flatV = true ∧ Q (.int (xs.countP fun z => eqV z y : Nat)) H
theorem countP_eqU {y : V} : ∀ {xs : List V} {us : List Value}, Vals xs us → xs.all flatV = true → us.countP (eqU y) = xs.countP fun z => eqV z y
  | _, _, .nil, _ => rfl
  | _, _, .cons r rr, h => by
    rw [List.all_cons, Bool.and_eq_true] at h
    rw [List.countP_cons, List.countP_cons, countP_eqU rr h.2, eqU_of r h.1]
theorem mt_count {X : Cx} : MtR X "list.count" (rCnt X.K) := by
  intro pins s σ H x xs v us Q I rx rxs h
  obtain ⟨p, zs, y, rfl, rfl, hs, fy, fz, q⟩ := h
  cases rx
  obtain ⟨u, rfl, ru⟩ := rxs.one
  obtain ⟨its, rv, ⟨⟨cls, dd, data, sl⟩, n, ho, hc, hdn, hd⟩, hlen⟩ := I.list hs
  simp only at hc hd
  subst hc hd
  refine call_meets PySem.F.slot_list_count ⟨_, ho, rfl⟩ PySem.F.entry_list_count (PySem.F.args_list_count_2 _ _)
    (SeqAt.list_countAt p its.toArray n dd sl u (eqU y)) ⟨ho, fun z hz => mem_eqAt ru fy rv fz z (by simpa using hz), ?_⟩
  refine ⟨.int (zs.countP fun z => eqV z y : Nat), H, I.tok _, ⟨s.toks, ?_⟩, q⟩
  show Value.int ((its.toArray.toList.countP (eqU y) : Nat) : Int) s.toks = _
  rw [show its.toArray.toList = its from rfl, countP_eqU rv fz]
/-! ### forms -/
theorem pe_low {X : Cx} {e : Expr} {t t' : TE} (h : PE X e t) (i : ∀ σ H Q, t' σ H Q → t σ H Q) : PE X e t' := ⟨fun pins s σ H Q I q => h.run pins s σ H Q I (i _ _ _ q)⟩
def CntK (K : PySem.W.Frag) (y : V) (p : Addr) (H : Hp) (G : Int → Prop) : Prop := ∃ xs, SqL K H p xs ∧ flatV y = true ∧ xs.all flatV = true ∧ G (xs.countP fun z => eqV z y : Nat)
def RvLK (K : PySem.W.Frag) (a : Addr) (H : Hp) (G : Addr → Hp → Prop) : Prop := ∃ xs, SqL K H a xs ∧ NewK (.lst xs.reverse) H G
def TupK (K : PySem.W.Frag) (a : Addr) (H : Hp) (G : Addr → Hp → Prop) : Prop := ∃ xs, SqL K H a xs ∧ NewK (.tup xs) H G
def rTupL (K : PySem.W.Frag) : List V → Hp → VK → Prop := fun xs H Q => ∃ p, xs = [.ref p] ∧ TupK K p H fun r H1 => Q (.ref r) H1
theorem cr_tupL {X : Cx} : CallR X (.type "tuple") (rTupL X.K) := CallR.as call_tuple_of fun _ _ _ ⟨p, e, ys, h, q⟩ => ⟨p, ys, e, Or.inl ⟨h, q⟩⟩
def tD1 (s : Str) (v : V) : TE := fun _ H Q => NewK (.dK [(.inr s, v)]) H fun p H1 => Q (.ref p) H1
section
variable {K : PySem.W.Frag} {H : Hp} {Q : VK} {σ : L2.St} {te : TE}
theorem x_cnt {p : Addr} {y : V} : rCnt K (.ref p) [y] H Q ↔ CntK K y p H fun n => Q (.int n) H := ⟨fun ⟨_, xs, _, e, e2, h, f1, f2, q⟩ => by cases e; cases e2; exact ⟨xs, h, f1, f2, q⟩, fun ⟨xs, h, f1, f2, q⟩ => ⟨p, xs, y, rfl, rfl, h, f1, f2, q⟩⟩
theorem e_revL : tRevL K te σ H Q ↔ te σ H fun x H1 => ∃ a, x = .ref a ∧ RvLK K a H1 fun p H2 => Q (.ref p) H2 := Iff.of_eq (congrArg (te σ H) (funext fun x => funext fun H1 => propext ⟨fun ⟨a, xs, e, h, q⟩ => ⟨a, e, xs, h, q⟩, fun ⟨a, e, xs, h, q⟩ => ⟨a, xs, e, h, q⟩⟩))
theorem x_tupL {p : Addr} : rTupL K [.ref p] H Q ↔ TupK K p H fun r H1 => Q (.ref r) H1 := ⟨fun ⟨_, e, q⟩ => by cases e; exact q, fun q => ⟨p, rfl, q⟩⟩
theorem e_dn : tDNewK σ H Q = NewK (.dK []) H fun p H2 => Q (.ref p) H2 := propext ⟨fun h => h, fun h => h⟩
theorem e_d1 {s : Str} {v : V} : tD1 s v σ H Q = NewK (.dK [(.inr s, v)]) H fun p H1 => Q (.ref p) H1 := propext ⟨fun h => h, fun h => h⟩
end
theorem upd_upd {H : Hp} {p : Addr} {o o' : HO} : upd (upd H p o) p o' = upd H p o' := by
  funext a
  by_cases c : a = p
  · rw [c, upd_same, upd_same]
  · rw [upd_ne c, upd_ne c, upd_ne c]
theorem pe_d1 {X : Cx} {pos : Pos} {k e : Expr} {s : Str} {v : V} (hk : PE X k (tC (.str s))) (he : PE X e (tC v)) : PE X (.Dict [some k] [e] pos) (tD1 s v) := by
  refine pe_low (pe_disp (pps_cons hk he pps_nil) rfl rfl (List.cons_ne_nil _ _) (by show 1 ≤ 15; decide)) fun σ H Q q p hp => ?_
  refine ⟨upd_same, [(.inr s, v)], rfl, (by show 1 ≤ 15; decide), ?_⟩
  have := q p hp
  rw [show mergeK [] [(Sum.inr s, v)] = [(Sum.inr s, v)] from rfl, upd_upd]
  exact this
section
variable {K : PySem.W.Frag} {H : Hp} {Q : VK}
theorem x_isI_list {x : Int} : rIs K [.int x, .ty "list"] H Q ↔ Q (.bl false) H := x_is (.base (.int x)) (fun _ => ty_int) (by decide +kernel)
theorem x_isI_str {x : Int} : rIs K [.int x, .ty "str"] H Q ↔ Q (.bl false) H := x_is (.base (.int x)) (fun _ => ty_int) (by decide +kernel)
theorem x_isI_dict {x : Int} : rIs K [.int x, .ty "dict"] H Q ↔ Q (.bl false) H := x_is (.base (.int x)) (fun _ => ty_int) (by decide +kernel)
theorem x_isI_tuple {x : Int} : rIs K [.int x, .ty "tuple"] H Q ↔ Q (.bl false) H := x_is (.base (.int x)) (fun _ => ty_int) (by decide +kernel)
theorem x_isB_list {x : Bool} : rIs K [.bl x, .ty "list"] H Q ↔ Q (.bl false) H := x_is (.base (.bl x)) (fun _ => ty_bl) (by decide +kernel)
theorem x_isB_str {x : Bool} : rIs K [.bl x, .ty "str"] H Q ↔ Q (.bl false) H := x_is (.base (.bl x)) (fun _ => ty_bl) (by decide +kernel)
theorem x_isB_dict {x : Bool} : rIs K [.bl x, .ty "dict"] H Q ↔ Q (.bl false) H := x_is (.base (.bl x)) (fun _ => ty_bl) (by decide +kernel)
theorem x_isB_tuple {x : Bool} : rIs K [.bl x, .ty "tuple"] H Q ↔ Q (.bl false) H := x_is (.base (.bl x)) (fun _ => ty_bl) (by decide +kernel)
theorem x_isN_list : rIs K [.non, .ty "list"] H Q ↔ Q (.bl false) H := x_is (.base .non) (fun _ => ty_non) (by decide +kernel)
theorem x_isN_str : rIs K [.non, .ty "str"] H Q ↔ Q (.bl false) H := x_is (.base .non) (fun _ => ty_non) (by decide +kernel)
theorem x_isN_dict : rIs K [.non, .ty "dict"] H Q ↔ Q (.bl false) H := x_is (.base .non) (fun _ => ty_non) (by decide +kernel)
theorem x_isN_tuple : rIs K [.non, .ty "tuple"] H Q ↔ Q (.bl false) H := x_is (.base .non) (fun _ => ty_non) (by decide +kernel)
theorem x_isS_list {x : Str} : rIs K [.str x, .ty "list"] H Q ↔ Q (.bl false) H := x_is (.base (.str x)) (fun _ => ty_str) (by decide +kernel)
theorem x_isS_dict {x : Str} : rIs K [.str x, .ty "dict"] H Q ↔ Q (.bl false) H := x_is (.base (.str x)) (fun _ => ty_str) (by decide +kernel)
theorem x_isS_tuple {x : Str} : rIs K [.str x, .ty "tuple"] H Q ↔ Q (.bl false) H := x_is (.base (.str x)) (fun _ => ty_str) (by decide +kernel)
theorem IsK.lstL {a : Addr} {n : String} {xs : List V} {b : Bool} {G : Bool → Prop} (h : SqL K H a xs) (k : kitB "list" n = some b) (q : G b) : IsK K a n H G := by
  rcases h with (h | ⟨o, h⟩) | ⟨o, its, m, h, hc, _⟩
  · exact ⟨_, b, .base (.lst h), k, q⟩
  · exact ⟨_, b, .base (.frz h), k, q⟩
  · exact ⟨_, b, .kList h hc, k, q⟩
theorem IsK.dK {a : Addr} {n : String} {kvs : List (Key × V)} {b : Bool} {G : Bool → Prop} (h : H a = some (.dK kvs)) (k : kitB "dict" n = some b) (q : G b) : IsK K a n H G := ⟨_, b, .base (.dK h), k, q⟩
theorem EqL0 {a b : Addr} {xs : List V} (h : SqL K H a xs) (h2 : SqL K H b []) (q : Q (.bl xs.isEmpty) H) : rEqL K (.ref a) (.ref b) H Q := by
  cases xs with
  | nil => exact Or.inl (EqD.nil (k := 1) h .nil (fun _ z => (List.not_mem_nil z).elim) (by decide) h2 q)
  | cons x r => exact Or.inr ⟨a, b, rfl, rfl, ⟨_, _, h, h2, by simp⟩, q⟩
end
/-! ### how long a list's text is -/
def Wt (ds : List PyData) : Nat := piled (ds.map PyData.shown)
theorem piled_app (a b : List Str) : piled (a ++ b) = piled a + piled b := by
  induction a with
  | nil => simp [piled]
  | cons x r ih => unfold piled at *; simp only [List.cons_append, List.map_cons, List.sum_cons] at *; omega
theorem Wt.nil : Wt [] = 0 := rfl
theorem Wt.cons (d : PyData) (ds : List PyData) : Wt (d :: ds) = d.shown.length + 2 + Wt ds := by unfold Wt piled; simp only [List.map_cons, List.sum_cons]
theorem Wt.app (a b : List PyData) : Wt (a ++ b) = Wt a + Wt b := by unfold Wt; rw [List.map_append, piled_app]
theorem Wt.take (ds : List PyData) (n : Nat) : Wt (ds.take n) ≤ Wt ds := by
  have := Wt.app (ds.take n) (ds.drop n)
  rw [List.take_append_drop] at this
  omega
theorem Wt.drop (ds : List PyData) (n : Nat) : Wt (ds.drop n) ≤ Wt ds := by
  have := Wt.app (ds.take n) (ds.drop n)
  rw [List.take_append_drop] at this
  omega
theorem Wt.rev (ds : List PyData) : Wt ds.reverse = Wt ds := by
  induction ds with
  | nil => rfl
  | cons d r ih => rw [List.reverse_cons, Wt.app, ih, Wt.cons, Wt.cons, Wt.nil]; omega
structure Shd (k : Nat) (d : PyData) : Prop where
  sh : d.showable = true
  dp : d.depth ≤ k
theorem Shd.lst {k : Nat} {ds : List PyData} (h : ∀ d ∈ ds, Shd k d) : Shq (Wt ds + 2) (k + 1) (.list ds) := by
  refine ⟨?_, ?_, ?_⟩
  · rw [PyData.showable]
    exact showableAll_all ds fun d hd => (h d hd).sh
  · simp only [PyData.depth]
    have := depthAll_le ds fun d hd => (h d hd).dp
    omega
  · rw [PyData.shown, shownAll_map]
    exact listText_le _
theorem Shd.tup {k : Nat} {ds : List PyData} (h : ∀ d ∈ ds, Shd k d) : Shq (Wt ds + 2) (k + 1) (.tuple ds) := by
  refine ⟨?_, ?_, ?_⟩
  · rw [PyData.showable]
    exact showableAll_all ds fun d hd => (h d hd).sh
  · simp only [PyData.depth]
    have := depthAll_le ds fun d hd => (h d hd).dp
    omega
  · rw [PyData.shown, shownAll_map]
    exact fmt_text _
theorem Shq.d {n k : Nat} {d : PyData} (h : Shq n k d) : Shd k d := ⟨h.sh, h.dp⟩
theorem Shd.up {k j : Nat} {d : PyData} (h : Shd k d) (h2 : k ≤ j) : Shd j d := ⟨h.sh, Nat.le_trans h.dp h2⟩
section
variable {K : PySem.W.Frag} {H : Hp}
theorem DqAll.app : ∀ {xs ys : List V} {ds es : List PyData}, DqAll K H xs ds → DqAll K H ys es → DqAll K H (xs ++ ys) (ds ++ es)
  | _, _, _, _, .nil, h => h
  | _, _, _, _, .cons h r, h2 => .cons h (DqAll.app r h2)
theorem DqAll.take : ∀ {xs : List V} {ds : List PyData} (n : Nat), DqAll K H xs ds → DqAll K H (xs.take n) (ds.take n)
  | _, _, 0, _ => .nil
  | _, _, n + 1, .nil => .nil
  | _, _, n + 1, .cons h r => .cons h (DqAll.take n r)
theorem DqAll.drop : ∀ {xs : List V} {ds : List PyData} (n : Nat), DqAll K H xs ds → DqAll K H (xs.drop n) (ds.drop n)
  | _, _, 0, h => h
  | _, _, n + 1, .nil => .nil
  | _, _, n + 1, .cons h r => DqAll.drop n r
theorem DqAll.rev : ∀ {xs : List V} {ds : List PyData}, DqAll K H xs ds → DqAll K H xs.reverse ds.reverse
  | _, _, .nil => .nil
  | _, _, .cons h r => by
    rw [List.reverse_cons, List.reverse_cons]
    exact (DqAll.rev r).app (.cons h .nil)
theorem DqAll.len : ∀ {xs : List V} {ds : List PyData}, DqAll K H xs ds → xs.length = ds.length
  | _, _, .nil => rfl
  | _, _, .cons h r => by rw [List.length_cons, List.length_cons, DqAll.len r]
theorem DqAll.at : ∀ {xs : List V} {ds : List PyData} {i : Nat} {x : V}, DqAll K H xs ds → xs[i]? = some x → ∃ d, ds[i]? = some d ∧ Dq K H x d
  | _, _, 0, _, .cons h r, e => by cases e; exact ⟨_, rfl, h⟩
  | _, _, i + 1, _, .cons h r, e => DqAll.at (i := i) r e
end
/-- all that is owned goes to the base -/
theorem Led.sinkAll {H : Hp} : ∀ {l : List (Addr × HO)} {B : Hp}, Led B H l → ∃ B', Same B B' ∧ (∀ e ∈ l, B' e.1 = some e.2) ∧ Led B' H []
  | [], B, L => ⟨B, Same.refl B, fun e he => (List.not_mem_nil he).elim, L⟩
  | (p, o) :: l, B, L => by
    obtain ⟨B1, s1, h1, L1⟩ := L.sink
    obtain ⟨B2, s2, h2, L2⟩ := Led.sinkAll L1
    refine ⟨B2, s1.trans s2, fun e he => ?_, L2⟩
    rcases List.mem_cons.mp he with z | z
    · rw [z]; exact s2 _ _ h1
    · exact h2 e z
/-! ### lists whose text is short -/
def DW (K : PySem.W.Frag) (H : Hp) (m W k : Nat) (xs : List V) : Prop := ∃ ds, DqAll K H xs ds ∧ Wt ds ≤ W ∧ (∀ d ∈ ds, Shd k d) ∧ xs.length ≤ m
section
variable {K : PySem.W.Frag} {H H' : Hp} {m W k m2 W2 k2 : Nat} {xs ys : List V}
theorem DW.mono (s : Same H H') (h : DW K H m W k xs) : DW K H' m W k xs := by
  obtain ⟨ds, h1, h2⟩ := h
  exact ⟨ds, h1.mono s, h2⟩
theorem DW.up (h : DW K H m W k xs) (h1 : m ≤ m2) (h2 : W ≤ W2) (h3 : k ≤ k2) : DW K H m2 W2 k2 xs := by
  obtain ⟨ds, q1, q2, q3, q4⟩ := h
  exact ⟨ds, q1, by omega, fun d hd => (q3 d hd).up h3, by omega⟩
theorem DW.nil : DW K H 0 0 k [] := ⟨[], .nil, Nat.le_refl _, fun d hd => (List.not_mem_nil hd).elim, Nat.le_refl _⟩
theorem DW.one {v : V} {d : PyData} {n : Nat} (h : Dq K H v d) (w : Shq n k d) : DW K H 1 (n + 2) k [v] :=
  ⟨[d], .cons h .nil, by rw [Wt.cons, Wt.nil]; have := w.sz; omega, fun e he => by rw [List.mem_singleton.mp he]; exact w.d, Nat.le_refl _⟩
theorem DW.app (h : DW K H m W k xs) (h2 : DW K H m2 W2 k ys) : DW K H (m + m2) (W + W2) k (xs ++ ys) := by
  obtain ⟨ds, q1, q2, q3, q4⟩ := h
  obtain ⟨es, r1, r2, r3, r4⟩ := h2
  exact ⟨ds ++ es, q1.app r1, by rw [Wt.app]; omega, fun d hd => (List.mem_append.mp hd).elim (q3 d) (r3 d), by rw [List.length_append]; omega⟩
theorem DW.rev (h : DW K H m W k xs) : DW K H m W k xs.reverse := by
  obtain ⟨ds, q1, q2, q3, q4⟩ := h
  exact ⟨ds.reverse, q1.rev, by rw [Wt.rev]; exact q2, fun d hd => q3 d (List.mem_reverse.mp hd), by rw [List.length_reverse]; exact q4⟩
theorem DW.cut {lo hi : Option Int} (h : DW K H m W k xs) : DW K H m W k (cutV xs lo hi) := by
  obtain ⟨ds, q1, q2, q3, q4⟩ := h
  unfold cutV
  refine ⟨_, (q1.drop _).take _, Nat.le_trans (Wt.take _ _) (Nat.le_trans (Wt.drop _ _) q2), fun d hd => q3 d (List.mem_of_mem_drop (List.mem_of_mem_take hd)), ?_⟩
  rw [List.length_take, List.length_drop]
  omega
theorem DW.at {i : Nat} {x : V} (h : DW K H m W k xs) (e : xs[i]? = some x) : ∃ d, Dq K H x d ∧ Shq W k d := by
  obtain ⟨ds, q1, q2, q3, q4⟩ := h
  obtain ⟨d, hd, r⟩ := q1.at e
  have hm := List.mem_of_getElem? hd
  refine ⟨d, r, (q3 d hm).sh, (q3 d hm).dp, ?_⟩
  have : ∀ es : List PyData, d ∈ es → d.shown.length ≤ Wt es := by
    intro es he
    induction es with
    | nil => cases he
    | cons e r ih =>
      rw [Wt.cons]
      rcases List.mem_cons.mp he with z | z
      · rw [z]; omega
      · have := ih z; omega
  exact Nat.le_trans (this ds hm) q2
theorem DW.lst {p : Addr} (h : DW K H m W k xs) (hp : SqL K H p xs) : ∃ d, Dq K H (.ref p) d ∧ Shq (W + 2) (k + 1) d := by
  obtain ⟨ds, q1, q2, q3, q4⟩ := h
  exact ⟨_, .lst hp q1, (Shd.lst q3).up (by omega) (Nat.le_refl _)⟩
theorem DW.tup {p : Addr} (h : DW K H m W k xs) (hp : SqT K H p xs) : ∃ d, Dq K H (.ref p) d ∧ Shq (W + 2) (k + 1) d := by
  obtain ⟨ds, q1, q2, q3, q4⟩ := h
  exact ⟨_, .tup hp q1, (Shd.tup q3).up (by omega) (Nat.le_refl _)⟩
def isS : V → Bool
  | .str _ => true
  | _ => false
theorem Dq.isStr {v : V} {d : PyData} {Q : VK} (h : Dq K H v d) (q : Q (.bl (isS v)) H) : rIs K [v, .ty "str"] H Q := by
  cases h with
  | non => exact x_isN_str.mpr q
  | bl b => exact x_isB_str.mpr q
  | int i => exact x_isI_str.mpr q
  | str s => exact x_is_ib.mpr q
  | lst h _ => exact x_isR.mpr (IsK.lstL h (show kitB _ "str" = some false by decide +kernel) q)
  | tup h _ =>
    rcases h with (h | ⟨o, h⟩) | ⟨o, its, n, h, hc, _⟩
    · exact x_isR.mpr ⟨_, _, .base (.tup h), (show kitB _ "str" = some false by decide +kernel), q⟩
    · exact x_isR.mpr ⟨_, _, .fTuple h, (show kitB _ "str" = some false by decide +kernel), q⟩
    · exact x_isR.mpr ⟨_, _, .kTuple h hc, (show kitB _ "str" = some false by decide +kernel), q⟩
  | dct h _ _ => exact x_isR.mpr (IsK.dK h (show kitB _ "str" = some false by decide +kernel) q)
end
/-! ### dict(pairs), str(n), int(flag) -/
def DctK (K : PySem.W.Frag) (a : Addr) (H : Hp) (G : Addr → Hp → Prop) : Prop := ∃ ps kvs, SqL K H a (List.map V.ref ps) ∧ Paired (fun p (kv : Key × V) => SqT K H p [kV kv.1, kv.2]) ps kvs ∧ NewK (.dK (mergeK [] kvs)) H G
def rDctP (K : PySem.W.Frag) : List V → Hp → VK → Prop := fun xs H Q => ∃ a, xs = [.ref a] ∧ DctK K a H fun p H1 => Q (.ref p) H1
theorem cr_dctP {X : Cx} (hc : X.calm = true) : CallR X (.type "dict") (rDctP X.K) := CallR.as (call_dictP hc) fun _ _ _ ⟨a, e, ps, kvs, h1, h2, q⟩ => ⟨a, ps, kvs, e, h1, h2, q⟩
def rStrI : List V → Hp → VK → Prop := fun xs H Q => ∃ i : Int, xs = [.int i] ∧ i.natAbs.log2 < 1920 ∧ Q (.str (Str.ofString (toString i))) H
theorem cr_strI {X : Cx} : CallR X (.type "str") rStrI := call_str_int
def rIntB : List V → Hp → VK → Prop := fun xs H Q => ∃ k, xs = [.bl k] ∧ Q (.int (if k = true then 1 else 0)) H
theorem cr_intB {X : Cx} : CallR X (.type "int") rIntB := CallR.as call_int1 fun _ _ _ h => Or.inr h
section
variable {K : PySem.W.Frag} {H : Hp} {Q : VK}
theorem x_dctP {a : Addr} : rDctP K [.ref a] H Q ↔ DctK K a H fun p H1 => Q (.ref p) H1 := ⟨fun ⟨_, e, q⟩ => by cases e; exact q, fun q => ⟨a, rfl, q⟩⟩
theorem x_strI {i : Int} : rStrI [.int i] H Q ↔ i.natAbs.log2 < 1920 ∧ Q (.str (Str.ofString (toString i))) H := ⟨fun ⟨_, e, h, q⟩ => by cases e; exact ⟨h, q⟩, fun ⟨h, q⟩ => ⟨i, rfl, h, q⟩⟩
theorem x_intB {k : Bool} : rIntB [.bl k] H Q ↔ Q (.int (if k = true then 1 else 0)) H := ⟨fun ⟨_, e, q⟩ => by cases e; exact q, fun q => ⟨k, rfl, q⟩⟩
end
def KinK (H : Hp) (a : Addr) (y : V) (G : Bool → Prop) : Prop := ∃ o, DGet H a y o ∧ G o.isSome
section
variable {H : Hp} {Q : VK} {σ : L2.St} {ty td : TE}
theorem e_din : tDIn ty td σ H Q ↔ ty σ H fun y H1 => td σ H1 fun x H2 => ∃ a, x = .ref a ∧ KinK H2 a y fun b => Q (.bl b) H2 := ⟨fun h => (iff_of_eq (congrArg (ty σ H) (funext fun y => funext fun H1 => congrArg (td σ H1) (funext fun x => funext fun H2 => propext ⟨fun ⟨a, o, e, d, q⟩ => ⟨a, e, o, d, q⟩, fun ⟨a, e, o, d, q⟩ => ⟨a, o, e, d, q⟩⟩)))).mp h, fun h => (iff_of_eq (congrArg (ty σ H) (funext fun y => funext fun H1 => congrArg (td σ H1) (funext fun x => funext fun H2 => propext ⟨fun ⟨a, o, e, d, q⟩ => ⟨a, e, o, d, q⟩, fun ⟨a, e, o, d, q⟩ => ⟨a, o, e, d, q⟩⟩)))).mpr h⟩
theorem e_dnin : tDNotIn ty td σ H Q ↔ ty σ H fun y H1 => td σ H1 fun x H2 => ∃ a, x = .ref a ∧ KinK H2 a y fun b => Q (.bl !b) H2 := ⟨fun h => (iff_of_eq (congrArg (ty σ H) (funext fun y => funext fun H1 => congrArg (td σ H1) (funext fun x => funext fun H2 => propext ⟨fun ⟨a, o, e, d, q⟩ => ⟨a, e, o, d, q⟩, fun ⟨a, e, o, d, q⟩ => ⟨a, o, e, d, q⟩⟩)))).mp h, fun h => (iff_of_eq (congrArg (ty σ H) (funext fun y => funext fun H1 => congrArg (td σ H1) (funext fun x => funext fun H2 => propext ⟨fun ⟨a, o, e, d, q⟩ => ⟨a, e, o, d, q⟩, fun ⟨a, e, o, d, q⟩ => ⟨a, o, e, d, q⟩⟩)))).mpr h⟩
end
theorem KinK.str {H : Hp} {a : Addr} {s : Str} {kvs : List (Key × V)} {G : Bool → Prop} (h : H a = some (.dK kvs)) (q : G (valV kvs (Sum.inr s)).isSome) : KinK H a (.str s) G := ⟨_, DGet.k (k := Sum.inr s) h, q⟩
end Vg


set_option Elab.async false
set_option linter.all false
set_option maxRecDepth 100000
set_option maxHeartbeats 2000000
namespace Vg
open PySem PySem.Spec PyProof.Rows L2

/-! ### dicts: d[k], d[k] = v, k in d -/
def DGetK (H : Hp) (a : Addr) (y : V) (G : V → Prop) : Prop := ∃ v, DGet H a y (some v) ∧ G v
def DPutK (H : Hp) (a : Addr) (y v : V) (G : Hp → Prop) : Prop := ∃ H4, DPut H a y v H4 ∧ G H4
/-- an entry of the ledger is replaced, wherever it stands -/
def putL (l : List (Addr × HO)) (p : Addr) (o : HO) : List (Addr × HO) := l.map fun e => if e.1 = p then (p, o) else e
section
variable {K : PySem.W.Frag} {B H : Hp} {l l' : List (Addr × HO)} {p : Addr} {o o' : HO} {σ : L2.St} {Q : VK} {D : Ends} {td ty tv tx : TE}
theorem e_dget : tDGet td ty σ H Q = td σ H fun x H1 => ty σ H1 fun y H2 => ∃ a, x = .ref a ∧ DGetK H2 a y fun v => Q v H2 :=
  congrArg (td σ H) (funext fun x => funext fun H1 => congrArg (ty σ H1) (funext fun y => funext fun H2 => propext ⟨fun ⟨a, v, e, h, q⟩ => ⟨a, e, v, h, q⟩, fun ⟨a, e, v, h, q⟩ => ⟨a, v, e, h, q⟩⟩))
theorem e_dget2 : tDGet2 td ty tx σ H Q = td σ H fun x H1 => ∃ a, x = .ref a ∧ IsD H1 a ∧ ty σ H1 fun y H2 => tx σ H2 fun z H3 => ∃ o, DGet H3 a y o ∧ Q (o.getD z) H3 := propext ⟨fun h => h, fun h => h⟩
theorem s_dput : sDPut td ty tv D σ H = tv σ H fun v H1 => td σ H1 fun x H2 => ty σ H2 fun y H3 => ∃ a, x = .ref a ∧ DPutK H3 a y v fun H4 => D.nx σ H4 :=
  congrArg (tv σ H) (funext fun v => funext fun H1 => congrArg (td σ H1) (funext fun x => funext fun H2 => congrArg (ty σ H2) (funext fun y => funext fun H3 => propext ⟨fun ⟨a, H4, e, h, q⟩ => ⟨a, e, H4, h, q⟩, fun ⟨a, e, H4, h, q⟩ => ⟨a, H4, e, h, q⟩⟩)))
theorem e_dnT : tDNewT σ H Q = NewK (.dT []) H fun p H2 => Q (.ref p) H2 := propext ⟨fun h => h, fun h => h⟩
theorem putL_not (h : p ∉ l.map (·.1)) : putL l p o = l := by
  induction l with
  | nil => rfl
  | cons e r ih =>
    rw [List.map_cons, List.mem_cons, not_or] at h
    show (if e.1 = p then (p, o) else e) :: putL r p o = _
    rw [ih h.2, if_neg fun z => h.1 z.symm]
theorem putL_app (a b : List (Addr × HO)) : putL (a ++ b) p o = putL a p o ++ putL b p o := List.map_append
theorem putL_cons (e : Addr × HO) (b : List (Addr × HO)) : putL (e :: b) p o = (if e.1 = p then (p, o) else e) :: putL b p o := rfl
theorem putL_put (nd : (l.map (·.1)).Nodup) (h : (p, o) ∈ l) : Put l p o' (putL l p o') := by
  induction l with
  | nil => cases h
  | cons e r ih =>
    rw [List.map_cons] at nd
    obtain ⟨n1, n2⟩ := List.nodup_cons.mp nd
    rw [putL_cons]
    rcases List.mem_cons.mp h with z | z
    · rw [← z]
      dsimp only
      rw [if_pos rfl, putL_not (by rw [← z] at n1; exact n1)]
      exact .hd
    · rw [if_neg fun c => n1 (by rw [c]; exact List.mem_map_of_mem (f := (·.1)) z)]
      exact .tl (ih n2 z)
theorem putL_same (nd : (l.map (·.1)).Nodup) (h : (p, o) ∈ l) : putL l p o = l := by
  induction l with
  | nil => rfl
  | cons e r ih =>
    rw [List.map_cons] at nd
    obtain ⟨n1, n2⟩ := List.nodup_cons.mp nd
    rw [putL_cons]
    rcases List.mem_cons.mp h with z | z
    · rw [← z]
      dsimp only
      rw [if_pos rfl, putL_not (by rw [← z] at n1; exact n1)]
    · rw [if_neg fun c => n1 (by rw [c]; exact List.mem_map_of_mem (f := (·.1)) z), ih n2 z]
theorem Led.putL (L : Led B H l) (h : (p, o) ∈ l) : Led B (upd H p o') (putL l p o') := L.put (putL_put L.nd h)
theorem StK.ofM {C dx : Addr} {fs fs' : List (Str × V)} {f : Str} {v : V} {G : Hp → Prop} (L : Led B H l) (m : (p, HO.ins C dx fs) ∈ l) (c : Cls K C) (n : NoAttr K C f) (e : putF f v fs = fs') (k : ∀ H1, Led B H1 (Vg.putL l p (.ins C dx fs')) → G H1) (h : fs.length < 1000 := by first | decide | (simp only [List.length_cons, List.length_nil]; decide) | omega) : StK K p f v H G :=
  ⟨C, dx, fs, L.at m, c, n, h, by rw [e]; exact k _ (L.putL m)⟩
theorem DGetK.k {k : Key} {v : V} {kvs : List (Key × V)} {G : V → Prop} (L : Led B H l) (m : (p, HO.dK kvs) ∈ l) (e : valV kvs k = some v) (q : G v) : DGetK H p (kV k) G := ⟨v, by rw [← e]; exact DGet.k (L.at m), q⟩
theorem DGetK.s {k : Str} {v : V} {kvs : List (Key × V)} {G : V → Prop} (L : Led B H l) (m : (p, HO.dK kvs) ∈ l) (e : valV kvs (.inr k) = some v) (q : G v) : DGetK H p (.str k) G := DGetK.k (k := .inr k) L m e q
theorem DGetK.t {b : Addr} {k : List Key} {v : V} {kvs : List (List Key × V)} {G : V → Prop} (L : Led B H l) (m : (p, HO.dT kvs) ∈ l) (hb : H b = some (.tup (k.map kV))) (e : valV kvs k = some v) (q : G v) : DGetK H p (.ref b) G := ⟨v, by rw [← e]; exact DGet.t (L.at m) hb, q⟩
theorem DPutK.k {k : Key} {v : V} {kvs : List (Key × V)} {G : Hp → Prop} (L : Led B H l) (m : (p, HO.dK kvs) ∈ l) (hl : kvs.length < sizeLine) (t : Put l p (.dK (putK kvs k v)) l') (q : ∀ H1, Led B H1 l' → G H1) : DPutK H p (kV k) v G := ⟨_, DPut.k (L.at m) hl, q _ (L.put t)⟩
theorem DPutK.t {b : Addr} {k : List Key} {v : V} {kvs : List (List Key × V)} {G : Hp → Prop} (L : Led B H l) (m : (p, HO.dT kvs) ∈ l) (hb : H b = some (.tup (k.map kV))) (hl : kvs.length < sizeLine) (t : Put l p (.dT (putK kvs k v)) l') (q : ∀ H1, Led B H1 l' → G H1) : DPutK H p (.ref b) v G := ⟨_, DPut.t (L.at m) hb hl, q _ (L.put t)⟩
theorem KinK.t {b : Addr} {k : List Key} {kvs : List (List Key × V)} {G : Bool → Prop} (L : Led B H l) (m : (p, HO.dT kvs) ∈ l) (hb : H b = some (.tup (k.map kV))) (q : G (valV kvs k).isSome) : KinK H p (.ref b) G := ⟨_, DGet.t (L.at m) hb, q⟩
/-- an entry of the ledger goes to the base -/
theorem Led.sinkM (L : Led B H l) (h : Pick l (p, o) l') : ∃ B', Same B B' ∧ B' p = some o ∧ Led B' H l' := (L.sel (.cons h .all)).sink
end
/-! ### a display of pairs -/
def DoneK (p : Addr) (ps : List (V × V)) (H : Hp) (G : Hp → Prop) : Prop := H p = some (.dK []) ∧ ∃ kvs : List (Key × V), ps = kvs.map (fun kv => (kV kv.1, kv.2)) ∧ kvs.length ≤ 15 ∧ G (upd H p (.dK (mergeK [] kvs)))
section
variable {B H : Hp} {l l' : List (Addr × HO)} {p : Addr} {σ : L2.St} {Q : VK} {trs : List (TE × TE)} {PQ : List (V × V) → Hp → Prop} {tk tv : TE}
theorem e_disp : tDisp trs σ H Q = NewK (.dK []) H fun p H1 => tPairs trs σ H1 fun ps H2 => DoneK p ps H2 fun H3 => Q (.ref p) H3 := propext ⟨fun h => h, fun h => h⟩
theorem tp_nil : tPairs [] σ H PQ = PQ [] H := propext ⟨fun h => h, fun h => h⟩
theorem tp_cons : tPairs ((tk, tv) :: trs) σ H PQ = tk σ H fun x H1 => tv σ H1 fun y H2 => tPairs trs σ H2 fun ps H3 => PQ ((x, y) :: ps) H3 := propext ⟨fun h => h, fun h => h⟩
theorem DoneK.of {ps : List (V × V)} {G : Hp → Prop} (kvs : List (Key × V)) (L : Led B H l) (m : (p, HO.dK []) ∈ l) (e : ps = kvs.map (fun kv => (kV kv.1, kv.2))) (h15 : kvs.length ≤ 15) (t : Put l p (.dK (mergeK [] kvs)) l') (k : ∀ H1, Led B H1 l' → G H1) : DoneK p ps H G :=
  ⟨L.at m, kvs, e, h15, k _ (L.put t)⟩
theorem Led.perm (L : Led B H l) (h : l.Perm l') : Led B H l' := ⟨L.sm, (h.map (·.1)).nodup_iff.mp L.nd, fun e he => L.fr e (h.mem_iff.mpr he), fun e he => L.hs e (h.mem_iff.mpr he)⟩
end
/-! ### sorted of pairs of ints -/
def SrtPK (K : PySem.W.Frag) (a : Addr) (H : Hp) (G : Addr → Hp → Prop) : Prop := ∃ xs, SqL K H a xs ∧ (∀ x ∈ xs, ∃ t i j, x = V.ref t ∧ H t = some (.tup [.int i, .int j])) ∧ ∀ ys : List V, ys.Perm xs → NewK (.lst ys) H G
theorem x_sortedP {K : PySem.W.Frag} {a : Addr} {H : Hp} {Q : VK} : rSortedP K [.ref a] H Q ↔ SrtPK K a H fun p H1 => Q (.ref p) H1 :=
  ⟨fun ⟨_, xs, e, h1, h2, q⟩ => by cases e; exact ⟨xs, h1, h2, fun ys hp p hn => q ys p hp hn⟩, fun ⟨xs, h1, h2, q⟩ => ⟨a, xs, rfl, h1, h2, fun ys p hp hn => q ys hp p hn⟩⟩
/-! ### zip in a comprehension -/
section
variable {K : PySem.W.Frag} {g : TG} {D : Ends} {σ : L2.St} {H : Hp} {a b : Addr} {xs ys : List V} {tt : TT} {te : TE} {vs : List Nat} {Q : VK}
theorem i_zip {al : TA} {R : It → Hp → Prop} : iZip K al σ H R = al σ H fun vs H1 => ∃ a b xs ys, vs = [.ref a, .ref b] ∧ SqL K H1 a xs ∧ SqL K H1 b ys ∧ R (Itz K a b) H1 := propext ⟨fun h => h, fun h => h⟩
theorem comp_zip (hl : xs.length = ys.length) (R : Nat → Addr → List V → Hp → Prop) (h0 : ∀ p, H p = none → R 0 p [] (upd H p (.lst []))) (hq : ∀ i p acc H', R i p acc H' → SqL K H' a xs ∧ SqL K H' b ys)
    (hn : ∀ p acc H', R xs.length p acc H' → Q (.ref p) H')
    (hs : ∀ i p acc H' x y (N : Hp → Prop), xs[i]? = some x → ys[i]? = some y → R i p acc H' → (∀ acc H3, R (i + 1) p acc H3 → N H3) → NewK (.tup [x, y]) H' fun t H2 => TurnK g tt te vs σ p N (.ref t) H2) : LcK (Itz K a b) g tt te vs σ H Q := by
  refine comp_gen xs.length R h0 (fun p acc H' r => ⟨?_, hn p acc H' r⟩) fun i p acc H' hi r => ?_
  · obtain ⟨q1, q2⟩ := hq _ _ _ _ r
    exact ⟨xs, ys, q1, q2, Or.inl (Nat.le_refl _)⟩
  · obtain ⟨q1, q2⟩ := hq _ _ _ _ r
    have hi2 : i < ys.length := by omega
    refine ⟨⟨xs, ys, _, _, q1, q2, List.getElem?_eq_getElem hi, List.getElem?_eq_getElem hi2⟩, ?_⟩
    rintro v H2 ⟨T, x, y, rfl, hT, rfl, f1, f2⟩
    exact hs i p acc _ x y _ (f1 xs q1) (f2 ys q2) r (fun acc H3 z => ⟨acc, z⟩) T hT
end
end Vg


set_option Elab.async false
set_option linter.all false
set_option maxRecDepth 100000
set_option maxHeartbeats 2000000
namespace Vg
open PySem PySem.Spec PyProof.Rows L2

/-! ### texts: join, split, isdigit, isascii, int, s[i], s * n -/
def rJoinS (K : PySem.W.Frag) : V → List V → Hp → VK → Prop := fun x xs H Q => ∃ a p, ∃ ys : List Str, x = .str a ∧ xs = [.ref p] ∧ (SqL K H p (ys.map V.str) ∨ SqT K H p (ys.map V.str)) ∧ (ys.map (·.length)).sum + ys.length * a.length ≤ 16777216 ∧ Q (.str (Txt.join a ys)) H
def JoinK (K : PySem.W.Frag) (a : Str) (p : Addr) (H : Hp) (G : Str → Prop) : Prop := ∃ ys : List Str, (SqL K H p (ys.map V.str) ∨ SqT K H p (ys.map V.str)) ∧ (ys.map (·.length)).sum + ys.length * a.length ≤ 16777216 ∧ G (Txt.join a ys)
def rSplitS : V → List V → Hp → VK → Prop := fun x xs H Q => ∃ a b, x = .str a ∧ xs = [.str b] ∧ (b.length == 0) = false ∧ a.length + 2 ≤ sizeLine ∧ rNewStrs (Txt.split a b) H Q
def SplitK (a b : Str) (H : Hp) (G : Addr → Hp → Prop) : Prop := (b.length == 0) = false ∧ a.length + 2 ≤ sizeLine ∧ NewK (.lst ((Txt.split a b).map V.str)) H G
def rAsciiS : V → List V → Hp → VK → Prop := fun x xs H Q => ∃ a, x = .str a ∧ xs = [] ∧ True ∧ Q (.bl (Txt.isascii a)) H
def rDigitS : V → List V → Hp → VK → Prop := fun x xs H Q => ∃ a, x = .str a ∧ xs = [] ∧ True ∧ Q (.bl (Txt.isdigit a)) H
def rIntS : List V → Hp → VK → Prop := fun xs H Q => ∃ a n, xs = [.str a] ∧ PySem.intText? a = some n ∧ a.length ≤ 640 ∧ Q (.int n) H
def IntSK (a : Str) (G : Int → Prop) : Prop := ∃ n, PySem.intText? a = some n ∧ a.length ≤ 640 ∧ G n
def rLenS : List V → Hp → VK → Prop := fun xs H Q => ∃ z : Str, xs = [.str z] ∧ z.length ≤ sizeLine ∧ Q (.int z.length) H
def rMulS : R2 := fun x y H Q => ∃ a n, x = .str a ∧ y = .int n ∧ MulOk a n ∧ Q (.str (Txt.mul a n)) H
def IxSK (z : Str) (i : Int) (G : V → Prop) : Prop := z.length ≤ sizeLine ∧ ∃ c, atI z.cps.toList i = some c ∧ G (.str ⟨#[c]⟩)
section
variable {X : Cx} {K : PySem.W.Frag} {H : Hp} {Q : VK} {a b : Str} {p : Addr} {i : Int}
theorem mt_joinS : MtR X "str.join" (rJoinS X.K) := mt_join
theorem mt_splitS : MtR X "str.split" rSplitS := mt_split
theorem mt_asciiS : MtR X "str.isascii" rAsciiS := mt_isascii
theorem mt_digitS : MtR X "str.isdigit" rDigitS := mt_isdigit
theorem cr_intS : CallR X (.type "int") rIntS := call_int_str
theorem cr_lenS : CallR X (.builtin "len") rLenS := call_len_str
theorem op_mulS : OpR X (binaryOp .Mult) rMulS := by
  intro pins s σ H x y v u Q I rx ry h
  obtain ⟨a, n, rfl, rfl, hok, q⟩ := h
  obtain ⟨t, rfl⟩ := rx
  obtain ⟨t', rfl⟩ := ry
  exact SB.mul hok fun t2 k => ⟨.str (Txt.mul a n), H, I.tok _, ⟨t2, rfl⟩, q⟩
theorem x_joinS : rJoinS K (.str a) [.ref p] H Q ↔ JoinK K a p H fun t => Q (.str t) H := ⟨fun ⟨_, _, ys, e1, e2, h1, h2, q⟩ => by cases e1; cases e2; exact ⟨ys, h1, h2, q⟩, fun ⟨ys, h1, h2, q⟩ => ⟨a, p, ys, rfl, rfl, h1, h2, q⟩⟩
theorem x_splitS : rSplitS (.str a) [.str b] H Q ↔ SplitK a b H fun p H1 => Q (.ref p) H1 := ⟨fun ⟨_, _, e1, e2, h1, h2, q⟩ => by cases e1; cases e2; exact ⟨h1, h2, q⟩, fun ⟨h1, h2, q⟩ => ⟨a, b, rfl, rfl, h1, h2, q⟩⟩
theorem x_asciiS : rAsciiS (.str a) [] H Q ↔ Q (.bl (Txt.isascii a)) H := ⟨fun ⟨_, e, _, _, q⟩ => by cases e; exact q, fun q => ⟨a, rfl, rfl, trivial, q⟩⟩
theorem x_digitS : rDigitS (.str a) [] H Q ↔ Q (.bl (Txt.isdigit a)) H := ⟨fun ⟨_, e, _, _, q⟩ => by cases e; exact q, fun q => ⟨a, rfl, rfl, trivial, q⟩⟩
theorem x_intS : rIntS [.str a] H Q ↔ IntSK a fun n => Q (.int n) H := ⟨fun ⟨_, n, e, h1, h2, q⟩ => by cases e; exact ⟨n, h1, h2, q⟩, fun ⟨n, h1, h2, q⟩ => ⟨a, n, rfl, h1, h2, q⟩⟩
theorem x_lenS : rLenS [.str a] H Q ↔ a.length ≤ sizeLine ∧ Q (.int a.length) H := ⟨fun ⟨_, e, h, q⟩ => by cases e; exact ⟨h, q⟩, fun ⟨h, q⟩ => ⟨a, rfl, h, q⟩⟩
theorem x_mulS : rMulS (.str a) (.int i) H Q ↔ MulOk a i ∧ Q (.str (Txt.mul a i)) H := ⟨fun ⟨_, _, e1, e2, h, q⟩ => by cases e1; cases e2; exact ⟨h, q⟩, fun ⟨h, q⟩ => ⟨a, i, rfl, rfl, h, q⟩⟩
theorem x_ixS : rIxS (.str a) (.int i) H Q ↔ IxSK a i fun v => Q v H := ⟨fun ⟨_, _, c, e1, e2, h1, h2, q⟩ => by cases e1; cases e2; exact ⟨h1, c, h2, q⟩, fun ⟨h1, c, h2, q⟩ => ⟨a, i, c, rfl, rfl, h1, h2, q⟩⟩
theorem ty_S : tyV K "str" (.str a) H ↔ True := iff_true_intro rfl
end
/-! ### numbers as texts -/
def nT (n : Nat) : Str := Str.ofString (toString (n : Int))
def txt (sep : Str) (ms : List Nat) : Str := Txt.join sep (ms.map nT)
theorem nT_tl (n : Nat) : TL.tl (nT n) = TL.numL n := TL.tl_num n
theorem nT_len {n k : Nat} (hk : 0 < k) (h : n < 10 ^ k) : (nT n).length ≤ k := by
  rw [TL.len_tl, nT_tl]
  exact TL.numL_len hk h
theorem nT_int {n : Nat} (h : n < 10 ^ 600) : intText? (nT n) = some (n : Int) := TL.int_num (Nat.le_trans (TL.numL_len (by decide) h) (by decide))
theorem nT_digits (n : Nat) : ∀ c ∈ TL.tl (nT n), 48 ≤ c ∧ c ≤ 57 := fun c hc => by
  rw [nT_tl] at hc
  exact TL.numL_digits n c hc
theorem nT_ne (n : Nat) : TL.tl (nT n) ≠ [] := by rw [nT_tl]; exact TL.numL_ne n
/-- the first sign is 0 only in 0 itself -/
theorem nT_head (n : Nat) : (TL.numL n).head? = some 48 → n = 0 := by
  induction n using Nat.strongRecOn with
  | _ n ih =>
    intro h
    by_cases c : n < 10
    · rw [TL.numL_lt c] at h
      simp only [List.head?_cons, Option.some.injEq] at h
      omega
    · rw [TL.numL_step (by omega)] at h
      have hne := TL.numL_ne (n / 10)
      cases hq : TL.numL (n / 10) with
      | nil => exact absurd hq hne
      | cons d r =>
        rw [hq] at h
        have : n / 10 = 0 := ih (n / 10) (by omega) (by rw [hq]; exact h)
        omega
theorem isdigit_nT (n : Nat) : Txt.isdigit (nT n) = true := by
  unfold Txt.isdigit
  rw [Bool.and_eq_true]
  constructor
  · rw [decide_eq_true_eq]
    have := nT_ne n
    rw [TL.len_tl]
    exact List.length_pos_iff.mpr this
  · rw [← Array.all_toList, List.all_eq_true]
    intro c hc
    have h := nT_digits n c hc
    have : ∀ c, 48 ≤ c → c ≤ 57 → Unicode.isDigit c = true := by
      intro c h1 h2
      obtain rfl | rfl | rfl | rfl | rfl | rfl | rfl | rfl | rfl | rfl : c = 48 ∨ c = 49 ∨ c = 50 ∨ c = 51 ∨ c = 52 ∨ c = 53 ∨ c = 54 ∨ c = 55 ∨ c = 56 ∨ c = 57 := by omega
      all_goals decide +kernel
    exact this c h.1 h.2
theorem isascii_nT (n : Nat) : Txt.isascii (nT n) = true := by
  unfold Txt.isascii
  rw [← Array.all_toList, List.all_eq_true]
  intro c hc
  have h := nT_digits n c hc
  exact decide_eq_true (by omega)
theorem txt_split {sep : Str} {s : Nat} (es : TL.tl sep = [s]) (hs : s < 48) (hk : sep.cps.all (· < 256) = true) {ms : List Nat} (hne : ms ≠ []) : Txt.split (txt sep ms) sep = ms.map nT :=
  TL.split_join es hk (fun e => hne (List.map_eq_nil_iff.mp e)) fun p hp => by
    obtain ⟨n, _, rfl⟩ := List.mem_map.mp hp
    exact fun z => by have := nT_digits n s z; omega
theorem joinL_mem {y : List Nat} {c : Nat} : ∀ {parts : List (List Nat)}, c ∈ TL.joinL y parts → c ∈ y ∨ ∃ p ∈ parts, c ∈ p
  | [], h => by cases h
  | [p], h => Or.inr ⟨p, List.mem_singleton.mpr rfl, h⟩
  | p :: q :: r, h => by
    rcases List.mem_append.mp (show c ∈ p ++ (y ++ TL.joinL y (q :: r)) from h) with z | z
    · exact Or.inr ⟨p, List.mem_cons_self, z⟩
    · rcases List.mem_append.mp z with z | z
      · exact Or.inl z
      · rcases joinL_mem z with z | ⟨p2, h1, h2⟩
        · exact Or.inl z
        · exact Or.inr ⟨p2, List.mem_cons_of_mem _ h1, h2⟩
theorem joinL_len {y : List Nat} {k : Nat} : ∀ {parts : List (List Nat)}, (∀ p ∈ parts, p.length ≤ k) → (TL.joinL y parts).length ≤ parts.length * (k + y.length)
  | [], _ => Nat.zero_le _
  | [p], h => by
    have := h p (List.mem_singleton.mpr rfl)
    show p.length ≤ 1 * _
    omega
  | p :: q :: r, h => by
    have h1 := h p List.mem_cons_self
    have ih := joinL_len (y := y) (parts := q :: r) fun z hz => h z (List.mem_cons_of_mem _ hz)
    show (p ++ (y ++ TL.joinL y (q :: r))).length ≤ ((q :: r).length + 1) * _
    rw [List.length_append, List.length_append, Nat.succ_mul]
    omega
theorem txt_tl (sep : Str) (ms : List Nat) : TL.tl (txt sep ms) = TL.joinL (TL.tl sep) (ms.map fun n => TL.numL n) := by
  unfold txt
  rw [TL.join_eq, TL.tl_join, List.map_map]
  congr 1
  exact List.map_congr_left fun n _ => nT_tl n
theorem txt_len {sep : Str} {ms : List Nat} {k : Nat} (hk : 0 < k) (h : ∀ m ∈ ms, m < 10 ^ k) : (txt sep ms).length ≤ ms.length * (k + sep.length) := by
  rw [TL.len_tl, txt_tl, TL.len_tl sep]
  have := joinL_len (y := TL.tl sep) (k := k) (parts := ms.map fun n => TL.numL n) fun p hp => by
    obtain ⟨n, hn, rfl⟩ := List.mem_map.mp hp
    exact TL.numL_len hk (h n hn)
  rw [List.length_map] at this
  exact this
theorem txt_cps {sep : Str} {ms : List Nat} (hs : ∀ c ∈ TL.tl sep, c < 16 ^ 8) : ∀ c ∈ (txt sep ms).cps.toList, c < 16 ^ 8 := fun c hc => by
  have hc : c ∈ TL.tl (txt sep ms) := hc
  rw [txt_tl] at hc
  rcases joinL_mem hc with z | ⟨p, hp, z⟩
  · exact hs c z
  · obtain ⟨n, _, rfl⟩ := List.mem_map.mp hp
    have := TL.numL_digits n c z
    have e : (16 : Nat) ^ 8 = 4294967296 := by decide
    omega
end Vg


set_option Elab.async false
set_option linter.all false
set_option maxRecDepth 100000
set_option maxHeartbeats 2000000
namespace Vg
open PySem PySem.Spec PyProof.Rows L2

theorem Led.subl {B H : Hp} {l l' : List (Addr × HO)} (L : Led B H l) (h : l'.Sublist l) : Led B H l' := ⟨L.sm, L.nd.sublist (h.map _), fun e he => L.fr e (h.subset he), fun e he => L.hs e (h.subset he)⟩
/-! ### a program's def by the plain promise; a law's def that calls it -/
theorem Fg.of {P : Program} {w : World} {K : PySem.W.Frag} {mg : Str → Option Value} {bs : Heap} {C : CXT} {n : Nat} {f : Addr} {fd : FuncData} {ps : List Str} {sp : Sp} (F : FnOk P w K mg bs C n f fd ps sp) : Fg P w K mg bs C n f fd ps sp :=
  ⟨F.len, fun A fr s H gs us vs Q E _ r e b v q => F.run A fr s H gs us vs Q E r e b v q⟩
section
variable {σ : L2.St} {H : Hp} {Q : VK} {sp : Sp} {dvs : List V} {E : XK} {t : TA} {ta : TE} {C : Addr} {m : Str}
theorem e_call : tCall sp dvs E t σ H Q = t σ H fun vs H1 => sp (vs ++ dvs) H1 Q E := propext ⟨fun h => h, fun h => h⟩
theorem e_meth : tMeth C m sp dvs E ta t σ H Q ↔ ta σ H fun x H1 => ∃ a, x = .ref a ∧ MtK a C m H1 (t σ H1 fun vs H2 => sp (x :: (vs ++ dvs)) H2 Q E) :=
  Iff.of_eq (congrArg (ta σ H) (funext fun x => funext fun H1 => propext ⟨fun ⟨a, dx, fs, e, r1, r2, r3⟩ => ⟨a, e, dx, fs, r1, r2, r3⟩, fun ⟨a, e, dx, fs, r1, r2, r3⟩ => ⟨a, dx, fs, e, r1, r2, r3⟩⟩))
theorem e_methR : tMethR C m sp E ta t σ H Q ↔ ta σ H fun x H1 => ∃ a, x = .ref a ∧ MtK a C m H1 (t σ H1 fun vs H2 => sp (x :: vs) H2 Q E) :=
  Iff.of_eq (congrArg (ta σ H) (funext fun x => funext fun H1 => propext ⟨fun ⟨a, dx, fs, e, r1, r2, r3⟩ => ⟨a, e, dx, fs, r1, r2, r3⟩, fun ⟨a, e, dx, fs, r1, r2, r3⟩ => ⟨a, dx, fs, e, r1, r2, r3⟩⟩))
theorem e_make : tMake C sp dvs E t σ H Q = t σ H fun vs H1 => MkK C H1 fun x H2 => sp (.ref x :: (vs ++ dvs)) H2 (fun v H3 => v = .non ∧ Q (.ref x) H3) E := propext ⟨fun h => h, fun h => h⟩
/-- o.f, a property -/
def PropK (a C : Addr) (H : Hp) (G : Prop) : Prop := ∃ dx fs, H a = some (.ins C dx fs) ∧ G
theorem e_prop : tProp C sp dvs E ta σ H Q ↔ ta σ H fun x H1 => ∃ a, x = .ref a ∧ PropK a C H1 (sp (.ref a :: dvs) H1 Q E) :=
  Iff.of_eq (congrArg (ta σ H) (funext fun x => funext fun H1 => propext ⟨fun ⟨a, dx, fs, e, r1, r2⟩ => ⟨a, e, dx, fs, r1, r2⟩, fun ⟨a, e, dx, fs, r1, r2⟩ => ⟨a, dx, fs, e, r1, r2⟩⟩))
theorem PropK.of {B : Hp} {l : List (Addr × HO)} {a dx : Addr} {fs : List (Str × V)} {G : Prop} (L : Led B H l) (h : (a, HO.ins C dx fs) ∈ l) (k : G) : PropK a C H G := ⟨dx, fs, L.at h, k⟩
end
/-- a def with *args, called: the first n are named, what is left over is a new tuple -/
def starSp (n : Nat) (sp : Sp) : Sp := fun vs H Q E => ∃ ws rest, vs = ws ++ rest ∧ ws.length = n ∧ rest.length ≤ sizeLine ∧ ∀ p, H p = none → sp (ws ++ [V.ref p]) (upd H p (.tup rest)) Q E
theorem starSp.of {n : Nat} {sp : Sp} {H : Hp} {Q : VK} {E : XK} (ws rest : List V) (h1 : ws.length = n) (h2 : rest.length ≤ sizeLine) (h : NewK (.tup rest) H fun p H1 => sp (ws ++ [V.ref p]) H1 Q E) : starSp n sp (ws ++ rest) H Q E := ⟨ws, rest, rfl, h1, h2, h⟩
theorem nox_of {X : Cx} {b : List Stmt} {D : Ends} {σ : L2.St} {H : Hp} (h : ∃ t, PSs X.nox b t ∧ t D σ H) : ∃ t, PSs X b t ∧ t D σ H := by
  obtain ⟨t, h1, h2⟩ := h
  exact ⟨t, h1.nox, h2⟩
/-- list(x) -/
def ListOfK (K : PySem.W.Frag) (p : Addr) (H : Hp) (G : Addr → Hp → Prop) : Prop := ∃ xs, (SqL K H p xs ∨ SqT K H p xs) ∧ NewK (.lst xs) H G
def rListOf (K : PySem.W.Frag) : List V → Hp → VK → Prop := fun xs H Q => ∃ p, xs = [.ref p] ∧ ListOfK K p H fun l H1 => Q (.ref l) H1
theorem cr_listOf {X : Cx} : CallR X (.type "list") (rListOf X.K) := CallR.as call_list_of fun _ _ _ ⟨p, e, ys, h, q⟩ => ⟨p, ys, e, h, q⟩
theorem x_listOf {K : PySem.W.Frag} {p : Addr} {H : Hp} {Q : VK} : rListOf K [.ref p] H Q ↔ ListOfK K p H fun l H1 => Q (.ref l) H1 := ⟨fun ⟨_, e, q⟩ => by cases e; exact q, fun q => ⟨p, rfl, q⟩⟩
/-! ### len(o), o of an own class with __len__ -/
def rLenO (C : Addr) (sp : Sp) : List V → Hp → VK → Prop := fun xs H Q => ∃ a, xs = [.ref a] ∧ PropK a C H (sp [.ref a] H (fun v H' => ∃ n : Nat, v = .int (n : Int) ∧ n < 2 ^ 62 ∧ Q (.int (n : Int)) H') E0)
theorem cr_lenO {X : Cx} {k : Nat} {C f : Addr} {fd : FuncData} {sp : Sp} (F : FnOk X.prog X.w X.K X.mg X.base CX0 k f fd ["self"] sp) (hr : Room (k + 1) X.A) (hb : Binds X.K fd ["self"] [])
    (hf : PySem.W.findIn X.K (.ref C) "__len__" = some (some (.ref f))) (ht : PySem.W.typeIn X.K (.ref f) = some (.type "function")) : CallR X (.builtin "len") (rLenO C sp) := by
  intro pins s σ H xs us Q I rv h
  obtain ⟨a, rfl, dx, fs, ha, hsp⟩ := h
  obtain ⟨u, rfl, ru⟩ := vals1 rv
  obtain rfl : u = Value.ref a := ru
  obtain ⟨mA, O, _⟩ := ins_get I.hok ha
  obtain ⟨od, J, _⟩ := O.look
  have sp1 : PySem.W.Looks (model X.prog X.w) s.heap (specialOf (.ref a) "__len__") (some (.ref f)) := J.type.andThen (PySem.W.looks_findIn I.kIn hf)
  refine Calls.call_function_entry kind_len plain_len entry_len (args_len1 _) ?_
  unfold Builtin.«len»
  refine wpAny_bind (m := oneArg "len" _) (wpAny_pure ?_)
  refine wpAny_bind (m := callSpecial? (.ref a) (PySem.Str.ofString "__len__")) ?_
  unfold callSpecial?
  refine wpAny_bind (sp1.here ?_)
  refine wpAny_holding (wpAny_bind ((PySem.W.bind_fn I.kIn (.ref a) ht).here (wpAny_bind ?_)))
  have hl : [Value.ref a].length = (["self"] : List Str).length := rfl
  have e1 := I.env0.in1
  refine wpAny_call (codeAny_mono (F.run X.A.in1 X.stack s H ⟨[.ref a], []⟩ [.ref a] [.ref a] _ E0 hr.in1 e1 (by simpa using hb s [.ref a] I.kIn (by simpa using hl)) (.cons rfl .nil) hsp) fun r s' hq => ?_)
  cases r with
  | error er => exact False.elim hq
  | ok fl =>
    cases fl with
    | ret w =>
      obtain ⟨z, H', I', rz, n, ez, hn, q⟩ := I.after hq
      subst ez
      obtain ⟨t, rfl⟩ := rz
      refine wpAny_pure ?_
      refine wpAny_bind (wpAny_holding (wpAny_pure ?_))
      refine wpAny_bind (wpAny_letGo ?_)
      show wpAny _ _ (if ((n : Nat) : Int) < 0 then _ else _) _ _ _
      rw [if_neg (by omega)]
      show wpAny _ _ (if ((n : Nat) : Int) ≥ 2 ^ 63 then _ else _) _ _ _
      rw [if_neg (by omega)]
      exact wpAny_bind (wpAny_mkInt (wpAny_pure ⟨_, rfl, ⟨.int (n : Int), H', I'.tok _, ⟨_, rfl⟩, q⟩⟩))
    | next => exact False.elim hq
    | brk => exact False.elim hq
    | cont => exact False.elim hq
theorem x_lenO {C a : Addr} {sp : Sp} {H : Hp} {Q : VK} : rLenO C sp [.ref a] H Q ↔ PropK a C H (sp [.ref a] H (fun v H' => ∃ n : Nat, v = .int (n : Int) ∧ n < 2 ^ 62 ∧ Q (.int (n : Int)) H') E0) := ⟨fun ⟨_, e, q⟩ => by cases e; exact q, fun q => ⟨a, rfl, q⟩⟩
end Vg


set_option Elab.async false
set_option linter.all false
set_option maxRecDepth 100000
set_option maxHeartbeats 2000000
namespace Vg
open PySem PySem.Spec PyProof.Rows L2

/-! ### what a call lets out -/
theorem passT {X : Cx} {W : WX} {E : XK} (tk : Takes X W) (h : ∀ cls d σ H, E cls d H → W cls d σ H) : Passes (L2.CX X.prog X.w) X E := fun _ σ _ _ _ _ I c => tk _ _ (XE.of_call I (fun cls d H' z => h cls d σ H' z) c)
theorem passLA {X : Cx} {σ : L2.St} : PassesAt (L2.CX X.prog X.w) X σ E0 := fun _ _ _ _ _ _ c => by
  obtain ⟨_, _, _, _, _, _, _, _, _, _, _, _, z⟩ := c
  exact z.elim
/-- o.m() by a positional promise -/
theorem pe_methR0 {X : Cx} {CX : CXT} {k : Nat} {C f : Addr} {m : Str} {sp : Sp} {E : XK} {o : Expr} {ta : TE} {apos pos : Pos} {pl : Sem Bool} (ho : PE X o ta) (c : Cls X.K C) (hm : Meth X.K C m f)
    (F : FnR X.prog X.w X.K X.mg X.base CX k f sp) (r : Room k X.A) (hx : Passes CX X E)
    (ht : eval (.Call (.Attribute o m apos) [] [] pos) X.env = (do
      let ov ← eval o X.env
      standAt apos.atName
      let (f, first) ← holding [ov] (getMethod ov m pl)
      callWith pos f first (backTo pos (starEach [] X.env)) (backToKw pos (keywordEach [] X.env))) := by rfl) :
    PE X (.Call (.Attribute o m apos) [] [] pos) (tMethR C m sp E ta tNil) := by
  refine ⟨fun pins s σ H Q I h => ?_⟩
  refine PySem.W.methodCall_KW (pl := pl) (thn (ho.run pins s σ H _ I h) ?_) ht
  rintro u s1 ⟨y, H1, J, ry, a, dx, fs, ey, ea, l, q⟩
  subst ey
  obtain rfl : u = Value.ref a := ry
  exact getmeth_ok J ea c hm l (PySem.W.callWith_K0 (first := [.ref a]) J.kIn hm.kp (wpAny_call (run_fnR (us := [.ref a]) (vs := [.ref a]) F r hx J (.cons rfl .nil) q)))
/-! ### caught -/
theorem wAs.of {K : PySem.W.Frag} {C c : Addr} {i : Nat} {ts : Addr → Value → Option Addr → TS} {Wout : WX} {D : Ends} {dd : Option Addr} {σ : L2.St} {H : Hp} (e : PySem.W.exmOne K (.ref C) (.ref c) = some true)
    (h : ∀ a, H a = none → ts a (.ref C) dd { nx := fun σ' H' => D.nx (σ'.set i none) H', rt := D.rt, bk := fun σ' H' => D.bk (σ'.set i none) H', ct := fun σ' H' => D.ct (σ'.set i none) H' } (σ.set i (some (.ref a))) H) : wAs K (.ref c) i ts Wout D (.ref C) dd σ H :=
  ⟨true, e, fun _ a ha => h a ha, fun z => Bool.noConfusion z⟩
theorem exm_up {K : PySem.W.Frag} {C D : Addr} (h1 : PySem.W.subIn K (.ref D) (.type "BaseException") = some true) (h2 : PySem.W.hasDictIn K D = true) (h3 : PySem.W.typeIn K (.ref D) = some (.type "type")) (h4 : PySem.W.subIn K (.ref C) (.ref D) = some true) : PySem.W.exmOne K (.ref C) (.ref D) = some true := PySem.W.exm_ref h1 h2 h3 h4
theorem s_par3 {i j k : Nat} {al : TA} {D : Ends} {σ : L2.St} {H : Hp} : tPar3 i j k al D σ H = al σ H fun vs H1 => ∃ u v w, vs = [u, v, w] ∧ D.nx (((σ.set i (some u)).set j (some v)).set k (some w)) H1 := propext ⟨fun h => h, fun h => h⟩
/-! ### constants of a class -/
structure ICon (K : PySem.W.Frag) (C : Addr) (f : Str) (u : Value) : Prop where
  ic : PySem.W.isClsIn K C = true
  pg : PySem.W.plainGet K C Str.empty = true
  fd : PySem.W.findIn K (.ref C) f = some (some u)
  sp : PySem.W.specialIn K u "__get__" = some none
  cp : PySem.W.copiedNames.contains f = false
  hi : PySem.W.handedIn u = true
theorem find_icon {K : PySem.W.Frag} {C : Addr} {f : Str} {u : Value} {od : Obj} (k : ICon K C f u) (hl : PySem.W.lookIn f od = some none) : PySem.W.findObj K C (some od) f = some (.value u) := by
  obtain ⟨cd, hcd⟩ := Option.isSome_iff_exists.mp (show (PySem.W.clsIn K C).isSome = true from k.ic)
  have own0 : PySem.W.ownOf cd (some od) f = some none := by
    unfold PySem.W.ownOf
    split
    · exact hl
    · rfl
  unfold PySem.W.findObj
  rw [hcd, Option.bind_some, k.fd, Option.bind_some]
  simp only [k.sp, Option.bind_some, own0, k.cp, Bool.false_and, Bool.false_eq_true, if_false, k.hi, if_true]
/-- o.f, a constant number of o's class -/
def tIcon (C : Addr) (f : Str) (i : Int) (ta : TE) : TE := fun σ H Q => ta σ H fun x H1 => ∃ a dx fs, x = .ref a ∧ H1 a = some (.ins C dx fs) ∧ fs.lookup f = none ∧ Q (.int i) H1
theorem pe_icon {X : Cx} {C : Addr} {f : Str} {i : Int} {e : Expr} {ta : TE} {pos : Pos} (he : PE X e ta) (k : ∃ t, ICon X.K C f (.int i t)) (hb : attributeBase e f X.env (eval e X.env) = eval e X.env := by rfl) : PE X (.Attribute e f pos) (tIcon C f i ta) := by
  obtain ⟨t, k⟩ := k
  refine ⟨fun pins s σ H Q I h => ?_⟩
  refine attr_of hb (thn (he.run pins s σ H _ I h) ?_)
  rintro u s1 ⟨y, H1, J, ry, a, dx, fs, ey, ea, l, q⟩
  subst ey
  obtain rfl : u = Value.ref a := ry
  obtain ⟨mA, O, rr, _⟩ := ins_get J.hok ea
  obtain ⟨od, I2, hl⟩ := O.look
  have hn : mA f = none := RelO.none_of (by rw [← l]; exact rr f)
  exact PySem.W.get_value J.kIn I2 (PySem.W.plainGet_of k.pg).1 (find_icon k (by rw [hl f, hn])) k.hi ⟨.int i, H1, J.tok _, ⟨t, rfl⟩, q⟩
theorem e_icon {C : Addr} {f : Str} {i : Int} {ta : TE} {σ : L2.St} {H : Hp} {Q : VK} : tIcon C f i ta σ H Q ↔ ta σ H fun x H1 => ∃ a, x = .ref a ∧ MtK a C f H1 (Q (.int i) H1) :=
  Iff.of_eq (congrArg (ta σ H) (funext fun x => funext fun H1 => propext ⟨fun ⟨a, dx, fs, e, r⟩ => ⟨a, e, dx, fs, r⟩, fun ⟨a, e, dx, fs, r⟩ => ⟨a, dx, fs, e, r⟩⟩))
def CValK (K : PySem.W.Frag) (C : Addr) (f : Str) (G : V → Prop) : Prop := ∃ mc v u, ClX.CRead K C mc ∧ ClX.CVal K C mc f v u ∧ G v
theorem e_cval {K : PySem.W.Frag} {f : Str} {ta : TE} {σ : L2.St} {H : Hp} {Q : VK} : ClX.tCVal K ta f σ H Q ↔ ta σ H fun x H1 => ∃ a, x = .ref a ∧ CValK K a f fun v => Q v H1 :=
  Iff.of_eq (congrArg (ta σ H) (funext fun x => funext fun H1 => propext ⟨fun ⟨a, mc, v, u, e, r⟩ => ⟨a, e, mc, v, u, r⟩, fun ⟨a, e, mc, v, u, r⟩ => ⟨a, mc, v, u, e, r⟩⟩))
theorem CValK.of {K : PySem.W.Frag} {C : Addr} {f : Str} {i : Int} {G : V → Prop} (r : ClX.CRead K C (.type "type")) (c : ∃ t, ClX.CVal K C (.type "type") f (.int i) (.int i t)) (g : G (.int i)) : CValK K C f G := let ⟨t, c⟩ := c; ⟨_, _, _, r, c, g⟩
/-! ### f-strings -/
def FmtK (x : V) (G : Str → Prop) : Prop := (∃ y : Str, x = .str y ∧ y.length ≤ sizeLine ∧ G y) ∨ ∃ i : Int, x = .int i ∧ i.natAbs.log2 < 1920 ∧ G (toString i)
theorem e_fmt {te : TE} {σ : L2.St} {H : Hp} {Q : VK} : tFmt te σ H Q = te σ H fun x H1 => FmtK x fun t => Q (.str t) H1 := propext ⟨fun h => h, fun h => h⟩
theorem FmtK.int {i : Int} {G : Str → Prop} (h : i.natAbs < 2 ^ 1900) (g : G (toString i)) : FmtK (.int i) G := Or.inr ⟨i, rfl, by
  by_cases z : i.natAbs = 0
  · rw [z]; decide
  · exact Nat.lt_of_lt_of_le ((Nat.log2_lt z).mpr h) (by decide), g⟩
def JoK (acc : Str) (x : V) (G : Str → Prop) : Prop := ∃ y : Str, x = .str y ∧ (acc ++ y).length ≤ sizeLine ∧ G (acc ++ y)
theorem e_jo {ts : List TE} {te : TE} {acc : Str} {σ : L2.St} {H : Hp} {Q : Str → Hp → Prop} : tJs (te :: ts) acc σ H Q = te σ H fun x H1 => JoK acc x fun t => tJs ts t σ H1 Q := propext ⟨fun h => h, fun h => h⟩
theorem e_jo0 {acc : Str} {σ : L2.St} {H : Hp} {Q : Str → Hp → Prop} : tJs [] acc σ H Q = Q acc H := propext ⟨fun h => h, fun h => h⟩
theorem JoK.of {acc y : Str} {G : Str → Prop} (h : acc.length + y.length ≤ 100000) (g : G (acc ++ y)) : JoK acc (.str y) G := ⟨y, rfl, Nat.le_trans (by rw [strLen_append]; exact h) (by decide), g⟩
end Vg


set_option Elab.async false
set_option linter.all false
set_option maxRecDepth 100000
set_option maxHeartbeats 2000000
namespace Vg
open PySem PySem.Spec PyProof.Rows L2

/-! ### an exception that is kept behind its except suite -/
def ErO (cls : Value) (d : Option Addr) (a : Addr) : HO := .ext fun h => ∃ (oe : Obj) (vs : Array Value), h.get? a = some oe ∧ Zc cls d oe ∧ oe.data = .fields vs
section
variable {X : Cx} {pins : List (Addr × Obj)} {σ : L2.St} {H : Hp} {s : Shared}
theorem Inv.adopt {a : Addr} {oe : Obj} {vs : Array Value} {cls : Value} {d : Option Addr} (J : Inv X pins σ H s) (g : s.heap.get? a = some oe) (z : Zc cls d oe) (hd : oe.data = .fields vs) (na : H a = none) (n0 : X.s_0.heap.get? a = none)
    (nL : a ≠ X.env.locals) (np : ∀ p ∈ X.pn ++ pins, p.1 ≠ a) : Inv X pins σ (upd H a (ErO cls d a)) s := by
  have un1 : Un X.fs X.ex H (upd H a (ErO cls d a)) X.s_0.heap X.s_0.heap := ⟨fun _ _ h _ _ _ => h, fun _ o h _ _ _ => ⟨o.slots, h⟩, fun b o h n _ => by rw [upd_ne (fun e => by rw [e, n0] at h; cases h)]; exact n, fun _ o h _ => ⟨o, h⟩,
    fun b xs h => by rw [upd_ne (fun e => by rw [e, na] at h; cases h)]; exact h, fun b o u h => by rw [upd_ne (fun e => by rw [e, na] at h; cases h)]; exact h, fun b ps h => ⟨#[], by rw [upd_ne (fun e => by rw [e, na] at h; cases h), h]; simp⟩⟩
  have cel : ∀ x c, X.env.cells.lookup x = some c → c ≠ a := fun x c hc e => by
    obtain ⟨v, o, ho, hv⟩ := J.cell x c hc
    rw [e, g] at ho
    cases ho
    rw [hd] at hv
    cases hv
  refine ⟨J.ok, J.os, J.bare, ⟨J.base.keep, J.base.slot, fun b o h n hx => ?_, J.base.there, fun b xs h => ?_, fun b o u h => ?_, fun b ps h => ?_⟩, J.loc, J.cell, ?_, fun x c hc => ?_, fun p hp => ?_, fun b u e => ?_, J.len⟩
  · rw [upd_ne (fun e => by rw [e, n0] at h; cases h)]
    exact J.base.free b o h n hx
  · have h2 := J.base.tups b xs h
    rw [upd_ne (fun e => by rw [e, na] at h2; cases h2)]
    exact h2
  · have h2 := J.base.frzs b o u h
    rw [upd_ne (fun e => by rw [e, na] at h2; cases h2)]
    exact h2
  · obtain ⟨more, h2⟩ := J.base.tbls b ps h
    exact ⟨more, by rw [upd_ne (fun e => by rw [e, na] at h2; cases h2)]; exact h2⟩
  · rw [upd_ne nL.symm]
    exact J.free
  · rw [upd_ne (cel x c hc)]
    exact J.freeC x c hc
  · obtain ⟨p1, p2, p3⟩ := J.pin p hp
    exact ⟨p1, by rw [upd_ne (np p hp)]; exact p2, p3⟩
  · by_cases hb : b = a
    · subst hb
      rw [upd_same] at e
      cases e
      exact ⟨⟨oe, vs, g, z, hd⟩, ⟨oe, g⟩, fun h1 h2 ⟨o, w, k1, k2⟩ hk => ⟨o, w, hk o k1, k2⟩⟩
    · rw [upd_ne hb] at e
      exact (J.hok b u e).stay (fun _ _ _ h => h) (fun c h => by rw [upd_ne (fun e => by rw [e, na] at h; cases h)]; exact h) fun c xs h => by rw [upd_ne (fun e => by rw [e, na] at h; cases h)]; exact h
end
/-- what the clause wishes: behind the suite the exception at a is tracked -/
def wKeep (K : PySem.W.Frag) (c : Value) (i : Nat) (ts : Addr → Value → Option Addr → TS) (Wo : WX) (D : Ends) : WX := fun cls d σ H =>
  ∃ b, PySem.W.exmOne K cls c = some b ∧ (b = true → ∀ a, H a = none → ts a cls d { nx := fun τ G => D.nx (τ.set i none) (upd G a (ErO cls d a)), rt := fun v G => D.rt v (upd G a (ErO cls d a)), bk := fun τ G => D.bk (τ.set i none) (upd G a (ErO cls d a)), ct := fun τ G => D.ct (τ.set i none) (upd G a (ErO cls d a)) } (σ.set i (some (.ref a))) H) ∧
    (b = false → Wo cls d σ H)
section
variable {X : Cx} {x n : Str} {c : Value} {i : Nat} {body more : List Stmt} {b1 : Stmt} {np p1 p2 : Pos} {tb : WX → TS} {ts : Addr → Value → Option Addr → TS} {Wo : WX}
theorem ps_try_keep (hst : X.stack = X.env :: X.outer) (hfr : X.env.frame = some X.env.locals) (nd : X.N.Nodup) (ni : X.N[i]? = some n) (nl : X.env.kindOf n = some .local) (hc : Names X x c) (hex : X.ex = []) (out : Takes X Wo)
    (hb : ∀ (W : WX) (pn : List (Addr × Obj)) (xe : Value → Shared → Prop), Takes (X.tr pn xe) W → PassesOwn (model X.prog X.w) X.A X.env xe → PSs (X.tr pn xe) body (tb W))
    (hs : ∀ (a : Addr) (oe : Obj) (cls : Value) (d : Option Addr) (pn : List (Addr × Obj)), Zc cls d oe → (∃ vs, oe.data = .fields vs) → PSs (X.suite a ((a, oe) :: pn)) (b1 :: more) (ts a cls d)) :
    PS X (.Try body [.ExceptHandler (some (.Name x np)) (some n) (b1 :: more) p2] [] [] p1) (fun D σ H => tb (wKeep X.K c i ts Wo D) D σ H) := by
  refine ⟨fun pins s σ H D J0 h0 => ?_⟩
  have ok := J0.ok
  have fr2 : X.A.frames = some (X.env :: X.outer) := ok.frames.trans (congrArg some hst)
  have loc : Loc X.env.scope n := .inl nl
  let xh : Value → Shared → Prop := fun e t1 => wpAny (model X.prog X.w) X.A (noteFrame e X.env) (fun _ t2 => wpAny (model X.prog X.w) X.A (setFlight e none) (fun _ t3 => wpAny (model X.prog X.w) X.A (handleBy e X.env [.ExceptHandler (some (.Name x np)) (some n) (b1 :: more) p2]) (SP X pins D) X.xe t3) X.xe t2) X.xe t1
  have catch_ : Takes (X.tr (X.pn ++ pins) xh) (wKeep X.K c i ts Wo D) := by
    rintro u t ⟨a, G, t0, pins', τ, H1, cls, d, rfl, J', nb, up, sky, na, os, ag, b, hb1, yes, no⟩
    have J : Inv X pins τ H1 t0 := J'.ofTry ok
    have sky2 : Sky G (X.env :: X.outer) a (Zc cls d) X.env.locals t.heap := hst ▸ sky
    show wpAny _ _ (noteFrame (.ref a) X.env) _ _ t
    refine Sky.land Zc.steady fr2 hfr sky2 fun h3 fl3 up3 => ?_
    have J3 : Inv X pins τ H1 { t with heap := h3 } := J.landed nb fl3.1 (up.trans up3) os ag
    obtain ⟨oe3, vs3, he3, hz3, hd3⟩ := fl3.there
    have aF : a ∉ frs (X.env :: X.outer) := fun hm => by
      obtain ⟨_, o', e', hn⟩ := fl3.2.2.1.mem hm
      rw [he3] at e'
      cases e'
      exact hn _ hd3
    have aL : a ≠ X.env.locals := fun e => aF (List.mem_filterMap.mpr ⟨X.env, List.mem_cons_self, by rw [hfr, e]⟩)
    have aO : a ∉ X.fs := fun hm => by
      obtain ⟨e, he, q⟩ := List.mem_filterMap.mp hm
      exact aF (List.mem_filterMap.mpr ⟨e, List.mem_cons_of_mem _ he, q⟩)
    have a0 : t0.heap.get? a = none := by
      cases e : t0.heap.get? a with
      | none => rfl
      | some o =>
        have k := nb a o e (by rw [hst]; exact aF)
        rw [fl3.2.1] at k
        cases k
    have a1 : X.s_0.heap.get? a = none := by
      cases e : X.s_0.heap.get? a with
      | none => rfl
      | some o =>
        obtain ⟨o', k⟩ := J.base.there a o e (fun hx => by rw [hex] at hx; cases hx)
        rw [a0] at k
        cases k
    have aP : ∀ p ∈ X.pn ++ pins, p.1 ≠ a := fun p hp e => by
      have k := (J.pin p hp).1
      rw [e, a0] at k
      cases k
    have S3 := J3.suite he3 hd3 na aL aO
    refine wpAny_handleBy_cons (codeAny_handlers_test ?_) (by intro q; cases q)
    have l1 : PySem.W.Looks (model X.prog X.w) h3 (typeOf (.ref a)) cls := fun A Q E s k q => wpAny_typeOf_ref (k _ _ he3) (by rw [hz3.1]; exact q)
    have l2 := PySem.W.exm_one (M := model X.prog X.w) J3.kIn l1 hb1
    have tst : ∀ {Q : Value → Shared → Prop} {E : Value → Shared → Prop}, Q c { t with heap := h3 } → wpAny (model X.prog X.w) (X.A.mark (some (.ref a))) (eval (.Name x np) X.env) Q E { t with heap := h3 } := by
      intro Q E q
      obtain ⟨g1, g2, m1 | ⟨m1, m2, m3⟩⟩ := hc
      · exact ld_glob (X := X.suite a ((a, oe3) :: (X.pn ++ pins))) S3 g1 m1 q g2
      · exact ld_blt (X := X.suite a ((a, oe3) :: (X.pn ++ pins))) S3 g1 m1 m2 q m3 g2
    refine tst (l2.here ?_)
    cases b with
    | true =>
      refine codeAny_handlers_suite_as (HandSPX.lands_againZ fl3 fun h4 fl4 up4 => ?_)
      have J4 : Inv X pins τ H1 { t with heap := h4 } := J.landed nb fl4.1 ((up.trans up3).trans up4) os ag
      obtain ⟨oe4, vs4, he4, hz4, hd4⟩ := fl4.there
      have S4 := J4.suite he4 hd4 na aL aO
      refine store_ok (X := X.suite a ((a, oe4) :: (X.pn ++ pins))) (v := .ref a) S4 nd ni loc rfl (fun s5 S5 => ?_) (.inr nl)
      refine wpAny_mono ((hs a oe4 cls d (X.pn ++ pins) hz4 ⟨_, hd4⟩).run [] s5 _ H1 _ S5 (yes rfl a na)) (fun fl s6 q6 => ?_) (fun _ _ z => z.elim)
      have last : ∀ {τ6 : L2.St} {H6 : Hp} {Q : Shared → Prop}, Inv (X.suite a ((a, oe4) :: (X.pn ++ pins))) [] τ6 H6 s6 → (∀ s7, Inv X pins (τ6.set i none) (upd H6 a (ErO cls d a)) s7 → Q s7) →
          wpAny (model X.prog X.w) X.A (do bindName X.env n .none; unbindBehindTheSuite X.env n p2) (fun _ s7 => Q s7) X.xe s6 := by
        intro τ6 H6 Q S6 hq
        obtain ⟨k1, k2, _⟩ := S6.pin (a, oe4) (by simp)
        exact gone_ok (Inv.adopt (S6.unsuite ok) k1 hz4 hd4 k2 a1 aL aP) nd ni nl hq
      cases fl with
      | next => obtain ⟨τ6, H6, S6, q⟩ := q6; exact last S6 fun s7 J7 => ⟨_, _, J7, q⟩
      | brk => obtain ⟨τ6, H6, S6, q⟩ := q6; exact last S6 fun s7 J7 => ⟨_, _, J7, q⟩
      | cont => obtain ⟨τ6, H6, S6, q⟩ := q6; exact last S6 fun s7 J7 => ⟨_, _, J7, q⟩
      | ret w => obtain ⟨v6, τ6, H6, S6, r6, q⟩ := q6; exact last S6 fun s7 J7 => ⟨_, _, _, J7, r6, q⟩
    | false =>
      refine wpAny_handleBy_nil ?_
      obtain ⟨_, _, _, oe, vs, T, oT, ts', he, hz, hd, h1, hr⟩ := id fl3
      unfold PySem.passOn
      refine wpAny_bind (wpAny_field he hd h1 ?_)
      rw [if_neg (show ¬ ((Value.ref T == Value.none) = true) from by simp)]
      have fly : wpAny (model X.prog X.w) X.A (setFlight (.ref a) X.env.frame) (fun _ t4 => wpAny (model X.prog X.w) X.A (throw (.ref a) : Sem Flow) (SP X pins D) X.xe t4) X.xe { t with heap := h3 } := by
        rw [hfr]
        exact HandSPX.setFlight_upZ fl3 fun h4 hh4 up4 => wpAny_throw (out _ _ ⟨a, G, t0, pins, τ, H1, cls, d, rfl, J, nb, (up.trans up3).trans up4, .inr (.inr (hst ▸ hh4)), na, os, ag, no rfl⟩)
      first
        | exact wpAny_bind (wpAny_pure (wpAny_bind fly))
        | exact wpAny_bind fly
  refine wpAny_Try_except (wpAny_mono ((hb (wKeep X.K c i ts Wo D) (X.pn ++ pins) xh catch_ PassesOwn.looking).run [] s σ H D (J0.toTry _) h0) (fun fl s1 q1 => ?_) (fun e s1 he => he))
  cases fl with
  | next => obtain ⟨τ, H1, J1, q⟩ := q1; exact wpAny_execs_nil ⟨τ, H1, J1.ofTry ok, q⟩
  | brk => obtain ⟨τ, H1, J1, q⟩ := q1; exact ⟨τ, H1, J1.ofTry ok, q⟩
  | cont => obtain ⟨τ, H1, J1, q⟩ := q1; exact ⟨τ, H1, J1.ofTry ok, q⟩
  | ret u => obtain ⟨v, τ, H1, J1, r, q⟩ := q1; exact ⟨v, τ, H1, J1.ofTry ok, r, q⟩
end
theorem wKeep.of {K : PySem.W.Frag} {C c : Addr} {i : Nat} {ts : Addr → Value → Option Addr → TS} {Wo : WX} {D : Ends} {dd : Option Addr} {σ : L2.St} {H : Hp} (e : PySem.W.exmOne K (.ref C) (.ref c) = some true)
    (h : ∀ a, H a = none → ts a (.ref C) dd { nx := fun τ G => D.nx (τ.set i none) (upd G a (ErO (.ref C) dd a)), rt := fun v G => D.rt v (upd G a (ErO (.ref C) dd a)), bk := fun τ G => D.bk (τ.set i none) (upd G a (ErO (.ref C) dd a)), ct := fun τ G => D.ct (τ.set i none) (upd G a (ErO (.ref C) dd a)) } (σ.set i (some (.ref a))) H) : wKeep K (.ref c) i ts Wo D (.ref C) dd σ H :=
  ⟨true, e, fun _ a ha => h a ha, fun z => Bool.noConfusion z⟩
/-! ### a list unpacked -/
def UnlK (K : PySem.W.Frag) (p : Addr) (n : Nat) (H : Hp) (G : List V → Prop) : Prop := ∃ xs, SqL K H p xs ∧ xs.length = n ∧ G xs
theorem g_unl {K : PySem.W.Frag} {n : Nat} {gs : TGs} {a : Addr} {σ : L2.St} {H : Hp} {N : L2.St → Hp → Prop} : gUnl K n gs (.ref a) σ H N ↔ UnlK K a n H fun xs => gs xs σ H N := ⟨fun ⟨_, xs, e, h, z, q⟩ => by cases e; exact ⟨xs, h, z, q⟩, fun ⟨xs, h, z, q⟩ => ⟨a, xs, rfl, h, z, q⟩⟩
theorem UnlK.of {K : PySem.W.Frag} {p : Addr} {n : Nat} {H : Hp} {xs : List V} {G : List V → Prop} (h : SqL K H p xs) (e : xs.length = n) (g : G xs) : UnlK K p n H G := ⟨xs, h, e, g⟩
/-! ### classmethods; a class in a local name -/
theorem fnR_of {P : Program} {w : World} {K : PySem.W.Frag} {mg : Str → Option Value} {bs : Heap} {C : CXT} {k : Nat} {f : Addr} {fd : FuncData} {ps : List Str} {sp : Sp} (F : FnOk P w K mg bs C k f fd ps sp) (b : Binds K fd ps []) : FnR P w K mg bs C k f sp := fun A fr s H us vs Q E r e0 v q => by
  have hl : (us ++ []).length = ps.length := by rw [List.append_nil, ← v.length]; exact F.len _ _ _ _ q
  have kx : K.In s.heap := e0.mod.kin.keeps fun c o z => (e0.bs c o z).1
  have h := b s us kx hl
  rw [List.append_nil] at h
  exact F.run A fr s H ⟨us, []⟩ us vs Q E r e0 h v q
theorem e_cmeth {C : Addr} {sp : Sp} {E : XK} {ta : TE} {t : TA} {σ : L2.St} {H : Hp} {Q : VK} : ClX.tCMeth C sp E ta t σ H Q = ta σ H fun x H1 => x = .ref C ∧ t σ H1 fun vs H2 => sp (.ref C :: vs) H2 Q E := propext ⟨fun h => h, fun h => h⟩
def tMakeV (i : Nat) (C : Addr) (sp : Sp) (E : XK) (t : TA) : TE := fun σ H Q => σ[i]? = some (some (.ref C)) ∧ t σ H fun vs H1 => MkK C H1 fun x H2 => sp (.ref x :: vs) H2 (fun v H3 => v = .non ∧ Q (.ref x) H3) E
theorem e_makeV {i : Nat} {C : Addr} {sp : Sp} {E : XK} {t : TA} {σ : L2.St} {H : Hp} {Q : VK} : tMakeV i C sp E t σ H Q = (σ[i]? = some (some (.ref C)) ∧ t σ H fun vs H1 => MkK C H1 fun x H2 => sp (.ref x :: vs) H2 (fun v H3 => v = .non ∧ Q (.ref x) H3) E) := propext ⟨fun h => h, fun h => h⟩
theorem pe_makeV {X : Cx} {CX : CXT} {k i : Nat} {C f : Addr} {fd : FuncData} {ps : List Str} {sp : Sp} {E : XK} {x : Str} {e : Expr} {es : List Expr} {t : TA} {p pos : Pos} (M : Mk X.K C f) (F : FnOk X.prog X.w X.K X.mg X.base CX k f fd ps sp) (r : Room (k + 1) X.A) (b : Binds X.K fd ps []) (hx : Passes CX X E)
    (hN : X.N[i]? = some x) (hv : Vis X.env.scope x) (ha : PA X (e :: es) t) (h1 : (x == ("__debug__" : Str)) = false := by decide) (h2 : (x == ("__classdict__" : Str)) = false := by decide)
    (he : starEach (e :: es) X.env = (false, eval e X.env) :: starEach es X.env := by rfl) (hp : (backTo pos (starEach es X.env)).any (·.1) = false := by rfl) : PE X (.Call (.Name x p) (e :: es) [] pos) (tMakeV i C sp E t) := by
  refine ⟨fun pins s σ H Q J h => ?_⟩
  obtain ⟨hs, h⟩ := h
  refine wpAny_Call_Name_kw (thn ((pe_var (pos := p) (i := i) hN hv h1 h2).run pins s σ H (fun v H1 => v = .ref C ∧ H1 = H) J ⟨.ref C, hs, rfl, rfl⟩) ?_)
  rintro u s1 ⟨v, H1, J1, rv, rfl, rfl⟩
  cases rv
  refine PySem.W.callWith_K (h₀ := X.base) J.ok.mod.kin M.kp (thn (ha.run pos pins s1 σ _ _ J1 h) ?_) he hp
  rintro us s2 ⟨vs, H2, J2, rs, q⟩
  exact ⟨J2.kIn, run_make M F r b .nil hx J2 rs fun y dx n1 n2 n3 => by rw [List.append_nil]; exact q y dx n1 n2 n3⟩
/-! ### isinstance of a kept exception -/
def rIsX (K : PySem.W.Frag) : List V → Hp → VK → Prop := fun xs H Q => ∃ (D a : Addr) (c : V) (cv : Value) (b : Bool), xs = [.ref a, c] ∧ H a = some (ErO (.ref D) none a) ∧ ExcC K D ∧ (∀ u, RelV c u → u = cv) ∧ PySem.W.kitOne K (.ref D) cv = some b ∧ Q (.bl b) H
theorem cr_isX {X : Cx} : CallR X (.builtin "isinstance") (rIsX X.K) := by
  intro pins s σ H xs us Q J r h
  obtain ⟨D, a, c, cv, b, rfl, ha, C, hcv, e, q⟩ := h
  obtain ⟨⟨oe, vs, hg, hz, hd⟩, _, _⟩ := J.hok a _ ha
  cases r with
  | cons rx rr =>
    cases rr with
    | cons rt rr =>
      cases rr
      cases rx
      have ec := hcv _ rt
      subst ec
      have I2 : PySem.W.InstAt s.heap a oe D none := by
        obtain ⟨oc, od, oda, osl⟩ := oe
        obtain ⟨k1, k2⟩ := hz
        dsimp only at k1 k2 hd
        subst k1 k2 hd
        exact ⟨hg, rfl, rfl, trivial⟩
      exact PySem.W.kia_one (PySem.W.handS_kitx_exc C.hg C.hk C.hs C.hd C.ha C.hn C.ht C.hm) J.kIn I2 e (fun z => nomatch z) fun tk => ⟨.bl b, H, J.kept (t' := tk) fun _ _ z => z, rfl, q⟩
/-- of a class of the text, of a built-in one -/
def IsXK (K : PySem.W.Frag) (a : Addr) (c : Value) (H : Hp) (G : Bool → Prop) : Prop := ∃ D b, H a = some (ErO (.ref D) none a) ∧ ExcC K D ∧ PySem.W.kitOne K (.ref D) c = some b ∧ G b
theorem x_isX {K : PySem.W.Frag} {a C : Addr} {H : Hp} {Q : VK} : rIsX K [.ref a, .ref C] H Q ↔ IsXK K a (.ref C) H fun b => Q (.bl b) H :=
  ⟨fun ⟨D, a', c, cv, b, e, h1, h2, h3, h4, q⟩ => by cases e; have e2 := h3 (.ref C) rfl; subst e2; exact ⟨D, b, h1, h2, h4, q⟩, fun ⟨D, b, h1, h2, h4, q⟩ => ⟨D, a, _, _, b, rfl, h1, h2, fun _ z => z, h4, q⟩⟩
theorem x_isXT {K : PySem.W.Frag} {a : Addr} {T : String} {H : Hp} {Q : VK} : rIsX K [.ref a, .ty T] H Q ↔ IsXK K a (.type T) H fun b => Q (.bl b) H :=
  ⟨fun ⟨D, a', c, cv, b, e, h1, h2, h3, h4, q⟩ => by cases e; have e2 := h3 (.type T) rfl; subst e2; exact ⟨D, b, h1, h2, h4, q⟩, fun ⟨D, b, h1, h2, h4, q⟩ => ⟨D, a, _, _, b, rfl, h1, h2, fun _ z => z, h4, q⟩⟩
theorem IsXK.of {K : PySem.W.Frag} {D a : Addr} {c : Value} {b : Bool} {H : Hp} {G : Bool → Prop} (h : H a = some (ErO (.ref D) none a)) (C : ExcC K D) (k : PySem.W.kitOne K (.ref D) c = some b) (g : G b) : IsXK K a c H G := ⟨D, b, h, C, k, g⟩
/-! ### isinstance, worked out -/
theorem kit_sub {K : PySem.W.Frag} {C D : Addr} {b : Bool} (h0 : (Value.ref C == Value.ref D) = false) (h2 : PySem.W.hasDictIn K D = true) (h3 : PySem.W.typeIn K (.ref D) = some (.type "type")) (h4 : PySem.W.subIn K (.ref C) (.ref D) = some b) : PySem.W.kitOne K (.ref C) (.ref D) = some b := by
  unfold PySem.W.kitOne
  rw [if_neg (by rw [h0]; decide)]
  unfold PySem.W.kitCls
  dsimp only
  have hs : (PySem.W.clsIn K D).isSome = true := by
    unfold PySem.W.hasDictIn at h2
    cases e : PySem.W.clsIn K D with
    | none => rw [e] at h2; cases h2
    | some c => rfl
  rw [hs, h3, if_pos (by rfl)]
  exact h4
theorem kit_self {K : PySem.W.Frag} {C : Addr} : PySem.W.kitOne K (.ref C) (.ref C) = some true := by
  unfold PySem.W.kitOne
  rw [if_pos (by simp)]
theorem kit_blt {K : PySem.W.Frag} {C : Addr} {b : Bool} {T : String} (hm : PySem.W.kitMeta T = true) (h4 : PySem.W.subIn K (.ref C) (.type T) = some b) : PySem.W.kitOne K (.ref C) (.type T) = some b := by
  unfold PySem.W.kitOne
  rw [if_neg (show ¬ ((Value.ref C == Value.type T) = true) from by simp)]
  unfold PySem.W.kitCls
  dsimp only
  rw [if_pos hm]
  exact h4
end Vg


set_option Elab.async false
set_option linter.all false
set_option maxRecDepth 100000
namespace Vg
open PySem PySem.Spec PyProof.Rows L2
/-! ### sum of a tuple of two numbers -/
def rSumT (K : PySem.W.Frag) : List V → Hp → VK → Prop := fun vs H Q => ∃ (a : Addr) (i j : Int), vs = [.ref a] ∧ SqT K H a [.int i, .int j] ∧ Q (.int (i + j)) H
theorem sum_two (i j : Int) : PySem.W.Num.sumInts 0 [.int i, .int j] = some (.int (i + j)) := by
  have e : (0 : Int) + i + j = i + j := by omega
  unfold PySem.W.Num.sumInts
  split
  · unfold PySem.W.Num.sumInts
    split
    · unfold PySem.W.Num.sumInts; rw [e]
    · unfold PySem.W.Num.foldFrom; rw [e]
  · rw [← e]; rfl
theorem cr_sumT {X : Cx} (hc : X.calm = true) : CallR X (.builtin "sum") (rSumT X.K) := by
  intro pins s σ H vs us Q I r h
  obtain ⟨a, i, j, rfl, hs, q⟩ := h
  obtain ⟨its, rv, hl, _⟩ := I.tuple hs
  rw [Vals.ref1 r]
  cases rv with
  | cons r1 rr =>
    cases rr with
    | cons r2 rr =>
      cases rr
      obtain ⟨t1, rfl⟩ := r1
      obtain ⟨t2, rfl⟩ := r2
      refine PySem.Flt.call_sum_walkF (sum_two i j) (PySem.W.iter_tupleW (A := X.A.in1) (I.ok.hd hc) hl fun s₂ e W st hfp hw hk => ?_)
      refine ⟨_, _, _, _, _, _, rfl, W, st, hfp, fun k v hv => ?_, fun s' v hn m => ?_⟩
      · match k, hv with
        | 0, hv => cases hv; exact ⟨_, rfl, .int _ _⟩
        | 1, hv => cases hv; exact ⟨_, rfl, .int _ _⟩
      · obtain ⟨h', tk, rfl, hk'⟩ := PySem.W.moved_old e rfl m
        cases hn
        exact ⟨.int _, H, I.kept hk', ⟨_, rfl⟩, q⟩
end Vg


set_option Elab.async false
set_option linter.all false
set_option maxRecDepth 100000
set_option maxHeartbeats 2000000
namespace Vg
open PySem PySem.Spec PyProof.Rows L2
/-! ### == and != by an own __eq__ -/
inductive YTy (H : Hp) : V → Value → Prop
  | ins {a C dx : Addr} {fs : List (Str × V)} (h : H a = some (.ins C dx fs)) : YTy H (.ref a) (.ref C)
  | lst {a : Addr} {xs : List V} (h : H a = some (.lst xs)) : YTy H (.ref a) (.type "list")
  | str (z : Str) : YTy H (.str z) (.type "str")
theorem YTy.looks {X : Cx} {pins : List (Addr × Obj)} {σ : L2.St} {H : Hp} {s : Shared} {y : V} {u tb : Value} (I : Inv X pins σ H s) (r : RelV y u) (h : YTy H y tb) (M : Model) : PySem.W.Looks M s.heap (typeOf u) tb := by
  cases h with
  | ins h =>
    cases (show u = Value.ref _ from r)
    obtain ⟨mA, O, _⟩ := ins_get I.hok h
    obtain ⟨od, J, _⟩ := O.look
    exact J.type
  | lst h =>
    cases (show u = Value.ref _ from r)
    obtain ⟨_, _, n, _, h1⟩ := (show ObjOk X.prog X.w H s.heap _ (.lst _) from I.hok _ _ h)
    exact (PySem.W.Looks.ld h1).andThen .now
  | str z =>
    obtain ⟨t, q⟩ := (show ∃ t, u = Value.str z t from r)
    cases q
    exact PySem.W.Looks.of_pure rfl
structure EqC (K : PySem.W.Frag) (C f : Addr) : Prop where
  eq : PySem.W.findIn K (.ref C) "__eq__" = some (some (.ref f))
  fn : PySem.W.isFn K (.ref f) = true
  ne : PySem.W.findIn K (.ref C) "__ne__" = some (some (.builtin "object.__ne__"))
  hm : PySem.W.mroIn K C (.type "object") = some true
def rOEq (K : PySem.W.Frag) (C : Addr) (sp : Sp) : R2 := fun x y H Q => ∃ a dx fs tb, x = .ref a ∧ H a = some (.ins C dx fs) ∧ YTy H y tb ∧ PySem.W.notFirst K C tb = true ∧ sp [x, y] H Q E0
def rONe (K : PySem.W.Frag) (C : Addr) (sp : Sp) : R2 := fun x y H Q => ∃ a dx fs tb, x = .ref a ∧ H a = some (.ins C dx fs) ∧ YTy H y tb ∧ PySem.W.notFirst K C tb = true ∧ sp [x, y] H (fun v H' => ∃ b, v = .bl b ∧ Q (.bl (!b)) H') E0
theorem ifBound_ne {M : Model} {A : Around} {E : Value → Shared → Prop} {s : Shared} {K : PySem.W.Frag} {x C : Addr} {ox : Obj} {od : Option Obj} {args : List Value} {Q : Option Value → Shared → Prop} (X : K.In s.heap) (I : PySem.W.InstAt s.heap x ox C od) (hs : PySem.W.findIn K (.ref C) "__ne__" = some (some (.builtin "object.__ne__")))
    (h : wpAny M A (call (.builtin "object.__ne__") (.ref x :: args)) (fun v => Q (some v)) E s) : wpAny M A (callSpecialIfBound? (.ref x) "__ne__" args) Q E s := by
  simp only [callSpecialIfBound?, bindSpecialIfBound?]
  refine wpAny_holding (wpAny_bind (wpAny_bind (wpAny_bind (I.type.here ((PySem.W.looks_findIn X hs).here ?_)))))
  refine wpAny_bind (wpAny_askSetting (wpAny_ite ?_))
  have fin : wpAny M A (call (.builtin "object.__ne__") ([.ref x] ++ args) >>= fun v => pure (some v)) Q E s := wpAny_bind (wpAny_mono h (fun v s' h' => wpAny_pure h') fun _ _ h' => h')
  split
  · exact wpAny_bind (wpAny_of_eq (PySem.F.cmp_object.ne.bind _) (wpAny_pure (by exact fin)))
  · exact wpAny_tryCatch (wpAny_bind (wpAny_of_eq (PySem.F.cmp_object.ne.bind _) (wpAny_pure (by exact fin))))
theorem objNe_own {prog : Program} {w : World} {A : Around} {E : Value → Shared → Prop} {s : Shared} {K : PySem.W.Frag} {x C f : Addr} {ox : Obj} {od : Option Obj} {b : Value} {Q : Fin → Shared → Prop} (X : K.In s.heap) (I : PySem.W.InstAt s.heap x ox C od) (hc : EqC K C f) (hu : A.units < cLine)
    (h : wpAny (model prog w) A (call (.ref f) [.ref x, b]) (fun v s' => ∃ r, v = .bool r ∧ Q (.done (.ret (.bool (!r)))) s') E s) : wpAny (model prog w) A (Builtin.«object.__ne__» ⟨[.ref x, b], []⟩) Q E s := by
  unfold Builtin.«object.__ne__»
  repeat (first
    | with_reducible refine wpAny_cRoomFor hu ?_
    | (refine wpAny_bind (m := callSpecialIfBound? (.ref x) (Str.ofString "__eq__") [b])
        (PySem.W.ifBound_K X I hc.eq hc.fn (wpAny_mono h (fun r s' hr => by
          obtain ⟨b, rfl, hq⟩ := hr
          repeat (first | exact hq | exact wpAny_pure hq | exact wpAny_truthy_bool hq | (refine wpAny_bind (m := truthy (.bool _)) (wpAny_truthy_bool ?_)) | wp_step)) fun _ _ e => e)))
    | wp_step)
section
variable {X : Cx} {CX : CXT} {n : Nat} {C f : Addr} {sp : Sp}
theorem op_oeq (c : EqC X.K C f) (F : FnR X.prog X.w X.K X.mg X.base CX n f sp) (hr : Room (n + 1) X.A) (hx : Passes CX X E0) : OpR X (compareOp .Eq) (rOEq X.K C sp) := by
  intro pins s σ H x y v u Q I rx ry h
  obtain ⟨a, dx, fs, tb, rfl, ha, hy, hn, q⟩ := h
  cases (show v = Value.ref a from rx)
  obtain ⟨mA, O, _⟩ := ins_get I.hok ha
  obtain ⟨od, J, _⟩ := O.look
  obtain ⟨m, hF⟩ := I.fr
  show wpAny (model X.prog X.w) X.A (richCompare .Eq (.ref a) u) _ _ _
  refine PySem.W.cmp_K (op := .Eq) (tb := tb) hr.units0 hF I.ok.mod.kin J (hy.looks I ry _) hn c.eq c.fn ?_
  refine wpAny_mono (wpAny_call (run_fnR (us := [.ref a, u]) (vs := [.ref a, y]) F (hr.mono (Nat.le_succ n)) hx I (.cons rfl (.cons ry .nil)) q)) (fun w s' z => ?_) fun _ _ x => x
  obtain ⟨z', H', I', rz, qz⟩ := z
  exact SlX.cmpback rz ⟨z', H', I', rz, qz⟩
theorem op_one (c : EqC X.K C f) (F : FnR X.prog X.w X.K X.mg X.base CX n f sp) (hr : Room (n + 1) X.A) (hx : Passes CX X E0) : OpR X (compareOp .NotEq) (rONe X.K C sp) := by
  intro pins s σ H x y v u Q I rx ry h
  obtain ⟨a, dx, fs, tb, rfl, ha, hy, hn, q⟩ := h
  cases (show v = Value.ref a from rx)
  obtain ⟨mA, O, _⟩ := ins_get I.hok ha
  obtain ⟨od, J, _⟩ := O.look
  have one : wpAny (model X.prog X.w) X.A (tryCompare (.ref a) (cmpInfo .NotEq).2.1 u) (fun r s' => ∃ v, r = some v ∧ EP X pins σ Q v s') X.xe s := by
    unfold tryCompare
    refine wpAny_bind (ifBound_ne I.kIn J c.ne (wpAny_call (codeAny_call_builtin PySem.F.cmp_object.ne.plain PySem.F.cmpEntry_ne (PySem.W.check_slot PySem.F.cmpKind_ne PySem.F.cmpSplit_ne (J.type.andThen (PySem.W.looks_mroIn I.kIn c.hm)) (PySem.F.cmpArgs_ne _ _) ?_))))
    refine objNe_own (A := X.A.in1) I.kIn J c hr.in1.units0 ?_
    refine wpAny_mono (wpAny_call (SlX.run_at (us := [.ref a, u]) (ws := [.ref a, y]) F hr.in1 I.env0.in1 hx I (.cons rfl (.cons ry .nil)) q)) (fun w s' z => ?_) fun _ _ x => x
    obtain ⟨z', H', I', rz, b, rfl, qz⟩ := z
    cases (show w = Value.bool b from rz)
    refine ⟨b, rfl, ?_⟩
    first
      | exact wpAny_pure ⟨_, rfl, ⟨.bl (!b), H', I', rfl, qz⟩⟩
      | exact ⟨_, rfl, ⟨.bl (!b), H', I', rfl, qz⟩⟩
  show wpAny (model X.prog X.w) X.A (richCompare .NotEq (.ref a) u) _ _ _
  unfold richCompare
  simp only [oneThing_ref]
  refine wpAny_holding (wpAny_bind (wpAny_cRoomFor hr.units0 ?_))
  refine wpAny_bind (J.type.here (wpAny_bind ((hy.looks I ry _).here ?_)))
  split
  · rename_i q
    have e : PySem.W.subIn X.K tb (.ref C) = some false := by
      rcases Bool.or_eq_true_iff.mp hn with e | e
      · rw [beq_iff_eq.mp e] at q; simp at q
      · exact beq_iff_eq.mp e
    refine wpAny_bind ((PySem.W.looks_subIn I.kIn e).here ?_)
    simp only [Bool.false_eq_true, if_false]
    refine wpAny_bind (wpAny_mono one (fun r s' z => ?_) fun _ _ e => e)
    obtain ⟨v, rfl, hq⟩ := z
    exact wpAny_pure hq
  · refine wpAny_bind (wpAny_pure ?_)
    simp only [Bool.false_eq_true, if_false]
    refine wpAny_bind (wpAny_mono one (fun r s' z => ?_) fun _ _ e => e)
    obtain ⟨v, rfl, hq⟩ := z
    exact wpAny_pure hq
end
/-- a op b of two objects with an own __eq__ -/
def OEqK (K : PySem.W.Frag) (C a : Addr) (y : V) (sp : Sp) (H : Hp) (Q : VK) : Prop := ∃ dx fs tb, H a = some (.ins C dx fs) ∧ YTy H y tb ∧ PySem.W.notFirst K C tb = true ∧ sp [.ref a, y] H Q E0
section
variable {K : PySem.W.Frag} {C a : Addr} {y : V} {sp : Sp} {H : Hp} {Q : VK}
theorem x_oeq : rOEq K C sp (.ref a) y H Q ↔ OEqK K C a y sp H Q := ⟨fun ⟨_, dx, fs, tb, e, r⟩ => by cases e; exact ⟨dx, fs, tb, r⟩, fun ⟨dx, fs, tb, r⟩ => ⟨a, dx, fs, tb, rfl, r⟩⟩
theorem x_one : rONe K C sp (.ref a) y H Q ↔ OEqK K C a y sp H fun v H' => ∃ b, v = .bl b ∧ Q (.bl (!b)) H' := ⟨fun ⟨_, dx, fs, tb, e, r⟩ => by cases e; exact ⟨dx, fs, tb, r⟩, fun ⟨dx, fs, tb, r⟩ => ⟨a, dx, fs, tb, rfl, r⟩⟩
theorem OEqK.own {dx b dy : Addr} {fs gs : List (Str × V)} (h : H a = some (.ins C dx fs)) (h2 : H b = some (.ins C dy gs)) (q : sp [.ref a, .ref b] H Q E0) : OEqK K C a (.ref b) sp H Q := ⟨dx, fs, _, h, .ins h2, by unfold PySem.W.notFirst; simp, q⟩
theorem notFirst_ty {T : String} (e : (fastBuiltinMro T).map (·.contains (Value.ref C)) = some false) : PySem.W.notFirst K C (.type T) = true := by
  unfold PySem.W.notFirst
  have : PySem.W.subIn K (.type T) (.ref C) = some false := e
  rw [this]
  simp
theorem OEqK.lst {dx b : Addr} {xs : List V} {fs : List (Str × V)} (h : H a = some (.ins C dx fs)) (h2 : H b = some (.lst xs)) (q : sp [.ref a, .ref b] H Q E0) : OEqK K C a (.ref b) sp H Q := ⟨dx, fs, _, h, .lst h2, notFirst_ty (by
  have e : fastBuiltinMro "list" = some [.type "list", .type "object"] := by decide +kernel
  rw [e]
  first | rfl | simp), q⟩
theorem OEqK.str {dx : Addr} {z : Str} {fs : List (Str × V)} (h : H a = some (.ins C dx fs)) (q : sp [.ref a, .str z] H Q E0) : OEqK K C a (.str z) sp H Q := ⟨dx, fs, _, h, .str z, notFirst_ty (by
  have e : fastBuiltinMro "str" = some [.type "str", .type "object"] := by decide +kernel
  rw [e]
  first | rfl | simp), q⟩
end
/-! ### isinstance of an instance -/
structure IsiC (K : PySem.W.Frag) (C : Addr) : Prop where
  cl : Cls K C
  si : SlX.SIsi K C
/-- isinstance(x, c): x of the own class D, or plain -/
def rIsW (K : PySem.W.Frag) : List V → Hp → VK → Prop := fun xs H Q => ∃ (x c : V) (t u : Value) (b : Bool), xs = [x, c] ∧ ClsV c u ∧ TyX K H x t ∧ PySem.W.kitOne K t u = some b ∧ Q (.bl b) H
theorem cr_isW {X : Cx} : CallR X (.builtin "isinstance") (rIsW X.K) := call_isi
def IsWK (K : PySem.W.Frag) (x c : V) (H : Hp) (G : Bool → Prop) : Prop := ∃ (t u : Value) (b : Bool), ClsV c u ∧ TyX K H x t ∧ PySem.W.kitOne K t u = some b ∧ G b
theorem x_isW {K : PySem.W.Frag} {x c : V} {H : Hp} {Q : VK} : rIsW K [x, c] H Q ↔ IsWK K x c H fun b => Q (.bl b) H := ⟨fun ⟨_, _, t, u, b, e, r⟩ => by cases e; exact ⟨t, u, b, r⟩, fun ⟨t, u, b, r⟩ => ⟨x, c, t, u, b, rfl, r⟩⟩
theorem IsWK.own {K : PySem.W.Frag} {C a dx : Addr} {fs : List (Str × V)} {H : Hp} {G : Bool → Prop} (c : IsiC K C) (h : H a = some (.ins C dx fs)) (q : G true) : IsWK K (.ref a) (.ref C) H G :=
  ⟨.ref C, .ref C, true, .own C, .base (.ins h c.cl c.si.ca c.si.cn c.si.ct c.si.cm), kit_self, q⟩
/-! ### int(n), len(d) -/
def rIntI : List V → Hp → VK → Prop := fun xs H Q => ∃ i, xs = [.int i] ∧ Q (.int i) H
theorem cr_intI {X : Cx} : CallR X (.type "int") rIntI := CallR.as call_int1 fun _ _ _ ⟨i, e, q⟩ => Or.inl ⟨i, e, q⟩
theorem x_intI {i : Int} {H : Hp} {Q : VK} : rIntI [.int i] H Q ↔ Q (.int i) H := ⟨fun ⟨_, e, q⟩ => by cases e; exact q, fun q => ⟨i, rfl, q⟩⟩
def LenDK (a : Addr) (H : Hp) (G : Int → Prop) : Prop := ∃ kvs : List (Key × V), H a = some (.dK kvs) ∧ G kvs.length
def rLenD : List V → Hp → VK → Prop := fun xs H Q => ∃ a kvs, xs = [V.ref a] ∧ H a = some (.dK kvs) ∧ Q (.int kvs.length) H
theorem cr_lenD {X : Cx} : CallR X (.builtin "len") rLenD := call_lenD
theorem x_lenD {a : Addr} {H : Hp} {Q : VK} : rLenD [.ref a] H Q ↔ LenDK a H fun i => Q (.int i) H := ⟨fun ⟨_, kvs, e, h, q⟩ => by cases e; exact ⟨kvs, h, q⟩, fun ⟨kvs, h, q⟩ => ⟨a, kvs, rfl, h, q⟩⟩
theorem LenDK.of {B : Hp} {l : List (Addr × HO)} {a : Addr} {kvs : List (Key × V)} {H : Hp} {G : Int → Prop} (L : Led B H l) (m : (a, HO.dK kvs) ∈ l) (q : G kvs.length) : LenDK a H G := ⟨kvs, L.at m, q⟩
end Vg


set_option Elab.async false
set_option linter.all false
set_option maxRecDepth 100000
set_option maxHeartbeats 4000000
namespace Vg
open PySem PySem.Spec PyProof.Rows L2
/-! ### set(xs) of a list of ints -/
abbrev set0 (w : World) : Obj := { cls := .type "set", dict := none, data := .set #[] 0 (.fresh 0 0 (!w.params.followText "set-order")) }
/-- what set(xs) leaves -/
def SetDone (w : World) (s : Shared) (ns : List Int) (s2 : Shared) : Prop := ∃ (g : Heap) (tk c : Nat), s2 = { s with heap := g, toks := tk } ∧ SetR w g s.heap.objs.size (fun j => decide (j ∈ ns)) c ∧ c ≤ ns.length ∧ ∀ b o, s.heap.get? b = some o → g.get? b = some o
theorem set_init_L {P : Program} {w : World} {A : Around} {E : Value → Shared → Prop} {s : Shared} {l : Addr} {items : Array Value} (ns : List Int) (hh : A.handled = none) (hl : s.heap.IsList l items) (hit : IntsAre items.toList ns) (hb : ns.length + 1 < scanBound) :
    codeAny (model P w) A (.call (.builtin "set.__init__") ⟨[.ref s.heap.objs.size, .ref l], []⟩) (wants (fun r s2 => r = .none ∧ SetDone w s ns s2) E) { s with heap := s.heap.push (set0 w) } := by
  have szi : items.size = ns.length := (Array.length_toList (xs := items)).symm.trans (IntsAre.length hit)
  have at0 : (s.heap.push (set0 w)).get? s.heap.objs.size = some (set0 w) := Heap.get?_push_size _ rfl
  have ty0 : Shared.TypeIs { s with heap := s.heap.push (set0 w) } (.ref s.heap.objs.size) "set" := ⟨_, at0, rfl⟩
  refine codeAny_call_builtin F.called_set.init.plain F.entry_set_init (check_set_init_1 ty0 ?_)
  obtain ⟨⟨oc, od, oda, osl⟩, ho, hc, n, hd⟩ := hl
  dsimp only at hc hd
  subst hc hd
  have ho1 : (s.heap.push (set0 w)).get? l = some ⟨.type "list", od, .seq items n, osl⟩ := Heap.get?_push_of_some _ ho
  have is1 : (s.heap.push (set0 w)).IsList l items := ⟨_, ho1, rfl, n, rfl⟩
  have q1 := F.sub_list_set
  have q2 := F.sub_list_frozenset
  have q3 : (Value.type "list" == Value.type "dict") = false := by decide
  have ll : l < s.heap.objs.size := Heap.lt_size ho
  have nI : l ≠ (s.heap.push (set0 w)).objs.size := by rw [Heap.size_push]; exact Nat.ne_of_lt (Nat.lt_succ_of_lt ll)
  have nS : s.heap.objs.size ∉ [(s.heap.push (set0 w)).objs.size, l] := by
    rw [Heap.size_push, List.mem_cons, List.mem_singleton, not_or]
    exact ⟨Nat.ne_of_lt (Nat.lt_succ_self _), Nat.ne_of_gt ll⟩
  have each : ∀ (i : Nat) (v : Value), items[i]? = some v → ∃ k t, ns[i]? = some k ∧ v = .int k t := fun i v hv => by
    have hi : i < ns.length := by rw [← szi]; exact (Array.getElem?_eq_some_iff.mp hv).1
    obtain ⟨t, e⟩ := PyProof.Rows.IntsAre.int_at hit i v (by rw [Array.getElem?_toList]; exact hv)
    rw [List.getD_eq_getElem?_getD, List.getElem?_eq_getElem hi] at e
    exact ⟨_, t, List.getElem?_eq_getElem hi, e⟩
  unfold Builtin.«set.__init__» noKeywords Builtin.Frozenset.updateFrom
  generalize hPI : pyIter = PI
  wp_walk
  subst hPI
  refine wpAny_pyIter_list is1 (wpAny_bind (wpAny_runValue ?_))
  refine set_update_ints (w := w) ((Walks.list (by simp [hh]) _ l nI items).toS) s.heap.objs.size nS ns szi hb each (items.size - 0) 0 _ (by omega) (Nat.zero_le _) ⟨⟨_, Heap.get?_push_size _ rfl, rfl, rfl⟩, (is1.push _)⟩ ⟨0, Nat.le_refl 0, setR_new_at (Heap.get?_push_of_some _ at0)⟩ ?_
  intro s9 c hm hc9 hS9
  obtain ⟨h9, g9, d9, t9, o9⟩ := s9
  have e1 : g9 = s.gens := hm.gens
  have e2 : d9 = s.drawn := hm.drawn
  have e3 : o9 = s.os := hm.os
  subst e1 e2 e3
  rw [szi] at hc9
  refine wpAny_pure (wpAny_pure ⟨rfl, h9, t9, c, rfl, hS9, hc9, fun b o hbo => hm.heap b o ?_ (Heap.get?_push_of_some _ (Heap.get?_push_of_some _ hbo))⟩)
  have hbl := Heap.lt_size hbo
  rw [Heap.size_push, List.mem_cons, List.mem_singleton, not_or]
  exact ⟨Nat.ne_of_lt hbl, Nat.ne_of_lt (Nat.lt_succ_of_lt hbl)⟩
theorem call_set_L {P : Program} {w : World} {A : Around} {E : Value → Shared → Prop} {s : Shared} {l : Addr} {items : Array Value} (ns : List Int) {Q : Value → Shared → Prop} (hh : A.handled = none) (hl : s.heap.IsList l items) (hit : IntsAre items.toList ns) (hb : ns.length + 1 < scanBound)
    (k : ∀ s2, SetDone w s ns s2 → Q (.ref s.heap.objs.size) s2) : wpAny (model P w) A (call (.type "set") [.ref l]) Q E s := by
  obtain ⟨c0, tl, hmro⟩ := F.called_set.mro
  have m1 := F.called_set.made
  have m2 := F.called_set.sub
  have m3 := F.called_set.notType
  have m4 := F.called_set.canCreate
  have m5 := F.typeCall_set_1 (.ref l)
  refine wpAny_call (codeAny_of_tree ?_)
  show wpAny _ _ (callAny (.type "set") _) _ _ _
  refine wpAny_pure ⟨Code.quiet_builtin _ (by decide +kernel), codeAny_builtin F.entry_type_call ?_⟩
  rw [Around.under_plain (weight_type_call_type "set" [.ref l] []) rfl]
  repeat (any_goals (first | assumption | wp_step))
  refine codeAny_mono (code_set_led1 (.ref l) (E := E) (Q₁ := fun obj s1 => obj = .ref s.heap.objs.size ∧ s1 = { s with heap := s.heap.push (set0 w) }) ⟨rfl, rfl⟩) fun r s1 hr => ?_
  match r, hr with
  | .error e, hr => exact hr
  | .ok (.ret obj), hr =>
    obtain ⟨rfl, rfl⟩ := hr
    have n1 := F.called_set.init.lookup
    have n2 := F.called_set.init.bind (.ref s.heap.objs.size)
    have ty0 : Shared.TypeIs { s with heap := s.heap.push (set0 w) } (.ref s.heap.objs.size) "set" := ⟨_, Heap.get?_push_size _ rfl, rfl⟩
    repeat (any_goals (first | assumption | wp_step))
    refine codeAny_mono (set_init_L (E := E) ns (by simpa using hh) hl hit hb) fun r2 s2 hr2 => ?_
    match r2, hr2 with
    | .error e, hr2 => exact hr2
    | .ok (.ret r), hr2 =>
      obtain ⟨rfl, D⟩ := hr2
      repeat (any_goals (first | assumption | wp_step))
      exact k _ D
/-- set(xs), sorted(set(xs)) -/
def rSetL (K : PySem.W.Frag) (w : World) : List V → Hp → VK → Prop := fun xs H Q => ∃ (l : Addr) (ns : List Int), xs = [.ref l] ∧ SqL K H l (ns.map V.int) ∧ ns.length ≤ 4000 ∧ ∀ p c, H p = none → c ≤ ns.length → Q (.ref p) (upd H p (SetO w p (fun k => decide (k ∈ ns)) c))
theorem cr_setL {X : Cx} (hc : X.calm = true) : CallR X (.type "set") (rSetL X.K X.w) := by
  intro pins s σ H xs us Q I r h
  obtain ⟨l, ns, rfl, hs, hn, q⟩ := h
  rw [Vals.ref1 r]
  obtain ⟨its, rv, pl, hz⟩ := I.list hs
  refine call_set_L ns (I.ok.hd hc) pl.isList (by simpa using ints_of_vals rv) (by unfold scanBound; omega) fun s2 D => ?_
  obtain ⟨g, tk, c, rfl, R, hc', hk⟩ := D
  have hp : H s.heap.objs.size = none := I.hok.fresh (Nat.le_refl _)
  exact ⟨.ref s.heap.objs.size, _, I.laid (t' := tk) hk (Nat.le_refl _) (setO_new R), rfl, q _ c hp hc'⟩
def SetLK (K : PySem.W.Frag) (w : World) (l : Addr) (H : Hp) (G : Addr → Hp → Prop) : Prop := ∃ ns : List Int, SqL K H l (ns.map V.int) ∧ ns.length ≤ 4000 ∧ ∀ p c, H p = none → c ≤ ns.length → G p (upd H p (SetO w p (fun k => decide (k ∈ ns)) c))
theorem x_mkset {K : PySem.W.Frag} {w : World} {l : Addr} {H : Hp} {Q : VK} : rSetL K w [.ref l] H Q ↔ SetLK K w l H fun p H1 => Q (.ref p) H1 := ⟨fun ⟨_, ns, e, r⟩ => by cases e; exact ⟨ns, r⟩, fun ⟨ns, r⟩ => ⟨l, ns, rfl, r⟩⟩
theorem SetLK.of {K : PySem.W.Frag} {w : World} {B H : Hp} {lg : List (Addr × HO)} {l : Addr} {ns : List Int} {G : Addr → Hp → Prop} (L : Led B H lg) (h : SqL K H l (ns.map V.int)) (hn : ns.length ≤ 4000) (k : ∀ p c H1, c ≤ ns.length → Led B H1 ((p, SetO w p (fun k => decide (k ∈ ns)) c) :: lg) → G p H1) : SetLK K w l H G :=
  ⟨ns, h, hn, fun p c hp hc => k p c _ hc (L.new hp)⟩
/-- sorted(a set of ints) -/
def SrtSK (w : World) (a : Addr) (H : Hp) (G : Addr → Hp → Prop) : Prop := ∃ (S : Int → Bool) (n : Nat), H a = some (SetO w a S n) ∧ n < 64 ∧ ∀ ns : List Int, ns.Pairwise (· < ·) → (∀ k : Int, k ∈ ns ↔ S k = true) → ns.length = n → NewK (.lst (ns.map V.int)) H G
theorem x_srtS {w : World} {a : Addr} {H : Hp} {Q : VK} : rSortedSet w [.ref a] H Q ↔ SrtSK w a H fun p H1 => Q (.ref p) H1 := ⟨fun ⟨_, S, n, e, h1, h2, q⟩ => by cases e; exact ⟨S, n, h1, h2, fun ns a b c p hp => q ns p a b c hp⟩, fun ⟨S, n, h1, h2, q⟩ => ⟨a, S, n, rfl, h1, h2, fun ns p a b c hp => q ns a b c p hp⟩⟩
theorem SrtSK.of {w : World} {B H : Hp} {lg : List (Addr × HO)} {a : Addr} {xs : List Int} {c : Nat} {G : Addr → Hp → Prop} (L : Led B H ((a, SetO w a (fun k => decide (k ∈ xs)) c) :: lg)) (hc : c < 64) (k : ∀ (ns : List Int) (p : Addr) (H1 : Hp), ns.Pairwise (· < ·) → (∀ k : Int, k ∈ ns ↔ k ∈ xs) → Led B H1 ((p, .lst (ns.map V.int)) :: lg) → G p H1) : SrtSK w a H G :=
  ⟨_, c, L.at List.mem_cons_self, hc, fun ns h1 h2 _ => NewK.of L fun p H1 L => k ns p H1 h1 (fun k => (h2 k).trans decide_eq_true_iff) (L.sel (.cons .hd (.skip .all)))⟩
/-! ### loops over more than lists -/
section
variable {K : PySem.W.Frag} {g : TG} {tb : TS} {D : Ends} {σ : L2.St} {H : Hp} {a b : Addr} {xs ys : List V}
theorem loop_gen {J : It} (n : Nat) (Pv : Nat → L2.St → Hp → Prop) (h0 : Pv 0 σ H)
    (hn : ∀ σ' H', Pv n σ' H' → J.stop n H' ∧ D.nx σ' H')
    (hs : ∀ i σ' H', i < n → Pv i σ' H' → J.go i H' ∧ ∀ x H2, J.yld i H' x H2 → g x σ' H2 fun σ2 H3 => tb { D with nx := fun s h => Pv (i + 1) s h, ct := fun s h => Pv (i + 1) s h, bk := D.nx } σ2 H3) : LoopK J g tb D σ H := by
  refine ⟨fun i m σ' H' => m = n - i ∧ i ≤ n ∧ Pv i σ' H', ⟨n, rfl, Nat.zero_le _, h0⟩, ?_⟩
  rintro i m σ' H' ⟨rfl, hi, r⟩
  by_cases c : i < n
  · obtain ⟨r1, r2⟩ := hs i σ' H' c r
    exact Or.inr ⟨r1, fun σ2 H'' => Pv (i + 1) σ2 H'', fun σ2 H'' z => ⟨n - (i + 1), by omega, rfl, c, z⟩, fun x H2 y => r2 x H2 y⟩
  · have e : i = n := by omega
    subst e
    exact Or.inl (hn σ' H' r)
theorem loop_zip (hl : xs.length = ys.length) (Pv : Nat → L2.St → Hp → Prop) (h0 : Pv 0 σ H) (hq : ∀ i σ' H', Pv i σ' H' → SqL K H' a xs ∧ SqL K H' b ys)
    (hs : ∀ i x y σ' H' (N : L2.St → Hp → Prop), xs[i]? = some x → ys[i]? = some y → Pv i σ' H' → (∀ σ2 H2, Pv (i + 1) σ2 H2 → N σ2 H2) → NewK (.tup [x, y]) H' fun t H2 => g (.ref t) σ' H2 fun σ2 H3 => tb { D with nx := N, ct := N, bk := D.nx } σ2 H3)
    (hd : ∀ σ' H', Pv xs.length σ' H' → D.nx σ' H') : LoopK (Itz K a b) g tb D σ H := by
  refine loop_gen xs.length Pv h0 (fun σ' H' r => ⟨?_, hd σ' H' r⟩) fun i σ' H' hi r => ?_
  · obtain ⟨q1, q2⟩ := hq _ _ _ r
    exact ⟨xs, ys, q1, q2, Or.inl (Nat.le_refl _)⟩
  · obtain ⟨q1, q2⟩ := hq _ _ _ r
    have hi2 : i < ys.length := by omega
    refine ⟨⟨xs, ys, _, _, q1, q2, List.getElem?_eq_getElem hi, List.getElem?_eq_getElem hi2⟩, ?_⟩
    rintro v H2 ⟨T, x, y, rfl, hT, rfl, f1, f2⟩
    exact hs i x y σ' _ _ (f1 xs q1) (f2 ys q2) r (fun σ2 H3 z => z) T hT
theorem loop_enum (Pv : Nat → L2.St → Hp → Prop) (h0 : Pv 0 σ H) (hq : ∀ i σ' H', Pv i σ' H' → SqL K H' a xs)
    (hs : ∀ i x σ' H' (N : L2.St → Hp → Prop), xs[i]? = some x → Pv i σ' H' → (∀ σ2 H2, Pv (i + 1) σ2 H2 → N σ2 H2) → NewK (.tup [.int (i : Nat), x]) H' fun t H2 => g (.ref t) σ' H2 fun σ2 H3 => tb { D with nx := N, ct := N, bk := D.nx } σ2 H3)
    (hd : ∀ σ' H', Pv xs.length σ' H' → D.nx σ' H') : LoopK (Ite K a) g tb D σ H := by
  refine loop_gen xs.length Pv h0 (fun σ' H' r => ⟨⟨xs, hq _ _ _ r, Nat.le_refl _⟩, hd σ' H' r⟩) fun i σ' H' hi r => ?_
  refine ⟨⟨xs, xs[i], hq _ _ _ r, List.getElem?_eq_getElem hi⟩, ?_⟩
  rintro v H2 ⟨t, x, rfl, ht, rfl, hx⟩
  exact hs i x σ' _ _ (hx xs (hq _ _ _ r)) r (fun σ2 H3 z => z) t ht
end
theorem k_cxw {C : CXT} {P : Program} {w : World} {K : PySem.W.Frag} {mg : Str → Option Value} {bs : Heap} {N : List Str} {qual : Str} {sc : Scope} {f : Addr} {cd : Value} {A : Around} {fr : List Env} {s : Shared} {H : Hp} {E : XK} :
    (cxOf C P w K mg bs N qual sc f cd A fr s H E).w = w := rfl
end Vg


set_option Elab.async false
set_option linter.all false
set_option maxRecDepth 100000
set_option maxHeartbeats 2000000
namespace Vg
open PySem PySem.Spec PyProof.Rows L2
/-! ### {(..): v} -/
def tD1T (tk tv : TE) : TE := fun σ H Q => ∀ p, H p = none → tk σ (upd H p (.dT [])) fun y H1 => tv σ H1 fun v H2 => ∃ (k : List Key) (b : Addr), y = .ref b ∧ H2 p = some (.dT []) ∧ H2 b = some (.tup (k.map kV)) ∧ Q (.ref p) (upd H2 p (.dT [(k, v)]))
theorem pe_d1T {X : Cx} {pos : Pos} {k e : Expr} {tk tv : TE} (hu : X.A.units + 1 < cLine) (hk : PE X k tk) (he : PE X e tv) : PE X (.Dict [some k] [e] pos) (tD1T tk tv) := by
  refine ⟨fun pins s σ H Q I q => ?_⟩
  have hn := I.hok.fresh (Nat.le_refl s.heap.objs.size)
  have I1 := I.laid (a := s.heap.objs.size) (o := .dT []) (h' := s.heap.push { cls := .type "dict", data := .dict #[] }) (t' := s.toks) (fun _ _ q => Heap.get?_push_of_some _ q) (Nat.le_refl _) (dt_empty s.heap I.big)
  refine wpAny_Dict_any rfl rfl (fun z => by cases z) (show 1 ≤ 15 by decide) (pairTrees_cons_walk (thn (hk.run pins _ σ _ _ I1 (q _ hn)) fun u s1 ⟨y, H1, I2, ry, q1⟩ =>
    thn (he.run pins s1 σ H1 _ I2 q1) fun w2 s2 ⟨v, H2, I3, rv, kk, b, ey, e1, e2, q2⟩ => pairTrees_nil_walk ?_))
  subst ey
  cases (show u = Value.ref b from ry)
  obtain ⟨z, hd, xs, rel, dd⟩ := dt_of I3.hok e1
  cases rel
  unfold storeAll
  rw [List.forIn_cons]
  refine wpAny_bind (wpAny_bind (wpAny_dictSet_heap (hsz := by decide) (knd := tupleKind (mixKind X.prog X.w)) (by show X.A.units < cLine; omega) (key_of I3.hok e2) dd fun h' dd' hs => wpAny_pure ?_))
  dsimp only
  rw [List.forIn_nil]
  refine wpAny_pure ⟨.ref s.heap.objs.size, _, ?_, rfl, q2⟩
  obtain ⟨o, es, ep, hq, h2, h3, h4, _, h5⟩ := dd'
  refine d_write I3 (by rw [e1]; exact True.intro) hs ⟨o, hq⟩ ⟨show 1 ≤ sizeLine by decide, hd, _, ((KT.put (kvs := []) (xs := []) (y := v) .nil kk e2 rv).keeps fun c ys ec => ?_), o, es, ep, hq, h2, h3, h4, h5⟩
  rw [upd_ne (ne_of ec e1 (fun z => nomatch z))]
  exact ec
/-! ### for k, v in d.items(), the keys tuples: the dict stays locked behind -/
section
variable {X : Cx} {pins : List (Addr × Obj)} {σ : L2.St} {H : Hp} {s : Shared} {d : Addr} {o : Obj}
theorem Inv.frzTv {kvs : List (List Key × V)} (I : L2.Inv X pins σ H s) (h : H d = some (.frz o (.dT kvs))) :
    (d == sysModules) = false ∧ s.heap.get? d = some o ∧ o.ExactDict ∧ ∃ (es : Array DictEntry) (ep : Nat), o.data = .dict es ep ∧ es.size = kvs.length ∧
      ∀ (i : Nat) (k : List Key) (v : V), kvs[i]? = some (k, v) → ∃ (en : DictEntry) (q : Addr), es[i]? = some en ∧ en.key = .ref q ∧ RelV v en.val ∧ H q = some (.tup (k.map kV)) := by
  obtain ⟨hd, z, hs, xs, pr, o', es, ep, ho, hx, hdt, he, _⟩ := I.hok d _ h
  rw [hd] at ho
  cases ho
  refine ⟨hs, hd, hx, es, ep, hdt, ?_, fun i k v e => ?_⟩
  · have l1 : es.size = xs.length := size_of_entries he
    have l2 : kvs.length = xs.length := Paired.length pr
    omega
  · obtain ⟨b, hb, e1, e2, e3⟩ := paired_get pr e
    have q := entry_at he i
    rw [hb] at q
    exact ⟨_, b.2.1, q, rfl, e3, e2⟩
end
/-- the pairs, each a new tuple over the key's own tuple -/
def Itit (d : Addr) (o : Obj) (kvs : List (List Key × V)) : It :=
  ⟨fun i H => H d = some (.frz o (.dT kvs)) ∧ i < kvs.length, fun i H x H' => ∃ T k v q, kvs[i]? = some (k, v) ∧ x = .ref T ∧ H T = none ∧ H q = some (.tup (k.map kV)) ∧ H' = upd H T (.tup [.ref q, v]), fun i H => H d = some (.frz o (.dT kvs)) ∧ kvs.length ≤ i⟩
theorem turn_itemsT {P : Program} {w : World} {K : PySem.W.Frag} {d : Addr} {o : Obj} {es : Array DictEntry} {ep : Nat} {kvs : List (List Key × V)} {elts : List Expr} {kk : Nat} {tpos : Pos} (it : Addr) (hod : o.data = .dict es ep) :
    Turn P w K (.Tuple elts kk tpos) (Itit d o kvs) [it] it (fun i h => ∃ ok ov, IsItemIter h it d i kvs.length ep ok ov) where
  mem := by simp
  obj := fun i h st b hb => by
    have e : b = it := by simpa using hb
    subst e
    obtain ⟨ok, ov, e⟩ := st
    exact ⟨_, e, fun v z => nomatch z⟩
  keep := fun i h h' st k => let ⟨ok, ov, e⟩ := st; ⟨ok, ov, k it (by simp) _ e⟩
  item := by
    intro X hP hw hK hc i pins s σ H E I hf st hg
    subst hP hw hK
    obtain ⟨hd, hi⟩ := hg
    obtain ⟨hs, hgd, hx, es', ep', hdt, hsz, ent⟩ := Inv.frzTv I hd
    obtain ⟨rfl, rfl⟩ := dict_ep hod hdt
    obtain ⟨⟨k, v⟩, hkv⟩ : ∃ p, kvs[i]? = some p := ⟨kvs[i], List.getElem?_eq_getElem hi⟩
    obtain ⟨en, q, hen, hkey, hval, hq⟩ := ent i k v hkv
    obtain ⟨ok, ov, he⟩ := st
    rw [← hsz] at he
    have hlt : it < s.heap.objs.size := Heap.lt_size he
    have hi2 : i < es'.size := by omega
    have een : es'[i] = en := by rw [Array.getElem?_eq_getElem hi2] at hen; exact Option.some.inj hen
    refine DT.nextI he ⟨_, hgd, hx, hdt⟩ hi2 fun h' ho hT hz hk => ?_
    rw [een, hkey] at ho hT
    refine ⟨_, rfl, wpAny_letOwnedTupleGo_items (s := { s with heap := h' }) ho fun h'' he' sb => ?_⟩
    have hT2 : h''.get? s.heap.objs.size = some { cls := .type "tuple", data := .seq #[.ref q, en.val] } := (sb.2 _ (Nat.ne_of_gt hlt)).trans hT
    have new : ObjOk X.prog X.w (upd H s.heap.objs.size (.tup [.ref q, v])) h'' s.heap.objs.size (.tup [.ref q, v]) :=
      ⟨by show 2 ≤ sizeLine; decide, [.ref q, en.val], .cons rfl (.cons hval .nil), ⟨_, hT2, rfl, _, rfl⟩⟩
    have I1 : L2.Inv X pins σ (upd H s.heap.objs.size (.tup [.ref q, v])) { s with heap := h'' } :=
      I.turnedNew (t' := s.toks) (ch := [it]) (fun b ob hb e => (sb.2 b (by simpa using hb)).trans (hk b ob (by simpa using hb) e)) hf (Nat.le_refl _) new
    refine ⟨.ref s.heap.objs.size, _, I1, rfl, ⟨_, k, v, q, hkv, rfl, I.hok.fresh (Nat.le_refl _), hq, rfl⟩, ⟨.ref q, en.val, ?_⟩, fun b hb => ?_⟩
    · rw [← hsz]; exact he'
    · have e : b = it := by simpa using hb
      rw [e, upd_ne (Nat.ne_of_lt hlt)]
      exact (hf it (by simp)).1
  done := by
    intro X hP hw hK hc i pins s σ H E I hf st hg
    subst hP hw hK
    obtain ⟨hd, hi⟩ := hg
    obtain ⟨f0, f1, f2, f3, f4, f5⟩ := hf it (by simp)
    obtain ⟨hs, hgd, hx, es', ep', hdt, hsz, ent⟩ := Inv.frzTv I hd
    obtain ⟨rfl, rfl⟩ := dict_ep hod hdt
    obtain ⟨ok, ov, he⟩ := st
    rw [← hsz] at he
    exact DT.endI (I.ok.hd hc) he ⟨_, hgd, hx, hdt⟩ (by omega) fun h' eb => ⟨rfl, I.turned (t' := s.toks) (fun b ob hb e => eb b ob hb e) f0 f1 f3 f4 f5⟩
  self := fun A i s Q E st h => let ⟨_, _, e⟩ := st; PySem.W.kcp_self e h
def iItemsN (td : TE) : TI := fun σ H R => td σ H fun x H1 => ∃ d kvs, x = .ref d ∧ H1 d = some (.dT kvs) ∧ ∀ o, R (Itit d o kvs) (upd H1 d (.frz o (.dT kvs)))
theorem pi_itemsN {X : Cx} {e : Expr} {td : TE} {apos cpos : Pos} {elts : List Expr} {kk : Nat} {tpos : Pos} (he : PE X e td) (hbase : attributeBase e "items" X.env (eval e X.env) = eval e X.env := by rfl) (hline : (apos.endLine == cpos.line) = true := by rfl) :
    PI X (.Tuple elts kk tpos) (.Call (.Attribute e "items" apos) [] [] cpos) (iItemsN td) := by
  refine ⟨fun pins s σ H R I h => ?_⟩
  refine wpAny_Call_method (T := "dict") (id := "dict.items") hbase rfl hline F.plainAttrs_dict F.slot_dict_items F.type_dict_items (thn (he.run pins s σ H _ I h) fun u s1 ⟨x, H1, I1, rx, d, kvs, ex, hd, q⟩ => ?_)
  subst ex
  obtain rfl : u = Value.ref d := rx
  obtain ⟨od, I2⟩ := I1.lock hd True.intro
  have q := q od
  have hfd : (upd H1 d (.frz od (.dT kvs))) d = some (.frz od (.dT kvs)) := upd_same
  obtain ⟨hs, hgd, hx, es, ep, hdt, hsz, ent⟩ := Inv.frzTv I2 hfd
  have hm : DT.Raw s1.heap d es ep := ⟨_, hgd, hx, hdt⟩
  refine ⟨hm.typeIs, fun a e => by cases e; exact ⟨_, hgd, hx.2.1⟩, ?_⟩
  have I3 : L2.Inv X pins σ (upd H1 d (.frz od (.dT kvs))) { s1 with heap := s1.heap.push { cls := .type "dict_items", data := .fields #[.ref d] } } := I2.kept (t' := s1.toks) fun b ob q => Heap.get?_push_of_some _ q
  have fin : wpAny (model X.prog X.w) X.A (pyIter (.ref s1.heap.objs.size)) (PIE X pins σ (.Tuple elts kk tpos) R) X.xe { s1 with heap := s1.heap.push { cls := .type "dict_items", data := .fields #[.ref d] } } := by
    refine DT.iterI (d := d) ⟨_, Heap.get?_push_size _ rfl, rfl, rfl⟩ (hm.push _) (pi_one (tk := s1.toks) I3 _ (turn_itemsT _ hdt) ⟨.none, .none, ?_⟩ q)
    rw [← hsz]
    exact Heap.get?_push_size _ rfl
  show wpAny _ _ (callWith cpos (.builtin "dict.items") [.ref d] [] []) _ X.xe s1
  exact method_meetsIn F.slot_dict_items F.entry_dict_items rfl (PySem.evalArgs_none ⟨rfl, hm.typeIs, F.args_dict_items_1 _, _, DT.meetsItems hs, ⟨hm, fin⟩⟩)
/-- for k in d, the dict locked behind -/
def iKeysN (td : TE) : TI := fun σ H R => td σ H fun x H1 => ∃ d kvs, x = .ref d ∧ H1 d = some (.dT kvs) ∧ ∀ o, R (Itkt d o kvs) (upd H1 d (.frz o (.dT kvs)))
theorem pi_keysN {X : Cx} {tg e : Expr} {td : TE} (he : PE X e td) : PI X tg e (iKeysN td) := by
  refine ⟨fun pins s σ H R I h => ?_⟩
  refine thn (he.run pins s σ H _ I h) fun u s1 ⟨x, H1, I1, rx, d, kvs, ex, hd, q⟩ => ?_
  subst ex
  obtain rfl : u = Value.ref d := rx
  obtain ⟨od, I2⟩ := I1.lock hd True.intro
  have q := q od
  have hfd : (upd H1 d (.frz od (.dT kvs))) d = some (.frz od (.dT kvs)) := upd_same
  obtain ⟨hs, hgd, hx, es, ep, hdt, hsz, ent⟩ := I2.frzT hfd
  refine iter_keys hs hgd hx hdt (pi_one (tk := s1.toks) I2 _ (turn_keysT _ hdt) ⟨_, Heap.get?_push_size _ rfl, rfl, ?_⟩ q)
  rw [hsz] <;> rfl
section
variable {B H : Hp} {l l' : List (Addr × HO)} {p d : Addr} {o : HO} {od : Obj} {kvs : List (List Key × V)} {σ : L2.St} {td : TE} {R : It → Hp → Prop}
/-- walked dicts of the ledger -/
def WlkK (d : Addr) (H : Hp) (G : List (List Key × V) → Obj → Hp → Prop) : Prop := ∃ kvs, H d = some (.dT kvs) ∧ ∀ o, G kvs o (upd H d (.frz o (.dT kvs)))
theorem i_itemsN : iItemsN td σ H R = td σ H fun x H1 => ∃ d, x = .ref d ∧ WlkK d H1 fun kvs o H2 => R (Itit d o kvs) H2 := propext (by
  unfold iItemsN WlkK
  exact Iff.of_eq (congrArg (td σ H) (funext fun x => funext fun H1 => propext ⟨fun ⟨d, kvs, e, h⟩ => ⟨d, e, kvs, h⟩, fun ⟨d, e, kvs, h⟩ => ⟨d, kvs, e, h⟩⟩)))
theorem i_keysN : iKeysN td σ H R = td σ H fun x H1 => ∃ d, x = .ref d ∧ WlkK d H1 fun kvs o H2 => R (Itkt d o kvs) H2 := propext (by
  unfold iKeysN WlkK
  exact Iff.of_eq (congrArg (td σ H) (funext fun x => funext fun H1 => propext ⟨fun ⟨d, kvs, e, h⟩ => ⟨d, e, kvs, h⟩, fun ⟨d, e, kvs, h⟩ => ⟨d, kvs, e, h⟩⟩)))
theorem WlkK.of {G : List (List Key × V) → Obj → Hp → Prop} {l'' : Obj → List (Addr × HO)} (L : Led B H l) (m : (d, HO.dT kvs) ∈ l) (t : ∀ o, Put l d (.frz o (.dT kvs)) (l'' o)) (k : ∀ o H1, Led B H1 (l'' o) → G kvs o H1) : WlkK d H G :=
  ⟨kvs, L.at m, fun o => k o _ (L.put (t o))⟩
/-- a tuple that stands joins what is kept -/
theorem Led.grab {xs : List V} (L : Led B H l) (h : H p = some (.tup xs)) (hl : ∀ e ∈ l, ∀ ys, e.2 ≠ .tup ys) : ∃ B', Same B B' ∧ B' p = some (.tup xs) ∧ Led B' H l := by
  have ne : ∀ e ∈ l, e.1 ≠ p := fun e he z => by
    have h2 := L.hs e he
    rw [z, h] at h2
    exact hl e he xs (Option.some.inj h2).symm
  refine ⟨upd B p (.tup xs), fun a o z => ?_, upd_same, ⟨fun a o z => ?_, L.nd, fun e he => ?_, L.hs⟩⟩
  · by_cases c : a = p
    · subst c
      rw [upd_same]
      have := L.sm _ _ z
      rw [h] at this
      exact this
    · rw [upd_ne c]; exact z
  · by_cases c : a = p
    · subst c
      rw [upd_same] at z
      rw [← z]; exact h
    · rw [upd_ne c] at z
      exact L.sm _ _ z
  · rw [upd_ne (ne e he)]; exact L.fr e he
end
section
variable {K : PySem.W.Frag} {g : TG} {tb : TS} {D : Ends} {σ : L2.St} {H : Hp} {d : Addr} {o : Obj} {kvs : List (List Key × V)}
theorem loop_itemsT (Pv : Nat → L2.St → Hp → Prop) (h0 : Pv 0 σ H) (hq : ∀ i σ' H', Pv i σ' H' → H' d = some (.frz o (.dT kvs)))
    (hs : ∀ i k v q σ' H' (N : L2.St → Hp → Prop), kvs[i]? = some (k, v) → Pv i σ' H' → H' q = some (.tup (k.map kV)) → (∀ σ2 H2, Pv (i + 1) σ2 H2 → N σ2 H2) → NewK (.tup [.ref q, v]) H' fun t H2 => g (.ref t) σ' H2 fun σ2 H3 => tb { D with nx := N, ct := N, bk := D.nx } σ2 H3)
    (hd : ∀ σ' H', Pv kvs.length σ' H' → D.nx σ' H') : LoopK (Itit d o kvs) g tb D σ H := by
  refine loop_gen kvs.length Pv h0 (fun σ' H' r => ⟨⟨hq _ _ _ r, Nat.le_refl _⟩, hd σ' H' r⟩) fun i σ' H' hi r => ⟨⟨hq _ _ _ r, hi⟩, ?_⟩
  rintro x H2 ⟨T, k, v, q, hkv, rfl, hT, hqq, rfl⟩
  exact hs i k v q σ' _ _ hkv r hqq (fun σ2 H3 z => z) T hT
theorem loop_keysT (Pv : Nat → L2.St → Hp → Prop) (h0 : Pv 0 σ H) (hq : ∀ i σ' H', Pv i σ' H' → H' d = some (.frz o (.dT kvs)))
    (hs : ∀ i k v q σ' H' (N : L2.St → Hp → Prop), kvs[i]? = some (k, v) → Pv i σ' H' → H' q = some (.tup (k.map kV)) → (∀ σ2 H2, Pv (i + 1) σ2 H2 → N σ2 H2) → g (.ref q) σ' H' fun σ2 H3 => tb { D with nx := N, ct := N, bk := D.nx } σ2 H3)
    (hd : ∀ σ' H', Pv kvs.length σ' H' → D.nx σ' H') : LoopK (Itkt d o kvs) g tb D σ H := by
  refine loop_gen kvs.length Pv h0 (fun σ' H' r => ⟨⟨hq _ _ _ r, Nat.le_refl _⟩, hd σ' H' r⟩) fun i σ' H' hi r => ⟨⟨hq _ _ _ r, hi⟩, ?_⟩
  rintro x H2 ⟨rfl, k, v, q, hkv, rfl, hqq⟩
  exact hs i k v q σ' _ _ hkv r hqq (fun σ2 H3 z => z)
end
/-! ### zip of a tuple and a list -/
def ItzTL (K : PySem.W.Frag) (a b : Addr) : It :=
  ⟨fun i H => ∃ (xs ys : List V) (x y : V), SqT K H a xs ∧ SqL K H b ys ∧ xs[i]? = some x ∧ ys[i]? = some y,
    fun i H v H' => ∃ T x y, v = .ref T ∧ H T = none ∧ H' = upd H T (.tup [x, y]) ∧ (∀ xs, SqT K H a xs → xs[i]? = some x) ∧ ∀ ys, SqL K H b ys → ys[i]? = some y,
    fun i H => ∃ xs ys : List V, SqT K H a xs ∧ SqL K H b ys ∧ i = min xs.length ys.length⟩
theorem turn_zipTL {P : Program} {w : World} {K : PySem.W.Frag} {elts : List Expr} {kk : Nat} {tpos : Pos} {a b z TI TO i1 i2 : Addr} (D : ZipSep2 z TI TO i1 i2 [i1, a] [i2, b]) (ha : a ≠ i1) (hb : b ≠ i2) :
    Turn P w K (.Tuple elts kk tpos) (ItzTL K a b) [z, TI, TO, i1, i2] z (fun i h => IsZip h z TI TO .none ∧ IsTupOf2 h TI (.ref i1) (.ref i2) ∧ (∃ x y, IsTupOf2 h TO x y) ∧ h.IsTupleIter i1 a i ∧ h.IsListIter i2 b i) where
  mem := by simp
  obj := fun i h st c hc => by
    obtain ⟨hz, hTI, ⟨x, y, hTO⟩, ⟨o1, e1, _, d1⟩, ⟨o2, e2, _, d2⟩⟩ := st
    have e' : c = z ∨ c = TI ∨ c = TO ∨ c = i1 ∨ c = i2 := by simpa using hc
    rcases e' with q | q | q | q | q
    · rw [q]; exact ⟨_, hz, fun v q => nomatch q⟩
    · rw [q]; exact ⟨_, hTI, fun v q => nomatch q⟩
    · rw [q]; exact ⟨_, hTO, fun v q => nomatch q⟩
    · rw [q]; exact ⟨o1, e1, fun v q => by rw [d1] at q; cases q⟩
    · rw [q]; exact ⟨o2, e2, fun v q => by rw [d2] at q; cases q⟩
  keep := fun i h h' st k => by
    obtain ⟨hz, hTI, ⟨x, y, hTO⟩, h1, h2⟩ := st
    exact ⟨k z (by simp) _ hz, k TI (by simp) _ hTI, ⟨x, y, k TO (by simp) _ hTO⟩, h1.at fun o q => k i1 (by simp) o q, h2.at fun o q => k i2 (by simp) o q⟩
  item := by
    intro X hP hw hK hc i pins s σ H E I hf st hg
    subst hP hw hK
    obtain ⟨hz, hTI, ⟨x0, y0, hTO⟩, h1, h2⟩ := st
    obtain ⟨xs, ys, x, y, hqx, hqy, hx, hy⟩ := hg
    obtain ⟨its, rv, p, _⟩ := I.tuple hqx
    obtain ⟨its2, rv2, p2, _⟩ := I.list hqy
    obtain ⟨u, hu, ru⟩ := rv.get hx
    obtain ⟨u2, hu2, ru2⟩ := rv2.get hy
    have hzl : z < s.heap.objs.size := Heap.lt_size hz
    have hh : X.A.in1.handled = none := I.ok.hd hc
    have st1 : s.heap.IsTupleIter i1 a i ∧ s.heap.IsTuple a its.toArray := ⟨h1, p⟩
    have st2 : s.heap.IsListIter i2 b i ∧ s.heap.IsList b its2.toArray := ⟨h2, p2.isList⟩
    have n1 : i < its.toArray.size := by have := (List.getElem?_eq_some_iff.mp hu).1; simpa using this
    have n2 : i < its2.toArray.size := by have := (List.getElem?_eq_some_iff.mp hu2).1; simpa using this
    refine wpAny_pyNext_zipD2_item D (Draws.tuple hh i1 a ha its.toArray) (Draws.list hh i2 b hb its2.toArray) hz hTI hTO st1 st2 n1 n2 fun x1 x2 h' tk e1 e2 z' TO' s1' s2' hT hsz hk => ?_
    obtain rfl : x1 = u := by
      have e1 : its.toArray[i]? = some x1 := e1
      rw [List.getElem?_toArray, hu] at e1
      exact (Option.some.inj e1).symm
    obtain rfl : x2 = u2 := by
      have e2 : its2.toArray[i]? = some x2 := e2
      rw [List.getElem?_toArray, hu2] at e2
      exact (Option.some.inj e2).symm
    refine ⟨_, rfl, wpAny_letOwnedTupleGo_zip (s := { s with heap := h', toks := tk }) z' fun h'' z'' sb => ?_⟩
    have hT2 : h''.get? s.heap.objs.size = some { cls := .type "tuple", data := .seq #[x1, x2] } := (sb.2 _ (Nat.ne_of_gt hzl)).trans hT
    have new : ObjOk X.prog X.w (upd H s.heap.objs.size (.tup [x, y])) h'' s.heap.objs.size (.tup [x, y]) :=
      ⟨by show 2 ≤ sizeLine; decide, [x1, x2], .cons ru (.cons ru2 .nil), ⟨_, hT2, rfl, _, rfl⟩⟩
    have I1 : L2.Inv X pins σ (upd H s.heap.objs.size (.tup [x, y])) { s with heap := h'', toks := tk } :=
      I.turnedNew (t' := tk) (ch := [z, TI, TO, i1, i2]) (fun c o hb q => (sb.2 c (fun q' => hb (by simp [q']))).trans (hk c o (fun q' => hb (by simp [q'])) (fun q' => hb (by simp [q'])) (fun q' => hb (by simp [q'])) (fun q' => hb (by simp [q'])) q)) hf (Nat.le_refl _) new
    refine ⟨.ref s.heap.objs.size, _, I1, rfl, ⟨_, x, y, rfl, I.hok.fresh (Nat.le_refl _), rfl, fun l hl => by rw [I.tuple_inj hl hqx]; exact hx, fun l hl => by rw [I.list_inj hl hqy]; exact hy⟩, ⟨z'', ?_, ⟨x1, x2, ?_⟩, ?_, ?_⟩, fun c hcm => ?_⟩
    · exact (sb.2 _ D.TIz).trans (hk _ _ D.TIz D.TITO D.TIi1 D.TIi2 hTI)
    · exact (sb.2 _ D.TOz).trans TO'
    · exact s1'.1.at fun o q => (sb.2 _ (Ne.symm D.zi1)).trans q
    · exact s2'.1.at fun o q => (sb.2 _ (Ne.symm D.zi2)).trans q
    · have hlt : c < s.heap.objs.size := by
        have e' : c = z ∨ c = TI ∨ c = TO ∨ c = i1 ∨ c = i2 := by simpa using hcm
        rcases e' with q | q | q | q | q
        · rw [q]; exact hzl
        · rw [q]; exact Heap.lt_size hTI
        · rw [q]; exact Heap.lt_size hTO
        · rw [q]; obtain ⟨_, e1, _⟩ := h1; exact Heap.lt_size e1
        · rw [q]; obtain ⟨_, e2, _⟩ := h2; exact Heap.lt_size e2
      rw [upd_ne (Nat.ne_of_lt hlt)]
      exact (hf c hcm).1
  done := by
    intro X hP hw hK hc i pins s σ H E I hf st hg
    subst hP hw hK
    obtain ⟨hz, hTI, ⟨x0, y0, hTO⟩, h1, h2⟩ := st
    obtain ⟨xs, ys, hqx, hqy, hend⟩ := hg
    obtain ⟨its, rv, p, _⟩ := I.tuple hqx
    obtain ⟨its2, rv2, p2, _⟩ := I.list hqy
    have l1 := rv.length
    have l2 := rv2.length
    have hh : X.A.in1.handled = none := I.ok.hd hc
    have st1 : s.heap.IsTupleIter i1 a i ∧ s.heap.IsTuple a its.toArray := ⟨h1, p⟩
    have st2 : s.heap.IsListIter i2 b i ∧ s.heap.IsList b its2.toArray := ⟨h2, p2.isList⟩
    exact wpAny_pyNext_zipD2_end D (Draws.tuple hh i1 a ha its.toArray) (Draws.list hh i2 b hb its2.toArray) hz hTI hTO st1 st2 (by simp; omega) (by simp; omega) (by simp; omega) fun h' tk hk => ⟨rfl, I.turnedL (t' := tk) (ch := [z, TI, TO, i1, i2]) (fun c o hb q =>
      hk c o (fun q' => hb (by simp [q'])) (fun q' => hb (by simp [q'])) (fun q' => hb (by simp [q'])) (fun q' => hb (by simp [q'])) q) hf⟩
  self := fun A i s Q E st h => wpAny_pyIter_zip st.1 h
def iZipTL (K : PySem.W.Frag) (ta : TA) : TI := fun σ H R => ta σ H fun vs H1 => ∃ a b xs ys, vs = [.ref a, .ref b] ∧ SqT K H1 a xs ∧ SqL K H1 b ys ∧ R (ItzTL K a b) H1
theorem pi_zipTL {X : Cx} {e e2 : Expr} {ta : TA} {p pos tpos : Pos} {elts : List Expr} {kk : Nat} (hg : Gl X "zip") (hm : X.mg "zip" = none) (ha : PA X [e, e2] ta)
    (hs : starEach [e, e2] X.env = (false, eval e X.env) :: starEach [e2] X.env := by rfl) (hpl : (backTo pos (starEach [e2] X.env)).any (·.1) = false := by rfl) :
    PI X (.Tuple elts kk tpos) (.Call (.Name "zip" p) [e, e2] [] pos) (iZipTL X.K ta) := by
  refine ⟨fun pins s σ H R I h => ?_⟩
  refine Call_ (ld_blt I hg hm PyProof.Rows.boot_zip (PyProof.Rows.callWith_type1 (thn (ha.run pos pins s σ H _ I h) fun us s1 ⟨vs, H1, I1, r1, q1⟩ => ?_) hs hpl))
  obtain ⟨a, b, xs, ys, ex, hqx, hqy, q⟩ := q1
  subst ex
  cases r1 with
  | cons r rr =>
    cases rr with
    | cons r' rr =>
      cases rr
      cases r
      cases r'
      obtain ⟨its, rv, p1, _⟩ := I1.tuple hqx
      obtain ⟨its2, rv2, p2, _⟩ := I1.list hqy
      have la : a < s1.heap.objs.size := p1.lt
      have lb : b < s1.heap.objs.size := p2.lt
      refine zip_begins2 (begins_tuple a its.toArray) (begins_list b its2.toArray) p1 p2.isList fun h' hz hTI hTO h1 h2 hsz hk => wpAny_pyIter_zip hz ?_
      have I2 : L2.Inv X pins σ H1 { s1 with heap := h' } := I1.kept (t' := s1.toks) hk
      refine ⟨s1.heap.objs.size + 4, [s1.heap.objs.size + 4, s1.heap.objs.size + 2, s1.heap.objs.size + 3, s1.heap.objs.size, s1.heap.objs.size + 1], _, _, H1, rfl, I2, turn_zipTL (zip_sep2 (fun c hc => by rw [List.mem_singleton.mp hc]; exact la) (fun c hc => by rw [List.mem_singleton.mp hc]; exact lb)) (Nat.ne_of_lt la) (Nat.ne_of_lt (Nat.lt_succ_of_lt lb)), ⟨hz, hTI, ⟨_, _, hTO⟩, ⟨_, h1, rfl, rfl⟩, ⟨_, h2, rfl, rfl⟩⟩, fun c hcm => ?_, q⟩
      have e' : c = s1.heap.objs.size + 4 ∨ c = s1.heap.objs.size + 2 ∨ c = s1.heap.objs.size + 3 ∨ c = s1.heap.objs.size ∨ c = s1.heap.objs.size + 1 := by simpa using hcm
      have hle : s1.heap.objs.size ≤ c := by
        rcases e' with z | z | z | z | z
        · rw [z]; exact Nat.le_add_right _ _
        · rw [z]; exact Nat.le_add_right _ _
        · rw [z]; exact Nat.le_add_right _ _
        · rw [z]; exact Nat.le_refl _
        · rw [z]; exact Nat.le_add_right _ _
      exact I1.fpOk hle (I1.hok.fresh hle)
section
variable {K : PySem.W.Frag} {g : TG} {tb : TS} {D : Ends} {σ : L2.St} {H : Hp} {a b : Addr} {xs ys : List V} {ta : TA} {R : It → Hp → Prop}
theorem i_zipTL : iZipTL K ta σ H R = ta σ H fun vs H1 => ∃ a b, vs = [.ref a, .ref b] ∧ (∃ xs, SqT K H1 a xs) ∧ (∃ ys, SqL K H1 b ys) ∧ R (ItzTL K a b) H1 := propext (by
  unfold iZipTL
  exact Iff.of_eq (congrArg (ta σ H) (funext fun x => funext fun H1 => propext ⟨fun ⟨a, b, xs, ys, e, h1, h2, h3⟩ => ⟨a, b, e, ⟨xs, h1⟩, ⟨ys, h2⟩, h3⟩, fun ⟨a, b, e, ⟨xs, h1⟩, ⟨ys, h2⟩, h3⟩ => ⟨a, b, xs, ys, e, h1, h2, h3⟩⟩)))
theorem loop_zipTL (hl : xs.length = ys.length) (Pv : Nat → L2.St → Hp → Prop) (h0 : Pv 0 σ H) (hq : ∀ i σ' H', Pv i σ' H' → SqT K H' a xs ∧ SqL K H' b ys)
    (hs : ∀ i x y σ' H' (N : L2.St → Hp → Prop), xs[i]? = some x → ys[i]? = some y → Pv i σ' H' → (∀ σ2 H2, Pv (i + 1) σ2 H2 → N σ2 H2) → NewK (.tup [x, y]) H' fun t H2 => g (.ref t) σ' H2 fun σ2 H3 => tb { D with nx := N, ct := N, bk := D.nx } σ2 H3)
    (hd : ∀ σ' H', Pv xs.length σ' H' → D.nx σ' H') : LoopK (ItzTL K a b) g tb D σ H := by
  refine loop_gen xs.length Pv h0 (fun σ' H' r => ⟨?_, hd σ' H' r⟩) fun i σ' H' hi r => ?_
  · obtain ⟨q1, q2⟩ := hq _ _ _ r
    exact ⟨xs, ys, q1, q2, by omega⟩
  · obtain ⟨q1, q2⟩ := hq _ _ _ r
    have hi2 : i < ys.length := by omega
    refine ⟨⟨xs, ys, _, _, q1, q2, List.getElem?_eq_getElem hi, List.getElem?_eq_getElem hi2⟩, ?_⟩
    rintro v H2 ⟨T, x, y, rfl, hT, rfl, f1, f2⟩
    exact hs i x y σ' _ _ (f1 xs q1) (f2 ys q2) r (fun σ2 H3 z => z) T hT
end
/-! ### enumerate of a tuple -/
set_option maxHeartbeats 4000000 in
theorem meets_enumerate_newB1 {v : Value} {o : Obj} {H : Heap → Prop} (B : Begins v o H) :
    Meets (Builtin.«enumerate.__new__» ⟨[.type "enumerate", v], []⟩) (fun _ R s => H s.heap ∧
      R (.ok (.ret (.ref (s.heap.push o).objs.size))) { s with heap := (s.heap.push o).push { cls := .type "enumerate", data := .fields #[.none, .bool false, .ref s.heap.objs.size, rawInt 0, .none, .none] } }) :=
  .of_wp fun prog w A R s h => by
    obtain ⟨hp, g, d, tk, os⟩ := s; obtain ⟨h1, h⟩ := h
    have hsub := sub_enumerate
    have q1 : ∀ {A' : Around} {E : Value → Shared → Prop} {Q : Value → Shared → Prop}, Q (.ref hp.objs.size) ⟨hp.push o, g, d, tk, os⟩ → wpAny (model prog w) A' (pyIter v) Q E ⟨hp, g, d, tk, os⟩ :=
      fun q => B.iter prog w _ _ ⟨hp, g, d, tk, os⟩ _ h1 q
    wp_walk using q1
    refine wpAny_stack_any fun st => wpAny_pure ?_
    split
    · rename_i c _ _ _ _ _
      cases (c == Value.type "enumerate")
      · wp_walk using q1
        exact ⟨_, rfl, h⟩
      · wp_walk using q1
        exact ⟨_, rfl, h⟩
    · wp_walk using q1
      exact ⟨_, rfl, h⟩
theorem enum_begins1 {prog : Program} {w : World} {A : Around} {E : Value → Shared → Prop} {s : Shared} {v : Value} {o : Obj} {H : Heap → Prop} {Q : Value → Shared → Prop} (B : Begins v o H) (h1 : H s.heap)
    (h : ∀ h', IsEnum h' (s.heap.objs.size + 1) s.heap.objs.size 0 .none → h'.get? s.heap.objs.size = some o → h'.objs.size = s.heap.objs.size + 2 →
      (∀ b o, s.heap.get? b = some o → h'.get? b = some o) → Q (.ref (s.heap.objs.size + 1)) { s with heap := h' }) :
    wpAny (model prog w) A (call (.type "enumerate") [v]) Q E s := by
  refine callType_new F.called_enumerate (by decide) (F.typeCall_enumerate_1 _) (F.newCall_enumerate_1 _) (fun obj => F.args_object_init_2 obj _) F.entry_enumerate_new
    (meets_enumerate_newB1 B) ⟨h1, ?_⟩
  have hz : (s.heap.push o).objs.size = s.heap.objs.size + 1 := Heap.size_push ..
  show _ ∧ _
  rw [hz]
  have he : IsEnum ((s.heap.push o).push { cls := .type "enumerate", data := .fields #[.none, .bool false, .ref s.heap.objs.size, rawInt 0, .none, .none] }) (s.heap.objs.size + 1) s.heap.objs.size 0 .none := by
    have := Heap.get?_push_size (s.heap.push o) (o := { cls := .type "enumerate", data := .fields #[.none, .bool false, .ref s.heap.objs.size, rawInt 0, .none, .none] }) rfl
    rw [hz] at this; exact this
  refine ⟨⟨_, he, rfl⟩, h _ he (Heap.get?_push_of_some _ (Heap.get?_push_size _ B.free)) (by rw [Heap.size_push, hz]) fun b o x => Heap.get?_push_of_some _ (Heap.get?_push_of_some _ x)⟩
def IteT (K : PySem.W.Frag) (a : Addr) : It :=
  ⟨fun i H => ∃ (xs : List V) (x : V), SqT K H a xs ∧ xs[i]? = some x, fun i H v H' => ∃ T x, v = .ref T ∧ H T = none ∧ H' = upd H T (.tup [.int (i : Nat), x]) ∧ ∀ xs, SqT K H a xs → xs[i]? = some x, fun i H => ∃ xs : List V, SqT K H a xs ∧ i = xs.length⟩
theorem turn_enumT {P : Program} {w : World} {K : PySem.W.Frag} {elts : List Expr} {kk : Nat} {tpos : Pos} (a e it : Addr) (ha : a ≠ it) (hea : e ≠ a) :
    Turn P w K (.Tuple elts kk tpos) (IteT K a) [e, it] e (fun i h => (∃ old, IsEnum h e it ((i : Nat) : Int) old) ∧ h.IsTupleIter it a i ∧ e ≠ it) where
  mem := by simp
  obj := fun i h st b hb => by
    obtain ⟨⟨old, he⟩, ⟨o, ho, hc, hd⟩, _⟩ := st
    have e' : b = e ∨ b = it := by simpa using hb
    rcases e' with z | z
    · rw [z]; exact ⟨_, he, fun v q => nomatch q⟩
    · rw [z]; exact ⟨o, ho, fun v q => by rw [hd] at q; cases q⟩
  keep := fun i h h' st k => let ⟨⟨old, he⟩, hi, hne⟩ := st; ⟨⟨old, k e (by simp) _ he⟩, hi.at fun o q => k it (by simp) o q, hne⟩
  item := by
    intro X hP hw hK hc i pins s σ H E I hf st hg
    subst hP hw hK
    obtain ⟨⟨old, he⟩, hit, hne⟩ := st
    obtain ⟨xs, x, hq, hx⟩ := hg
    obtain ⟨its, rv, p, hz⟩ := I.tuple hq
    obtain ⟨u, hu, ru⟩ := rv.get hx
    have hel : e < s.heap.objs.size := Heap.lt_size he
    have hil : it < s.heap.objs.size := by obtain ⟨_, q, _⟩ := hit; exact Heap.lt_size q
    have hh : X.A.in1.handled = none := I.ok.hd hc
    have st1 : s.heap.IsTupleIter it a i ∧ s.heap.IsTuple a its.toArray := ⟨hit, p⟩
    have n1 : i < its.toArray.size := by have := (List.getElem?_eq_some_iff.mp hu).1; simpa using this
    refine wpAny_pyNext_enum_itemC (Draws.tuple hh it a ha its.toArray) he st1 n1 hne (by simp [hne, hea]) fun x1 h' tk e1 ho s1' hT hsz hk => ?_
    obtain rfl : x1 = u := by
      have e1 : its.toArray[i]? = some x1 := e1
      rw [List.getElem?_toArray, hu] at e1
      exact (Option.some.inj e1).symm
    refine ⟨_, rfl, wpAny_letOwnedTupleGo_enum (s := { s with heap := h', toks := tk + 1 }) ho fun h'' he' sb => ?_⟩
    have hT2 : h''.get? s.heap.objs.size = some { cls := .type "tuple", data := .seq #[.int i tk, x1] } := (sb.2 _ (Nat.ne_of_gt hel)).trans hT
    have new : ObjOk X.prog X.w (upd H s.heap.objs.size (.tup [.int (i : Nat), x])) h'' s.heap.objs.size (.tup [.int (i : Nat), x]) :=
      ⟨by show 2 ≤ sizeLine; decide, [.int i tk, x1], .cons ⟨_, rfl⟩ (.cons ru .nil), ⟨_, hT2, rfl, _, rfl⟩⟩
    have I1 : L2.Inv X pins σ (upd H s.heap.objs.size (.tup [.int (i : Nat), x])) { s with heap := h'', toks := tk + 1 } :=
      I.turnedNew (ch := [e, it]) (fun b ob hb q => (sb.2 b (fun z => hb (by simp [z]))).trans (hk b ob (fun z => hb (by simp [z])) (fun z => hb (by simp [z])) q)) hf (Nat.le_refl _) new
    refine ⟨.ref s.heap.objs.size, _, I1, rfl, ⟨_, x, rfl, I.hok.fresh (Nat.le_refl _), rfl, fun ys hy => by rw [I.tuple_inj hy hq]; exact hx⟩, ⟨⟨x1, ?_⟩, s1'.1.at fun o q => (sb.2 it (Ne.symm hne)).trans q, hne⟩, fun b hb => ?_⟩
    · have e1 : ((i + 1 : Nat) : Int) = (i : Int) + 1 := by omega
      rw [e1]; exact he'
    · have hb' : b < s.heap.objs.size := by
        have e' : b = e ∨ b = it := by simpa using hb
        rcases e' with z | z
        · rw [z]; exact hel
        · rw [z]; exact hil
      rw [upd_ne (Nat.ne_of_lt hb')]
      exact (hf b hb).1
  done := by
    intro X hP hw hK hc i pins s σ H E I hf st hg
    subst hP hw hK
    obtain ⟨⟨old, he⟩, hit, hne⟩ := st
    obtain ⟨xs, hq, hx⟩ := hg
    obtain ⟨its, rv, p, hz⟩ := I.tuple hq
    obtain ⟨f0, f1, f2, f3, f4, f5⟩ := hf it (by simp)
    have hl := rv.length
    have hh : X.A.in1.handled = none := I.ok.hd hc
    have st1 : s.heap.IsTupleIter it a its.toArray.size ∧ s.heap.IsTuple a its.toArray := ⟨by rw [show its.toArray.size = i by simp; omega]; exact hit, p⟩
    exact wpAny_pyNext_enum_endD (Draws.tuple hh it a ha its.toArray) he st1 fun h' eb => ⟨rfl, I.turned (t' := s.toks) (fun b o hb q => eb b o hb q) f0 f1 f3 f4 f5⟩
  self := fun A i s Q E st h => let ⟨⟨_, he⟩, _⟩ := st; wpAny_pyIter_enum he h
def iEnumT (K : PySem.W.Frag) (ta : TA) : TI := fun σ H R => ta σ H fun vs H1 => ∃ a xs, vs = [.ref a] ∧ SqT K H1 a xs ∧ R (IteT K a) H1
theorem pi_enumT {X : Cx} {e : Expr} {ta : TA} {p pos tpos : Pos} {elts : List Expr} {kk : Nat} (hg : Gl X "enumerate") (hm : X.mg "enumerate" = none) (ha : PA X [e] ta) (hs : starEach [e] X.env = [(false, eval e X.env)] := by rfl) :
    PI X (.Tuple elts kk tpos) (.Call (.Name "enumerate" p) [e] [] pos) (iEnumT X.K ta) := by
  refine ⟨fun pins s σ H R I h => ?_⟩
  refine Call_ (ld_blt I hg hm boot_enumerate (PyProof.Rows.callWith_type1 (thn (ha.run pos pins s σ H _ I h) fun us s1 ⟨vs, H1, I1, r1, q1⟩ => ?_) hs rfl))
  obtain ⟨a, xs, ex, hq, q⟩ := q1
  subst ex
  cases r1 with
  | cons r rr =>
    cases rr
    cases r
    obtain ⟨its, rv, p', hz⟩ := I1.tuple hq
    have la : a < s1.heap.objs.size := p'.lt
    refine enum_begins1 (begins_tuple a its.toArray) p' fun h' he hit hsz hk => wpAny_pyIter_enum he ?_
    have I2 : L2.Inv X pins σ H1 { s1 with heap := h' } := I1.kept (t' := s1.toks) hk
    refine ⟨s1.heap.objs.size + 1, [s1.heap.objs.size + 1, s1.heap.objs.size], _, _, H1, rfl, I2, turn_enumT a (s1.heap.objs.size + 1) s1.heap.objs.size (Nat.ne_of_lt la) (Nat.ne_of_gt (Nat.lt_succ_of_lt la)), ⟨⟨.none, he⟩, ⟨_, hit, rfl, rfl⟩, Nat.succ_ne_self _⟩, fun b hb => ?_, q⟩
    have e' : b = s1.heap.objs.size + 1 ∨ b = s1.heap.objs.size := by simpa using hb
    have hle : s1.heap.objs.size ≤ b := by
      rcases e' with z | z
      · rw [z]; exact Nat.le_add_right _ _
      · rw [z]; exact Nat.le_refl _
    exact I1.fpOk hle (I1.hok.fresh hle)
section
variable {K : PySem.W.Frag} {g : TG} {tb : TS} {D : Ends} {σ : L2.St} {H : Hp} {a : Addr} {xs : List V} {ta : TA} {R : It → Hp → Prop}
theorem i_enumT : iEnumT K ta σ H R = ta σ H fun vs H1 => ∃ a xs, vs = [.ref a] ∧ SqT K H1 a xs ∧ R (IteT K a) H1 := propext ⟨fun h => h, fun h => h⟩
theorem loop_enumT (Pv : Nat → L2.St → Hp → Prop) (h0 : Pv 0 σ H) (hq : ∀ i σ' H', Pv i σ' H' → SqT K H' a xs)
    (hs : ∀ i x σ' H' (N : L2.St → Hp → Prop), xs[i]? = some x → Pv i σ' H' → (∀ σ2 H2, Pv (i + 1) σ2 H2 → N σ2 H2) → NewK (.tup [.int (i : Nat), x]) H' fun t H2 => g (.ref t) σ' H2 fun σ2 H3 => tb { D with nx := N, ct := N, bk := D.nx } σ2 H3)
    (hd : ∀ σ' H', Pv xs.length σ' H' → D.nx σ' H') : LoopK (IteT K a) g tb D σ H := by
  refine loop_gen xs.length Pv h0 (fun σ' H' r => ⟨⟨xs, hq _ _ _ r, rfl⟩, hd σ' H' r⟩) fun i σ' H' hi r => ?_
  refine ⟨⟨xs, xs[i], hq _ _ _ r, List.getElem?_eq_getElem hi⟩, ?_⟩
  rintro v H2 ⟨t, x, rfl, ht, rfl, hx⟩
  exact hs i x σ' _ _ (hx xs (hq _ _ _ r)) r (fun σ2 H3 z => z) t ht
end
/-! ### a dict == an empty one -/
theorem samePairs0 {prog : Program} {w : World} {A : Around} {E : Value → Shared → Prop} {s : Shared} {nm : String} {a b : Addr} {es : Array DictEntry} {ep ep' : Nat} {Q : Bool → Shared → Prop} (ha : (a == sysModules) = false) (hb : (b == sysModules) = false)
    (da : DT.Raw s.heap a es ep) (db : DT.Raw s.heap b #[] ep') (h : Q (es.size == 0) s) : wpAny (model prog w) A (Builtin.Dict.samePairs nm a b) Q E s := by
  obtain ⟨oa, hoa, _, hda⟩ := da
  obtain ⟨ob, hob, _, hdb⟩ := db
  unfold Builtin.Dict.samePairs Builtin.Dict.showsAll
  rw [if_neg (show ¬ (a == sysModules) = true by rw [ha]; exact Bool.false_ne_true), if_neg (show ¬ (b == sysModules) = true by rw [hb]; exact Bool.false_ne_true)]
  refine wpAny_bind (wpAny_pure (wpAny_bind (wpAny_pure ?_)))
  refine wpAny_bind (wpAny_dictEntries hoa hda ?_)
  dsimp only
  refine wpAny_bind (wpAny_dictEntries hob hdb ?_)
  by_cases hsz : es.size = 0
  case neg =>
    rw [if_pos (by simpa using hsz)]
    have hbf : (es.size == 0) = false := by simpa using hsz
    rw [hbf] at h
    exact wpAny_bind (wpAny_rule (wpAny_pure h))
  case pos =>
    rw [hsz] at h
    rw [if_neg (by rw [hsz]; simp)]
    refine wpAny_bind (wpAny_dictEpoch hoa hda ?_)
    refine wpAny_bind ?_
    rw [Std.Legacy.Range.forIn_eq_forIn_range']
    simp only [Std.Legacy.Range.size, Nat.sub_zero, Nat.add_sub_cancel, Nat.div_one, hsz, List.range'_zero]
    rw [List.forIn_nil]
    exact wpAny_pure (wpAny_pure h)
theorem rc_empty {prog : Program} {w : World} {A : Around} {E : Value → Shared → Prop} {s : Shared} {a b : Addr} {es : Array DictEntry} {ep ep' : Nat} {Q : Value → Shared → Prop} (ha : (a == sysModules) = false) (hb : (b == sysModules) = false)
    (da : DT.Raw s.heap a es ep) (db : DT.Raw s.heap b #[] ep') (hu : A.units < cLine) (h : Q (.bool (es.size == 0)) s) : wpAny (model prog w) A (richCompare .Eq (.ref a) (.ref b)) Q E s := by
  refine wpAny_richCompare_same_room (op := .Eq) da.typeIs db.typeIs PySem.F.slot_dict_eq (wpAny_call_entry PySem.F.slot_dict_eq da.typeIs PySem.F.entry_dict_eq ?_ (PySem.F.args_dict_eq_2 _ _)) hu
  show wpAny _ _ (Builtin.Dict.dictSlotArgs "__eq__" ⟨[.ref a, .ref b], []⟩ >>= _) _ _ s
  refine wpAny_bind ?_
  unfold Builtin.Dict.dictSlotArgs
  refine wpAny_bind (wpAny_notOrdered_dict da.typeIs ?_)
  show wpAny _ _ (pure (Value.ref a, Value.ref b)) _ _ s
  refine wpAny_pure ?_
  refine wpAny_bind (wpAny_isInstance (T := "dict") db.typeIs PySem.F.sub_dict_dict ?_)
  simp only [Bool.not_true, Bool.false_eq_true, if_false]
  refine wpAny_bind (wpAny_pure (wpAny_bind (wpAny_pure ?_)))
  refine wpAny_bind (samePairs0 ha hb da db ?_)
  refine wpAny_pure ⟨_, rfl, ?_, ?_⟩
  · exact fun x => nomatch x
  · simpa using h
theorem dictOf_raw {prog : Program} {w : World} {κ : Type} [DecidableEq κ] {knd : KeyKind prog w κ} {h : Heap} {a : Addr} {kvs : List (κ × Value)} (d : h.DictOf knd a kvs) : ∃ es ep, DT.Raw h a es ep ∧ es.size = kvs.length := by
  obtain ⟨o, es, ep, h1, h2, h3, h4, h5, _⟩ := d
  exact ⟨es, ep, ⟨o, h1, h2, h3⟩, by rw [← h5.length]; exact Array.length_toList.symm⟩
/-- the dict at a has n items -/
def DLen (H : Hp) (a : Addr) (n : Nat) : Prop := (∃ kvs, Rd H a (.dT kvs) ∧ n = kvs.length) ∨ ∃ kvs, Rd H a (.dK kvs) ∧ n = kvs.length
theorem DLen.raw {X : Cx} {pins : List (Addr × Obj)} {σ : L2.St} {H : Hp} {s : Shared} {a : Addr} {n : Nat} (I : L2.Inv X pins σ H s) (d : DLen H a n) : (a == sysModules) = false ∧ ∃ es ep, DT.Raw s.heap a es ep ∧ es.size = n := by
  rcases d with ⟨kvs, hr, rfl⟩ | ⟨kvs, hr, rfl⟩
  · obtain ⟨z, hd, xs, pr, o, es, ep, ho, hx, hdt, he, hn⟩ := (show ObjOk X.prog X.w H s.heap a (.dT kvs) from hr.ok I.hok)
    have l1 : es.size = xs.length := size_of_entries he
    have l2 : kvs.length = xs.length := Paired.length pr
    exact ⟨hd, es, ep, ⟨o, ho, hx, hdt⟩, by omega⟩
  · obtain ⟨z, hd, vs, rel, dd⟩ := dk_rd I.hok hr
    obtain ⟨es, ep, r, e⟩ := dictOf_raw dd
    exact ⟨hd, es, ep, r, by rw [e, ← rel.length]⟩
def rEqE : R2 := fun x y H Q => ∃ a b n, x = .ref a ∧ y = .ref b ∧ DLen H a n ∧ DLen H b 0 ∧ Q (.bl (n == 0)) H
theorem op_eqE {X : Cx} (hu : X.A.units + 64 < cLine) : OpR X (compareOp .Eq) rEqE := by
  intro pins s σ H x y v u Q I rx ry h
  obtain ⟨a, b, n, rfl, rfl, da, db, q⟩ := h
  cases (show v = Value.ref a from rx)
  cases (show u = Value.ref b from ry)
  obtain ⟨h1, es, ep, r1, e1⟩ := da.raw I
  obtain ⟨h2, es2, ep2, r2, e2⟩ := db.raw I
  cases Array.size_eq_zero_iff.mp e2
  show wpAny (model X.prog X.w) X.A (richCompare .Eq (.ref a) (.ref b)) _ _ _
  refine rc_empty h1 h2 r1 r2 (by omega) ⟨.bl (n == 0), H, I, by rw [e1]; rfl, q⟩
def EqEK (a b : Addr) (H : Hp) (G : Bool → Prop) : Prop := ∃ n, DLen H a n ∧ DLen H b 0 ∧ G (n == 0)
theorem x_eqE {a b : Addr} {H : Hp} {Q : VK} : rEqE (.ref a) (.ref b) H Q ↔ EqEK a b H fun c => Q (.bl c) H := ⟨fun ⟨_, _, n, e1, e2, d1, d2, q⟩ => by cases e1; cases e2; exact ⟨n, d1, d2, q⟩, fun ⟨n, d1, d2, q⟩ => ⟨a, b, n, rfl, rfl, d1, d2, q⟩⟩
theorem EqEK.t {B H : Hp} {l : List (Addr × HO)} {a b : Addr} {kvs : List (List Key × V)} {G : Bool → Prop} (h1 : H a = some (.dT kvs)) (h2 : H b = some (.dT [])) (q : G kvs.isEmpty) : EqEK a b H G :=
  ⟨kvs.length, .inl ⟨kvs, .inl h1, rfl⟩, .inl ⟨[], .inl h2, rfl⟩, by rw [show (kvs.length == 0) = kvs.isEmpty by cases kvs <;> rfl]; exact q⟩
/-! ### x is True, x is False -/
theorem x_isB {a b : Bool} {H : Hp} {Q : VK} : rIsB (.bl a) (.bl b) H Q ↔ Q (.bl (decide (a = b))) H := ⟨fun ⟨_, _, e1, e2, q⟩ => by cases e1; cases e2; exact q, fun q => ⟨a, b, rfl, rfl, q⟩⟩
theorem x_notB {a b : Bool} {H : Hp} {Q : VK} : rNotB (.bl a) (.bl b) H Q ↔ Q (.bl (!decide (a = b))) H := ⟨fun ⟨_, _, e1, e2, q⟩ => by cases e1; cases e2; exact q, fun q => ⟨a, b, rfl, rfl, q⟩⟩
/-! ### list(d) -/
def rLstD : List V → Hp → VK → Prop := fun xs H Q => ∃ d kvs, xs = [V.ref d] ∧ Rd H d (.dT kvs) ∧ ∀ p bs, H p = none → IsKeys H kvs bs → Q (.ref p) (upd H p (.lst (bs.map V.ref)))
theorem cr_lstD {X : Cx} (hc : X.calm = true) : CallR X (.type "list") rLstD := call_list_dT hc
def LstDK (d : Addr) (H : Hp) (G : Addr → Hp → Prop) : Prop := ∃ kvs, Rd H d (.dT kvs) ∧ ∀ bs, IsKeys H kvs bs → NewK (.lst (bs.map V.ref)) H G
theorem x_lstD {d : Addr} {H : Hp} {Q : VK} : rLstD [.ref d] H Q ↔ LstDK d H fun p H1 => Q (.ref p) H1 := ⟨fun ⟨_, kvs, e, h, q⟩ => by cases e; exact ⟨kvs, h, fun bs hk p hp => q p bs hp hk⟩, fun ⟨kvs, h, q⟩ => ⟨d, kvs, rfl, h, fun p bs hp hk => q bs hk p hp⟩⟩
/-! ### sum of a tuple of ints -/
theorem fold_ints : ∀ (ns : List Int) (a : Int), PySem.W.Num.foldFrom PySem.W.Num.add (.int a) (ns.map .int) = some (.int (a + ns.sum))
  | [], a => by rw [List.map_nil, List.sum_nil, Int.add_zero]; rfl
  | b :: r, a => by
    rw [List.map_cons, List.sum_cons, ← Int.add_assoc, ← fold_ints r (a + b)]
    rfl
theorem sum_ints : ∀ (ns : List Int) (a : Int), PySem.W.Num.sumInts a (ns.map .int) = some (.int (a + ns.sum))
  | [], a => by rw [List.map_nil, List.sum_nil, Int.add_zero]; rfl
  | b :: r, a => by
    rw [List.map_cons, List.sum_cons, ← Int.add_assoc]
    unfold PySem.W.Num.sumInts
    split
    · exact sum_ints r (a + b)
    · exact fold_ints r (a + b)
def rSumN (K : PySem.W.Frag) : List V → Hp → VK → Prop := fun vs H Q => ∃ (a : Addr) (ns : List Int), vs = [.ref a] ∧ SqT K H a (ns.map V.int) ∧ Q (.int ns.sum) H
theorem ints_vals : ∀ {ns : List Int} {its : List Value}, Vals (ns.map V.int) its → ∀ (k : Nat) (v : Value), its[k]? = some v → ∃ i t, ns[k]? = some i ∧ v = .int i t
  | [], _, .nil, k, v, h => by simp at h
  | n :: r, _, .cons ⟨t, e⟩ rr, 0, v, h => by cases h; exact ⟨n, t, rfl, e⟩
  | n :: r, _, .cons _ rr, k + 1, v, h => ints_vals (ns := r) rr k v h
theorem cr_sumN {X : Cx} (hc : X.calm = true) : CallR X (.builtin "sum") (rSumN X.K) := by
  intro pins s σ H vs us Q I r h
  obtain ⟨a, ns, rfl, hs, q⟩ := h
  obtain ⟨its, rv, hl, _⟩ := I.tuple hs
  rw [Vals.ref1 r]
  refine PySem.Flt.call_sum_walkF (sum_ints ns 0) (PySem.W.iter_tupleW (A := X.A.in1) (I.ok.hd hc) hl fun s₂ e W st hfp hw hk => ?_)
  have e0 : its.toArray.size = (ns.map PySem.W.WData.int).length := by rw [List.length_map, List.size_toArray, ← rv.length, List.length_map]
  rw [e0] at W
  refine ⟨_, _, _, _, _, _, rfl, W, st, hfp, fun k v hv => ?_, fun s' v hn m => ?_⟩
  · obtain ⟨i, t, hi, rfl⟩ := ints_vals rv k v (by simpa using hv)
    exact ⟨.int i, by rw [List.getElem?_map, hi]; rfl, .int _ _⟩
  · obtain ⟨h', tk, rfl, hk'⟩ := PySem.W.moved_old e rfl m
    cases hn
    exact ⟨.int _, H, I.kept hk', ⟨_, by rw [Int.zero_add]⟩, q⟩
def SumNK (K : PySem.W.Frag) (a : Addr) (H : Hp) (G : Int → Prop) : Prop := ∃ ns : List Int, SqT K H a (ns.map V.int) ∧ G ns.sum
theorem x_sumN {K : PySem.W.Frag} {a : Addr} {H : Hp} {Q : VK} : rSumN K [.ref a] H Q ↔ SumNK K a H fun n => Q (.int n) H := ⟨fun ⟨_, ns, e, h⟩ => by cases e; exact ⟨ns, h⟩, fun ⟨ns, h⟩ => ⟨a, ns, rfl, h⟩⟩
/-! ### the rest, for the ledger -/
section
variable {K : PySem.W.Frag} {B H : Hp} {l : List (Addr × HO)} {a b : Addr} {xs ys : List V} {σ : L2.St} {Q : VK}
def D1TK (tk tv : TE) (σ : L2.St) (H : Hp) (G : Addr → Hp → Prop) : Prop := NewK (.dT []) H fun p H1 => tk σ H1 fun y H2 => tv σ H2 fun v H3 => ∃ (k : List Key) (b : Addr), y = .ref b ∧ H3 p = some (.dT []) ∧ H3 b = some (.tup (k.map kV)) ∧ G p (upd H3 p (.dT [(k, v)]))
theorem e_d1T {tk tv : TE} : tD1T tk tv σ H Q = NewK (.dT []) H fun p H1 => tk σ H1 fun y H2 => tv σ H2 fun v H3 => ∃ b, y = .ref b ∧ ∃ (k : List Key), H3 p = some (.dT []) ∧ H3 b = some (.tup (k.map kV)) ∧ Q (.ref p) (upd H3 p (.dT [(k, v)])) := propext (by
  unfold tD1T NewK
  exact forall_congr' fun p => forall_congr' fun hp => Iff.of_eq (congrArg (tk σ _) (funext fun y => funext fun H2 => congrArg (tv σ H2) (funext fun v => funext fun H3 => propext ⟨fun ⟨k, b, e, r⟩ => ⟨b, e, k, r⟩, fun ⟨b, e, k, r⟩ => ⟨k, b, e, r⟩⟩))))
theorem e_callL {i : Nat} {f : Addr} {sp : Sp} {dvs : List V} {E : XK} {t : TA} : tCallL i f sp dvs E t σ H Q = (σ[i]? = some (some (.ref f)) ∧ t σ H fun vs H1 => sp (vs ++ dvs) H1 Q E) := propext ⟨fun h => h, fun h => h⟩
/-- t + u of tuples that are kept -/
def CatTK (K : PySem.W.Frag) (a b : Addr) (H : Hp) (G : Addr → Hp → Prop) : Prop := ∃ xs ys, SqT K H a xs ∧ SqT K H b ys ∧ xs.length + ys.length ≤ sizeLine ∧ (xs = [] → G b H) ∧ (xs ≠ [] → ys = [] → G a H) ∧ (xs ≠ [] → ys ≠ [] → NewK (.tup (xs ++ ys)) H G)
theorem x_catA : rCatA K (.ref a) (.ref b) H Q ↔ CatTK K a b H fun p H1 => Q (.ref p) H1 := ⟨fun ⟨_, _, xs, ys, e1, e2, r⟩ => by cases e1; cases e2; exact ⟨xs, ys, r⟩, fun ⟨xs, ys, r⟩ => ⟨a, b, xs, ys, rfl, rfl, r⟩⟩
theorem CatTK.of {G : Addr → Hp → Prop} (L : Led B H l) (h1 : B a = some (.tup xs)) (h2 : B b = some (.tup ys)) (hz : xs.length + ys.length ≤ sizeLine) (k : ∀ r B' H1, Same B B' → B' r = some (.tup (xs ++ ys)) → Led B' H1 l → G r H1) : CatTK K a b H G := by
  refine ⟨xs, ys, .inl (.inl (L.sm _ _ h1)), .inl (.inl (L.sm _ _ h2)), hz, fun e => ?_, fun _ e => ?_, fun _ _ => NewK.of L fun p H1 L1 => ?_⟩
  · subst e; exact k b B H (Same.refl B) h2 L
  · subst e; exact k a B H (Same.refl B) (by rw [List.append_nil]; exact h1) L
  · obtain ⟨B', s, h, L2⟩ := L1.sink
    exact k p B' H1 s h L2
def SlTK (K : PySem.W.Frag) (a : Addr) (lo hi : Option Int) (H : Hp) (G : Addr → Hp → Prop) : Prop := ∃ xs, SqT K H a xs ∧ (HT.sIx xs.length 0 lo = 0 ∧ HT.sIx xs.length xs.length hi = xs.length → G a H) ∧ (¬ (HT.sIx xs.length 0 lo = 0 ∧ HT.sIx xs.length xs.length hi = xs.length) → NewK (.tup (cutV xs lo hi)) H G)
theorem x_slA {lo hi : Option Int} : rSlA K (.ref a) lo hi H Q ↔ SlTK K a lo hi H fun p H1 => Q (.ref p) H1 := ⟨fun ⟨_, xs, e, r⟩ => by cases e; exact ⟨xs, r⟩, fun ⟨xs, r⟩ => ⟨a, xs, rfl, r⟩⟩
theorem SlTK.of {lo hi : Option Int} {G : Addr → Hp → Prop} (L : Led B H l) (h1 : B a = some (.tup xs)) (k : ∀ r B' H1, Same B B' → B' r = some (.tup (cutV xs lo hi)) → Led B' H1 l → G r H1) : SlTK K a lo hi H G := by
  refine ⟨xs, .inl (.inl (L.sm _ _ h1)), fun e => ?_, fun _ => NewK.of L fun p H1 L1 => ?_⟩
  · refine k a B H (Same.refl B) ?_ L
    rw [h1]
    unfold cutV
    rw [e.1, e.2, List.drop_zero, Nat.sub_zero, List.take_length]
  · obtain ⟨B', s, h, L2⟩ := L1.sink
    exact k p B' H1 s h L2
end
/-- a callee that kept more: what stood besides stays owned -/
theorem Led.over {B H B' H' : Hp} {l m : List (Addr × HO)} (L : Led B H l) (s : Same H B') (M : Led B' H' m) : ∃ B2, Same B B2 ∧ Led B2 H' (m ++ l) ∧ ∀ q o, B' q = some o → (∀ e ∈ l, e.2 ≠ o) → B2 q = some o := by
  have hin : ∀ e ∈ l, B' e.1 = some e.2 := fun e he => s _ _ (L.hs e he)
  refine ⟨less B' (l.map (·.1)), fun a o z => ?_, ⟨fun a o z => ?_, ?_, fun e he => ?_, fun e he => ?_⟩, fun q o hq hn => ?_⟩
  · unfold less
    rw [if_neg]
    · exact s _ _ (L.sm _ _ z)
    · intro hm
      obtain ⟨e, he, rfl⟩ := List.mem_map.mp hm
      rw [L.fr e he] at z
      cases z
  · unfold less at z
    split at z
    · cases z
    · exact M.sm _ _ z
  · rw [List.map_append]
    refine List.nodup_append.mpr ⟨M.nd, L.nd, fun a ha b hb z => ?_⟩
    obtain ⟨e, he, e1⟩ := List.mem_map.mp ha
    obtain ⟨d, hd, d1⟩ := List.mem_map.mp hb
    have h1 := M.fr e he
    have h2 := hin d hd
    rw [e1, z] at h1
    rw [d1, h1] at h2
    cases h2
  · unfold less
    rcases List.mem_append.mp he with z | z
    · split
      · rfl
      · exact M.fr e z
    · rw [if_pos (List.mem_map.mpr ⟨e, z, rfl⟩)]
  · rcases List.mem_append.mp he with z | z
    · exact M.hs e z
    · exact M.sm _ _ (hin e z)
  · unfold less
    rw [if_neg]
    · exact hq
    · intro hm
      obtain ⟨e, he, rfl⟩ := List.mem_map.mp hm
      rw [hin e he] at hq
      exact hn e he (Option.some.inj hq)
/-- the keys' tuples join what is kept -/
theorem Led.grabs {B H : Hp} {l : List (Addr × HO)} (hl : ∀ e ∈ l, ∀ ys, e.2 ≠ .tup ys) : ∀ {kvs : List (List Key × V)} {bs : List Addr}, IsKeys H kvs bs → ∀ {B : Hp}, Led B H l → ∃ B', Same B B' ∧ IsKeys B' kvs bs ∧ Led B' H l
  | _, _, .nil, B, L => ⟨B, Same.refl B, .nil, L⟩
  | _, _, .cons h r, B, L => by
    obtain ⟨B1, s1, h1, L1⟩ := L.grab h hl
    obtain ⟨B2, s2, h2, L2⟩ := Led.grabs (B := B) hl r L1
    exact ⟨B2, s1.trans s2, .cons (s2 _ _ h1) h2, L2⟩
theorem LstDK.of {B H : Hp} {l : List (Addr × HO)} {d : Addr} {kvs : List (List Key × V)} {G : Addr → Hp → Prop} (L : Led B H l) (h : H d = some (.dT kvs)) (hl : ∀ e ∈ l, ∀ ys, e.2 ≠ .tup ys) (k : ∀ p bs B' H1, Same B B' → IsKeys B' kvs bs → Led B' H1 ((p, .lst (bs.map V.ref)) :: l) → G p H1) : LstDK d H G := by
  refine ⟨kvs, .inl h, fun bs hk => ?_⟩
  obtain ⟨B1, s1, h1, L1⟩ := Led.grabs (B := B) hl hk L
  exact NewK.of L1 fun p H1 L2 => k p bs B1 H1 s1 h1 L2
end Vg


set_option Elab.async false
set_option linter.all false
set_option maxRecDepth 100000
set_option maxHeartbeats 2000000
namespace Vg
open PySem PySem.Spec PyProof.Rows L2
/-! ### a dict of defs that the module holds -/
structure KD (K : PySem.W.Frag) (w : World) (d : Addr) (ps : List (Str × Addr)) : Prop where
  ex : ∃ es n, KDict K w d es n
  yes : ∀ z f, ps.lookup z = some f → PySem.W.nsIn K d z = some (some (.ref f))
  no : ∀ z, ps.lookup z = none → PySem.W.nsIn K d z = some none
def kdEs (P : Params) (l : List (Str × Tok × Addr)) : List DictEntry := l.map fun e => ⟨PyData.keyHash P e.1, .str e.1 e.2.1, .ref e.2.2⟩
def kdPs (l : List (Str × Tok × Addr)) : List (Str × Addr) := l.map fun e => (e.1, e.2.2)
theorem kd_find (P : Params) (z : Str) : ∀ l, ((kdEs P l).find? fun e => e.key.isStr z).map (·.val) = ((kdPs l).lookup z).map Value.ref
  | [] => rfl
  | e :: r => by
    unfold kdEs kdPs
    rw [List.map_cons, List.map_cons, List.find?_cons, List.lookup_cons]
    have h : (Value.str e.1 e.2.1).isStr z = (z == e.1) := by
      show (e.1 == z) = (z == e.1)
      exact Bool.eq_iff_iff.mpr (by rw [beq_iff_eq, beq_iff_eq]; exact ⟨Eq.symm, Eq.symm⟩)
    dsimp only
    rw [h]
    cases z == e.1 with
    | true => rfl
    | false => exact kd_find P z r
theorem kd_noref (P : Params) : ∀ l, ((kdEs P l).any fun e => e.refKey) = false
  | [] => rfl
  | e :: r => by
    unfold kdEs
    rw [List.map_cons, List.any_cons]
    have := kd_noref P r
    unfold kdEs at this
    rw [this]
    rfl
theorem kd_lit (P : Params) : ∀ l, PySem.W.KeysLit P (kdEs P l)
  | [] => trivial
  | e :: r => ⟨⟨_, _, rfl, rfl⟩, kd_lit P r⟩
theorem KD.mk' {K : PySem.W.Frag} {w : World} {d : Addr} {n : Nat} {l : List (Str × Tok × Addr)} (low : (d == sysModules) = false) (h : K.lookup d = some ⟨.type "dict", none, .dict (kdEs w.params l).toArray n, #[]⟩) : KD K w d (kdPs l) := by
  have key : ∀ z, PySem.W.nsIn K d z = some (((kdPs l).lookup z).map Value.ref) := fun z => by
    unfold PySem.W.nsIn
    rw [h]
    dsimp only
    have f := kd_find w.params z l
    cases e : (kdEs w.params l).find? fun e => e.key.isStr z with
    | some x =>
      rw [e] at f
      rw [← f]
      rfl
    | none =>
      rw [e] at f
      rw [← f, kd_noref]
      rfl
  exact ⟨⟨_, n, h, kd_lit _ _, low⟩, fun z f e => by rw [key, e]; rfl, fun z e => by rw [key, e]; rfl⟩
def rInKd (ps : List (Str × Addr)) (d : Addr) : R2 := fun x y H Q => ∃ z, x = .str z ∧ y = .ref d ∧ Q (.bl (ps.lookup z).isSome) H
theorem op_inKd {X : Cx} {d : Addr} {ps : List (Str × Addr)} (D : KD X.K X.w d ps) : OpR X (compareOp .In) (rInKd ps d) := by
  intro pins s σ H x y v u Q I rx ry h
  obtain ⟨z, rfl, rfl, q⟩ := h
  obtain ⟨es, n, D2⟩ := D.ex
  cases e : ps.lookup z with
  | none =>
    rw [e] at q
    exact op_in_kd D2 pins s σ H (.str z) (.ref d) v u Q I rx ry ⟨z, none, rfl, rfl, D.no z e, q⟩
  | some f =>
    rw [e] at q
    exact op_in_kd D2 pins s σ H (.str z) (.ref d) v u Q I rx ry ⟨z, some (.ref f), rfl, rfl, D.yes z f e, q⟩
theorem x_inKd {ps : List (Str × Addr)} {d : Addr} {z : Str} {H : Hp} {Q : VK} : rInKd ps d (.str z) (.ref d) H Q ↔ Q (.bl (ps.lookup z).isSome) H := ⟨fun ⟨_, e1, _, q⟩ => by cases e1; exact q, fun q => ⟨z, rfl, rfl, q⟩⟩
def rIxKd (ps : List (Str × Addr)) (d : Addr) : R2 := fun x y H Q => ∃ z f, x = .ref d ∧ y = .str z ∧ ps.lookup z = some f ∧ Q (.ref f) H
theorem ix_kd {X : Cx} {d : Addr} {ps : List (Str × Addr)} (D : KD X.K X.w d ps) : IxR X (rIxKd ps d) := by
  intro value slice pins s σ H x y v u Q I rx ry h hs
  obtain ⟨z, f, rfl, rfl, e, q⟩ := h
  obtain ⟨es, n, D2⟩ := D.ex
  cases rx
  obtain ⟨t, rfl⟩ := ry
  refine tail_any (kd_type D2 I) PySem.F.slot_dict_getitem.lookup ?_ hs
  exact wpAny_getItem_of (PySem.strKind_is X.prog X.w z t) (PySem.W.mapOf_K (prog := X.prog) I.kIn D2.at_ D2.lit) (PySem.W.find_K D2.at_ (D.yes z f e)) ⟨.ref f, H, I.tok _, rfl, q⟩
def IxKdK (ps : List (Str × Addr)) (z : Str) (G : Addr → Prop) : Prop := ∃ f, ps.lookup z = some f ∧ G f
theorem x_ixKd {ps : List (Str × Addr)} {d : Addr} {z : Str} {H : Hp} {Q : VK} : rIxKd ps d (.ref d) (.str z) H Q ↔ IxKdK ps z fun f => Q (.ref f) H := ⟨fun ⟨_, f, _, e2, e, q⟩ => by cases e2; exact ⟨f, e, q⟩, fun ⟨f, e, q⟩ => ⟨z, f, rfl, rfl, e, q⟩⟩
/-! ### a name that holds one of several defs -/
def tCallX (i : Nat) (cs : List (Addr × Sp)) (t : TA) : TE := fun σ H Q => ∃ f sp, σ[i]? = some (some (.ref f)) ∧ (f, sp) ∈ cs ∧ t σ H fun vs H1 => sp vs H1 Q (fun _ _ _ => False)
theorem pe_callX {X : Cx} {k i : Nat} {x : Str} {p pos : Pos} {e : Expr} {es : List Expr} {t : TA} {cs : List (Addr × Sp)} (A : ∀ q ∈ cs, Held X.prog X.w X.K X.mg X.base k q.1 q.2) (hr : Room k X.A) (hN : X.N[i]? = some x) (hv : Vis X.env.scope x) (ha : PA X (e :: es) t)
    (hdb : (x == ("__debug__" : Str)) = false := by decide) (hcd : (x == ("__classdict__" : Str)) = false := by decide)
    (he : starEach (e :: es) X.env = (false, eval e X.env) :: starEach es X.env := by rfl) (hpl : (backTo pos (starEach es X.env)).any (·.1) = false := by rfl) : PE X (.Call (.Name x p) (e :: es) [] pos) (tCallX i cs t) := by
  refine ⟨fun pins s σ H Q I h => ?_⟩
  obtain ⟨f, sp, hs, hS, ht⟩ := h
  refine (pe_callA (S := fun g => if g = f then some sp else none) (fun g sq hq => ?_) hr hN hv ha hdb hcd he hpl).run pins s σ H Q I ⟨f, sp, hs, if_pos rfl, ht⟩
  split at hq
  · rename_i c
    cases hq
    rw [c]
    exact A _ hS
  · cases hq
theorem e_callX {i : Nat} {cs : List (Addr × Sp)} {t : TA} {σ : L2.St} {H : Hp} {Q : VK} {f : Addr} {sp : Sp} (h : σ[i]? = some (some (.ref f))) (hm : (f, sp) ∈ cs) (q : t σ H fun vs H1 => sp vs H1 Q (fun _ _ _ => False)) : tCallX i cs t σ H Q := ⟨f, sp, h, hm, q⟩
/-! ### partition -/
def rPart : V → List V → Hp → VK → Prop := fun x xs H Q => ∃ a b, x = .str a ∧ xs = [.str b] ∧ (b.length == 0) = false ∧ a.length ≤ sizeLine ∧ ∀ p, H p = none → Q (.ref p) (upd H p (.tup [.str (Txt.partition a b).1, .str (Txt.partition a b).2.1, .str (Txt.partition a b).2.2]))
theorem mt_partS {X : Cx} : MtR X "str.partition" rPart := mt_partition
def PartK (a b : Str) (H : Hp) (G : Addr → Hp → Prop) : Prop := (b.length == 0) = false ∧ a.length ≤ sizeLine ∧ NewK (.tup [.str (Txt.partition a b).1, .str (Txt.partition a b).2.1, .str (Txt.partition a b).2.2]) H G
theorem x_partS {a b : Str} {H : Hp} {Q : VK} : rPart (.str a) [.str b] H Q ↔ PartK a b H fun p H1 => Q (.ref p) H1 := ⟨fun ⟨_, _, e1, e2, h1, h2, q⟩ => by cases e1; cases e2; exact ⟨h1, h2, q⟩, fun ⟨h1, h2, q⟩ => ⟨a, b, rfl, rfl, h1, h2, q⟩⟩
end Vg


set_option Elab.async false
set_option linter.all false
set_option maxRecDepth 100000
set_option maxHeartbeats 4000000
namespace My
open PySem PySem.Spec PyProof.Rows L2 Vg
theorem cp_10_15 : CPow 10 15 ↔ True := iff_true_intro ⟨by decide, by decide, by decide⟩
theorem cp_10_30 : CPow 10 30 ↔ True := iff_true_intro ⟨by decide, by decide, by decide⟩
theorem sz_3 : 3 ≤ sizeLine ↔ True := iff_true_intro (by decide)
theorem sz_2 : 2 ≤ sizeLine ↔ True := iff_true_intro (by decide)
theorem sz_0 : 0 ≤ sizeLine ↔ True := iff_true_intro (by decide)
theorem sz_1 : 1 ≤ sizeLine ↔ True := iff_true_intro (by decide)
theorem sz_4 : 4 ≤ sizeLine ↔ True := iff_true_intro (by decide)
theorem cp_10_44 : CPow 10 44 ↔ True := iff_true_intro ⟨by decide, by decide, by decide⟩
theorem cp_10_43 : CPow 10 43 ↔ True := iff_true_intro ⟨by decide, by decide, by decide⟩
theorem cp_10_18 : CPow 10 18 ↔ True := iff_true_intro ⟨by decide, by decide, by decide⟩
theorem cp_10_39 : CPow 10 39 ↔ True := iff_true_intro ⟨by decide, by decide, by decide⟩
theorem nf__end_in_cell___marks : (("_end_in_cell" : Str) = "_marks") = False := eq_false (by decide +kernel)
theorem nb__end_in_cell___marks : (("_end_in_cell" : Str) == "_marks") = false := by decide +kernel
theorem nf__end_in_cell___return_to : (("_end_in_cell" : Str) = "_return_to") = False := eq_false (by decide +kernel)
theorem nb__end_in_cell___return_to : (("_end_in_cell" : Str) == "_return_to") = false := by decide +kernel
theorem nf__end_in_cell___run : (("_end_in_cell" : Str) = "_run") = False := eq_false (by decide +kernel)
theorem nb__end_in_cell___run : (("_end_in_cell" : Str) == "_run") = false := by decide +kernel
theorem nf__end_in_cell___splitter_at : (("_end_in_cell" : Str) = "_splitter_at") = False := eq_false (by decide +kernel)
theorem nb__end_in_cell___splitter_at : (("_end_in_cell" : Str) == "_splitter_at") = false := by decide +kernel
theorem nf__end_in_cell___walk : (("_end_in_cell" : Str) = "_walk") = False := eq_false (by decide +kernel)
theorem nb__end_in_cell___walk : (("_end_in_cell" : Str) == "_walk") = false := by decide +kernel
theorem nf__end_in_cell__cells : (("_end_in_cell" : Str) = "cells") = False := eq_false (by decide +kernel)
theorem nb__end_in_cell__cells : (("_end_in_cell" : Str) == "cells") = false := by decide +kernel
theorem nf__end_in_cell__closed : (("_end_in_cell" : Str) = "closed") = False := eq_false (by decide +kernel)
theorem nb__end_in_cell__closed : (("_end_in_cell" : Str) == "closed") = false := by decide +kernel
theorem nf__end_in_cell__diagonal : (("_end_in_cell" : Str) = "diagonal") = False := eq_false (by decide +kernel)
theorem nb__end_in_cell__diagonal : (("_end_in_cell" : Str) == "diagonal") = false := by decide +kernel
theorem nf__end_in_cell__done : (("_end_in_cell" : Str) = "done") = False := eq_false (by decide +kernel)
theorem nb__end_in_cell__done : (("_end_in_cell" : Str) == "done") = false := by decide +kernel
theorem nf__end_in_cell__names : (("_end_in_cell" : Str) = "names") = False := eq_false (by decide +kernel)
theorem nb__end_in_cell__names : (("_end_in_cell" : Str) == "names") = false := by decide +kernel
theorem nf__end_in_cell__places : (("_end_in_cell" : Str) = "places") = False := eq_false (by decide +kernel)
theorem nb__end_in_cell__places : (("_end_in_cell" : Str) == "places") = false := by decide +kernel
theorem nf__end_in_cell__play : (("_end_in_cell" : Str) = "play") = False := eq_false (by decide +kernel)
theorem nb__end_in_cell__play : (("_end_in_cell" : Str) == "play") = false := by decide +kernel
theorem nf__end_in_cell__process_count : (("_end_in_cell" : Str) = "process_count") = False := eq_false (by decide +kernel)
theorem nb__end_in_cell__process_count : (("_end_in_cell" : Str) == "process_count") = false := by decide +kernel
theorem nf__end_in_cell__reports : (("_end_in_cell" : Str) = "reports") = False := eq_false (by decide +kernel)
theorem nb__end_in_cell__reports : (("_end_in_cell" : Str) == "reports") = false := by decide +kernel
theorem nf__end_in_cell__steps : (("_end_in_cell" : Str) = "steps") = False := eq_false (by decide +kernel)
theorem nb__end_in_cell__steps : (("_end_in_cell" : Str) == "steps") = false := by decide +kernel
theorem nf__end_in_cell__steps_done : (("_end_in_cell" : Str) = "steps_done") = False := eq_false (by decide +kernel)
theorem nb__end_in_cell__steps_done : (("_end_in_cell" : Str) == "steps_done") = false := by decide +kernel
theorem nf__end_in_cell__writer : (("_end_in_cell" : Str) = "writer") = False := eq_false (by decide +kernel)
theorem nb__end_in_cell__writer : (("_end_in_cell" : Str) == "writer") = false := by decide +kernel
theorem nf__marks___end_in_cell : (("_marks" : Str) = "_end_in_cell") = False := eq_false (by decide +kernel)
theorem nb__marks___end_in_cell : (("_marks" : Str) == "_end_in_cell") = false := by decide +kernel
theorem nf__marks___return_to : (("_marks" : Str) = "_return_to") = False := eq_false (by decide +kernel)
theorem nb__marks___return_to : (("_marks" : Str) == "_return_to") = false := by decide +kernel
theorem nf__marks___run : (("_marks" : Str) = "_run") = False := eq_false (by decide +kernel)
theorem nb__marks___run : (("_marks" : Str) == "_run") = false := by decide +kernel
theorem nf__marks___splitter_at : (("_marks" : Str) = "_splitter_at") = False := eq_false (by decide +kernel)
theorem nb__marks___splitter_at : (("_marks" : Str) == "_splitter_at") = false := by decide +kernel
theorem nf__marks___walk : (("_marks" : Str) = "_walk") = False := eq_false (by decide +kernel)
theorem nb__marks___walk : (("_marks" : Str) == "_walk") = false := by decide +kernel
theorem nf__marks__cells : (("_marks" : Str) = "cells") = False := eq_false (by decide +kernel)
theorem nb__marks__cells : (("_marks" : Str) == "cells") = false := by decide +kernel
theorem nf__marks__closed : (("_marks" : Str) = "closed") = False := eq_false (by decide +kernel)
theorem nb__marks__closed : (("_marks" : Str) == "closed") = false := by decide +kernel
theorem nf__marks__diagonal : (("_marks" : Str) = "diagonal") = False := eq_false (by decide +kernel)
theorem nb__marks__diagonal : (("_marks" : Str) == "diagonal") = false := by decide +kernel
theorem nf__marks__done : (("_marks" : Str) = "done") = False := eq_false (by decide +kernel)
theorem nb__marks__done : (("_marks" : Str) == "done") = false := by decide +kernel
theorem nf__marks__names : (("_marks" : Str) = "names") = False := eq_false (by decide +kernel)
theorem nb__marks__names : (("_marks" : Str) == "names") = false := by decide +kernel
theorem nf__marks__places : (("_marks" : Str) = "places") = False := eq_false (by decide +kernel)
theorem nb__marks__places : (("_marks" : Str) == "places") = false := by decide +kernel
theorem nf__marks__play : (("_marks" : Str) = "play") = False := eq_false (by decide +kernel)
theorem nb__marks__play : (("_marks" : Str) == "play") = false := by decide +kernel
theorem nf__marks__process_count : (("_marks" : Str) = "process_count") = False := eq_false (by decide +kernel)
theorem nb__marks__process_count : (("_marks" : Str) == "process_count") = false := by decide +kernel
theorem nf__marks__reports : (("_marks" : Str) = "reports") = False := eq_false (by decide +kernel)
theorem nb__marks__reports : (("_marks" : Str) == "reports") = false := by decide +kernel
theorem nf__marks__steps : (("_marks" : Str) = "steps") = False := eq_false (by decide +kernel)
theorem nb__marks__steps : (("_marks" : Str) == "steps") = false := by decide +kernel
theorem nf__marks__steps_done : (("_marks" : Str) = "steps_done") = False := eq_false (by decide +kernel)
theorem nb__marks__steps_done : (("_marks" : Str) == "steps_done") = false := by decide +kernel
theorem nf__marks__writer : (("_marks" : Str) = "writer") = False := eq_false (by decide +kernel)
theorem nb__marks__writer : (("_marks" : Str) == "writer") = false := by decide +kernel
theorem nf__return_to___end_in_cell : (("_return_to" : Str) = "_end_in_cell") = False := eq_false (by decide +kernel)
theorem nb__return_to___end_in_cell : (("_return_to" : Str) == "_end_in_cell") = false := by decide +kernel
theorem nf__return_to___marks : (("_return_to" : Str) = "_marks") = False := eq_false (by decide +kernel)
theorem nb__return_to___marks : (("_return_to" : Str) == "_marks") = false := by decide +kernel
theorem nf__return_to___run : (("_return_to" : Str) = "_run") = False := eq_false (by decide +kernel)
theorem nb__return_to___run : (("_return_to" : Str) == "_run") = false := by decide +kernel
theorem nf__return_to___splitter_at : (("_return_to" : Str) = "_splitter_at") = False := eq_false (by decide +kernel)
theorem nb__return_to___splitter_at : (("_return_to" : Str) == "_splitter_at") = false := by decide +kernel
theorem nf__return_to___walk : (("_return_to" : Str) = "_walk") = False := eq_false (by decide +kernel)
theorem nb__return_to___walk : (("_return_to" : Str) == "_walk") = false := by decide +kernel
theorem nf__return_to__cells : (("_return_to" : Str) = "cells") = False := eq_false (by decide +kernel)
theorem nb__return_to__cells : (("_return_to" : Str) == "cells") = false := by decide +kernel
theorem nf__return_to__closed : (("_return_to" : Str) = "closed") = False := eq_false (by decide +kernel)
theorem nb__return_to__closed : (("_return_to" : Str) == "closed") = false := by decide +kernel
theorem nf__return_to__diagonal : (("_return_to" : Str) = "diagonal") = False := eq_false (by decide +kernel)
theorem nb__return_to__diagonal : (("_return_to" : Str) == "diagonal") = false := by decide +kernel
theorem nf__return_to__done : (("_return_to" : Str) = "done") = False := eq_false (by decide +kernel)
theorem nb__return_to__done : (("_return_to" : Str) == "done") = false := by decide +kernel
theorem nf__return_to__names : (("_return_to" : Str) = "names") = False := eq_false (by decide +kernel)
theorem nb__return_to__names : (("_return_to" : Str) == "names") = false := by decide +kernel
theorem nf__return_to__places : (("_return_to" : Str) = "places") = False := eq_false (by decide +kernel)
theorem nb__return_to__places : (("_return_to" : Str) == "places") = false := by decide +kernel
theorem nf__return_to__play : (("_return_to" : Str) = "play") = False := eq_false (by decide +kernel)
theorem nb__return_to__play : (("_return_to" : Str) == "play") = false := by decide +kernel
theorem nf__return_to__process_count : (("_return_to" : Str) = "process_count") = False := eq_false (by decide +kernel)
theorem nb__return_to__process_count : (("_return_to" : Str) == "process_count") = false := by decide +kernel
theorem nf__return_to__reports : (("_return_to" : Str) = "reports") = False := eq_false (by decide +kernel)
theorem nb__return_to__reports : (("_return_to" : Str) == "reports") = false := by decide +kernel
theorem nf__return_to__steps : (("_return_to" : Str) = "steps") = False := eq_false (by decide +kernel)
theorem nb__return_to__steps : (("_return_to" : Str) == "steps") = false := by decide +kernel
theorem nf__return_to__steps_done : (("_return_to" : Str) = "steps_done") = False := eq_false (by decide +kernel)
theorem nb__return_to__steps_done : (("_return_to" : Str) == "steps_done") = false := by decide +kernel
theorem nf__return_to__writer : (("_return_to" : Str) = "writer") = False := eq_false (by decide +kernel)
theorem nb__return_to__writer : (("_return_to" : Str) == "writer") = false := by decide +kernel
theorem nf__run___end_in_cell : (("_run" : Str) = "_end_in_cell") = False := eq_false (by decide +kernel)
theorem nb__run___end_in_cell : (("_run" : Str) == "_end_in_cell") = false := by decide +kernel
theorem nf__run___marks : (("_run" : Str) = "_marks") = False := eq_false (by decide +kernel)
theorem nb__run___marks : (("_run" : Str) == "_marks") = false := by decide +kernel
theorem nf__run___return_to : (("_run" : Str) = "_return_to") = False := eq_false (by decide +kernel)
theorem nb__run___return_to : (("_run" : Str) == "_return_to") = false := by decide +kernel
theorem nf__run___splitter_at : (("_run" : Str) = "_splitter_at") = False := eq_false (by decide +kernel)
theorem nb__run___splitter_at : (("_run" : Str) == "_splitter_at") = false := by decide +kernel
theorem nf__run___walk : (("_run" : Str) = "_walk") = False := eq_false (by decide +kernel)
theorem nb__run___walk : (("_run" : Str) == "_walk") = false := by decide +kernel
theorem nf__run__cells : (("_run" : Str) = "cells") = False := eq_false (by decide +kernel)
theorem nb__run__cells : (("_run" : Str) == "cells") = false := by decide +kernel
theorem nf__run__closed : (("_run" : Str) = "closed") = False := eq_false (by decide +kernel)
theorem nb__run__closed : (("_run" : Str) == "closed") = false := by decide +kernel
theorem nf__run__diagonal : (("_run" : Str) = "diagonal") = False := eq_false (by decide +kernel)
theorem nb__run__diagonal : (("_run" : Str) == "diagonal") = false := by decide +kernel
theorem nf__run__done : (("_run" : Str) = "done") = False := eq_false (by decide +kernel)
theorem nb__run__done : (("_run" : Str) == "done") = false := by decide +kernel
theorem nf__run__names : (("_run" : Str) = "names") = False := eq_false (by decide +kernel)
theorem nb__run__names : (("_run" : Str) == "names") = false := by decide +kernel
theorem nf__run__places : (("_run" : Str) = "places") = False := eq_false (by decide +kernel)
theorem nb__run__places : (("_run" : Str) == "places") = false := by decide +kernel
theorem nf__run__play : (("_run" : Str) = "play") = False := eq_false (by decide +kernel)
theorem nb__run__play : (("_run" : Str) == "play") = false := by decide +kernel
theorem nf__run__process_count : (("_run" : Str) = "process_count") = False := eq_false (by decide +kernel)
theorem nb__run__process_count : (("_run" : Str) == "process_count") = false := by decide +kernel
theorem nf__run__reports : (("_run" : Str) = "reports") = False := eq_false (by decide +kernel)
theorem nb__run__reports : (("_run" : Str) == "reports") = false := by decide +kernel
theorem nf__run__steps : (("_run" : Str) = "steps") = False := eq_false (by decide +kernel)
theorem nb__run__steps : (("_run" : Str) == "steps") = false := by decide +kernel
theorem nf__run__steps_done : (("_run" : Str) = "steps_done") = False := eq_false (by decide +kernel)
theorem nb__run__steps_done : (("_run" : Str) == "steps_done") = false := by decide +kernel
theorem nf__run__writer : (("_run" : Str) = "writer") = False := eq_false (by decide +kernel)
theorem nb__run__writer : (("_run" : Str) == "writer") = false := by decide +kernel
theorem nf__splitter_at___end_in_cell : (("_splitter_at" : Str) = "_end_in_cell") = False := eq_false (by decide +kernel)
theorem nb__splitter_at___end_in_cell : (("_splitter_at" : Str) == "_end_in_cell") = false := by decide +kernel
theorem nf__splitter_at___marks : (("_splitter_at" : Str) = "_marks") = False := eq_false (by decide +kernel)
theorem nb__splitter_at___marks : (("_splitter_at" : Str) == "_marks") = false := by decide +kernel
theorem nf__splitter_at___return_to : (("_splitter_at" : Str) = "_return_to") = False := eq_false (by decide +kernel)
theorem nb__splitter_at___return_to : (("_splitter_at" : Str) == "_return_to") = false := by decide +kernel
theorem nf__splitter_at___run : (("_splitter_at" : Str) = "_run") = False := eq_false (by decide +kernel)
theorem nb__splitter_at___run : (("_splitter_at" : Str) == "_run") = false := by decide +kernel
theorem nf__splitter_at___walk : (("_splitter_at" : Str) = "_walk") = False := eq_false (by decide +kernel)
theorem nb__splitter_at___walk : (("_splitter_at" : Str) == "_walk") = false := by decide +kernel
theorem nf__splitter_at__cells : (("_splitter_at" : Str) = "cells") = False := eq_false (by decide +kernel)
theorem nb__splitter_at__cells : (("_splitter_at" : Str) == "cells") = false := by decide +kernel
theorem nf__splitter_at__closed : (("_splitter_at" : Str) = "closed") = False := eq_false (by decide +kernel)
theorem nb__splitter_at__closed : (("_splitter_at" : Str) == "closed") = false := by decide +kernel
theorem nf__splitter_at__diagonal : (("_splitter_at" : Str) = "diagonal") = False := eq_false (by decide +kernel)
theorem nb__splitter_at__diagonal : (("_splitter_at" : Str) == "diagonal") = false := by decide +kernel
theorem nf__splitter_at__done : (("_splitter_at" : Str) = "done") = False := eq_false (by decide +kernel)
theorem nb__splitter_at__done : (("_splitter_at" : Str) == "done") = false := by decide +kernel
theorem nf__splitter_at__names : (("_splitter_at" : Str) = "names") = False := eq_false (by decide +kernel)
theorem nb__splitter_at__names : (("_splitter_at" : Str) == "names") = false := by decide +kernel
theorem nf__splitter_at__places : (("_splitter_at" : Str) = "places") = False := eq_false (by decide +kernel)
theorem nb__splitter_at__places : (("_splitter_at" : Str) == "places") = false := by decide +kernel
theorem nf__splitter_at__play : (("_splitter_at" : Str) = "play") = False := eq_false (by decide +kernel)
theorem nb__splitter_at__play : (("_splitter_at" : Str) == "play") = false := by decide +kernel
theorem nf__splitter_at__process_count : (("_splitter_at" : Str) = "process_count") = False := eq_false (by decide +kernel)
theorem nb__splitter_at__process_count : (("_splitter_at" : Str) == "process_count") = false := by decide +kernel
theorem nf__splitter_at__reports : (("_splitter_at" : Str) = "reports") = False := eq_false (by decide +kernel)
theorem nb__splitter_at__reports : (("_splitter_at" : Str) == "reports") = false := by decide +kernel
theorem nf__splitter_at__steps : (("_splitter_at" : Str) = "steps") = False := eq_false (by decide +kernel)
theorem nb__splitter_at__steps : (("_splitter_at" : Str) == "steps") = false := by decide +kernel
theorem nf__splitter_at__steps_done : (("_splitter_at" : Str) = "steps_done") = False := eq_false (by decide +kernel)
theorem nb__splitter_at__steps_done : (("_splitter_at" : Str) == "steps_done") = false := by decide +kernel
theorem nf__splitter_at__writer : (("_splitter_at" : Str) = "writer") = False := eq_false (by decide +kernel)
theorem nb__splitter_at__writer : (("_splitter_at" : Str) == "writer") = false := by decide +kernel
theorem nf__walk___end_in_cell : (("_walk" : Str) = "_end_in_cell") = False := eq_false (by decide +kernel)
theorem nb__walk___end_in_cell : (("_walk" : Str) == "_end_in_cell") = false := by decide +kernel
theorem nf__walk___marks : (("_walk" : Str) = "_marks") = False := eq_false (by decide +kernel)
theorem nb__walk___marks : (("_walk" : Str) == "_marks") = false := by decide +kernel
theorem nf__walk___return_to : (("_walk" : Str) = "_return_to") = False := eq_false (by decide +kernel)
theorem nb__walk___return_to : (("_walk" : Str) == "_return_to") = false := by decide +kernel
theorem nf__walk___run : (("_walk" : Str) = "_run") = False := eq_false (by decide +kernel)
theorem nb__walk___run : (("_walk" : Str) == "_run") = false := by decide +kernel
theorem nf__walk___splitter_at : (("_walk" : Str) = "_splitter_at") = False := eq_false (by decide +kernel)
theorem nb__walk___splitter_at : (("_walk" : Str) == "_splitter_at") = false := by decide +kernel
theorem nf__walk__cells : (("_walk" : Str) = "cells") = False := eq_false (by decide +kernel)
theorem nb__walk__cells : (("_walk" : Str) == "cells") = false := by decide +kernel
theorem nf__walk__closed : (("_walk" : Str) = "closed") = False := eq_false (by decide +kernel)
theorem nb__walk__closed : (("_walk" : Str) == "closed") = false := by decide +kernel
theorem nf__walk__diagonal : (("_walk" : Str) = "diagonal") = False := eq_false (by decide +kernel)
theorem nb__walk__diagonal : (("_walk" : Str) == "diagonal") = false := by decide +kernel
theorem nf__walk__done : (("_walk" : Str) = "done") = False := eq_false (by decide +kernel)
theorem nb__walk__done : (("_walk" : Str) == "done") = false := by decide +kernel
theorem nf__walk__names : (("_walk" : Str) = "names") = False := eq_false (by decide +kernel)
theorem nb__walk__names : (("_walk" : Str) == "names") = false := by decide +kernel
theorem nf__walk__places : (("_walk" : Str) = "places") = False := eq_false (by decide +kernel)
theorem nb__walk__places : (("_walk" : Str) == "places") = false := by decide +kernel
theorem nf__walk__play : (("_walk" : Str) = "play") = False := eq_false (by decide +kernel)
theorem nb__walk__play : (("_walk" : Str) == "play") = false := by decide +kernel
theorem nf__walk__process_count : (("_walk" : Str) = "process_count") = False := eq_false (by decide +kernel)
theorem nb__walk__process_count : (("_walk" : Str) == "process_count") = false := by decide +kernel
theorem nf__walk__reports : (("_walk" : Str) = "reports") = False := eq_false (by decide +kernel)
theorem nb__walk__reports : (("_walk" : Str) == "reports") = false := by decide +kernel
theorem nf__walk__steps : (("_walk" : Str) = "steps") = False := eq_false (by decide +kernel)
theorem nb__walk__steps : (("_walk" : Str) == "steps") = false := by decide +kernel
theorem nf__walk__steps_done : (("_walk" : Str) = "steps_done") = False := eq_false (by decide +kernel)
theorem nb__walk__steps_done : (("_walk" : Str) == "steps_done") = false := by decide +kernel
theorem nf__walk__writer : (("_walk" : Str) = "writer") = False := eq_false (by decide +kernel)
theorem nb__walk__writer : (("_walk" : Str) == "writer") = false := by decide +kernel
theorem nf_cells___end_in_cell : (("cells" : Str) = "_end_in_cell") = False := eq_false (by decide +kernel)
theorem nb_cells___end_in_cell : (("cells" : Str) == "_end_in_cell") = false := by decide +kernel
theorem nf_cells___marks : (("cells" : Str) = "_marks") = False := eq_false (by decide +kernel)
theorem nb_cells___marks : (("cells" : Str) == "_marks") = false := by decide +kernel
theorem nf_cells___return_to : (("cells" : Str) = "_return_to") = False := eq_false (by decide +kernel)
theorem nb_cells___return_to : (("cells" : Str) == "_return_to") = false := by decide +kernel
theorem nf_cells___run : (("cells" : Str) = "_run") = False := eq_false (by decide +kernel)
theorem nb_cells___run : (("cells" : Str) == "_run") = false := by decide +kernel
theorem nf_cells___splitter_at : (("cells" : Str) = "_splitter_at") = False := eq_false (by decide +kernel)
theorem nb_cells___splitter_at : (("cells" : Str) == "_splitter_at") = false := by decide +kernel
theorem nf_cells___walk : (("cells" : Str) = "_walk") = False := eq_false (by decide +kernel)
theorem nb_cells___walk : (("cells" : Str) == "_walk") = false := by decide +kernel
theorem nf_cells__closed : (("cells" : Str) = "closed") = False := eq_false (by decide +kernel)
theorem nb_cells__closed : (("cells" : Str) == "closed") = false := by decide +kernel
theorem nf_cells__diagonal : (("cells" : Str) = "diagonal") = False := eq_false (by decide +kernel)
theorem nb_cells__diagonal : (("cells" : Str) == "diagonal") = false := by decide +kernel
theorem nf_cells__done : (("cells" : Str) = "done") = False := eq_false (by decide +kernel)
theorem nb_cells__done : (("cells" : Str) == "done") = false := by decide +kernel
theorem nf_cells__names : (("cells" : Str) = "names") = False := eq_false (by decide +kernel)
theorem nb_cells__names : (("cells" : Str) == "names") = false := by decide +kernel
theorem nf_cells__places : (("cells" : Str) = "places") = False := eq_false (by decide +kernel)
theorem nb_cells__places : (("cells" : Str) == "places") = false := by decide +kernel
theorem nf_cells__play : (("cells" : Str) = "play") = False := eq_false (by decide +kernel)
theorem nb_cells__play : (("cells" : Str) == "play") = false := by decide +kernel
theorem nf_cells__process_count : (("cells" : Str) = "process_count") = False := eq_false (by decide +kernel)
theorem nb_cells__process_count : (("cells" : Str) == "process_count") = false := by decide +kernel
theorem nf_cells__reports : (("cells" : Str) = "reports") = False := eq_false (by decide +kernel)
theorem nb_cells__reports : (("cells" : Str) == "reports") = false := by decide +kernel
theorem nf_cells__steps : (("cells" : Str) = "steps") = False := eq_false (by decide +kernel)
theorem nb_cells__steps : (("cells" : Str) == "steps") = false := by decide +kernel
theorem nf_cells__steps_done : (("cells" : Str) = "steps_done") = False := eq_false (by decide +kernel)
theorem nb_cells__steps_done : (("cells" : Str) == "steps_done") = false := by decide +kernel
theorem nf_cells__writer : (("cells" : Str) = "writer") = False := eq_false (by decide +kernel)
theorem nb_cells__writer : (("cells" : Str) == "writer") = false := by decide +kernel
theorem nf_closed___end_in_cell : (("closed" : Str) = "_end_in_cell") = False := eq_false (by decide +kernel)
theorem nb_closed___end_in_cell : (("closed" : Str) == "_end_in_cell") = false := by decide +kernel
theorem nf_closed___marks : (("closed" : Str) = "_marks") = False := eq_false (by decide +kernel)
theorem nb_closed___marks : (("closed" : Str) == "_marks") = false := by decide +kernel
theorem nf_closed___return_to : (("closed" : Str) = "_return_to") = False := eq_false (by decide +kernel)
theorem nb_closed___return_to : (("closed" : Str) == "_return_to") = false := by decide +kernel
theorem nf_closed___run : (("closed" : Str) = "_run") = False := eq_false (by decide +kernel)
theorem nb_closed___run : (("closed" : Str) == "_run") = false := by decide +kernel
theorem nf_closed___splitter_at : (("closed" : Str) = "_splitter_at") = False := eq_false (by decide +kernel)
theorem nb_closed___splitter_at : (("closed" : Str) == "_splitter_at") = false := by decide +kernel
theorem nf_closed___walk : (("closed" : Str) = "_walk") = False := eq_false (by decide +kernel)
theorem nb_closed___walk : (("closed" : Str) == "_walk") = false := by decide +kernel
theorem nf_closed__cells : (("closed" : Str) = "cells") = False := eq_false (by decide +kernel)
theorem nb_closed__cells : (("closed" : Str) == "cells") = false := by decide +kernel
theorem nf_closed__diagonal : (("closed" : Str) = "diagonal") = False := eq_false (by decide +kernel)
theorem nb_closed__diagonal : (("closed" : Str) == "diagonal") = false := by decide +kernel
theorem nf_closed__done : (("closed" : Str) = "done") = False := eq_false (by decide +kernel)
theorem nb_closed__done : (("closed" : Str) == "done") = false := by decide +kernel
theorem nf_closed__names : (("closed" : Str) = "names") = False := eq_false (by decide +kernel)
theorem nb_closed__names : (("closed" : Str) == "names") = false := by decide +kernel
theorem nf_closed__places : (("closed" : Str) = "places") = False := eq_false (by decide +kernel)
theorem nb_closed__places : (("closed" : Str) == "places") = false := by decide +kernel
theorem nf_closed__play : (("closed" : Str) = "play") = False := eq_false (by decide +kernel)
theorem nb_closed__play : (("closed" : Str) == "play") = false := by decide +kernel
theorem nf_closed__process_count : (("closed" : Str) = "process_count") = False := eq_false (by decide +kernel)
theorem nb_closed__process_count : (("closed" : Str) == "process_count") = false := by decide +kernel
theorem nf_closed__reports : (("closed" : Str) = "reports") = False := eq_false (by decide +kernel)
theorem nb_closed__reports : (("closed" : Str) == "reports") = false := by decide +kernel
theorem nf_closed__steps : (("closed" : Str) = "steps") = False := eq_false (by decide +kernel)
theorem nb_closed__steps : (("closed" : Str) == "steps") = false := by decide +kernel
theorem nf_closed__steps_done : (("closed" : Str) = "steps_done") = False := eq_false (by decide +kernel)
theorem nb_closed__steps_done : (("closed" : Str) == "steps_done") = false := by decide +kernel
theorem nf_closed__writer : (("closed" : Str) = "writer") = False := eq_false (by decide +kernel)
theorem nb_closed__writer : (("closed" : Str) == "writer") = false := by decide +kernel
theorem nf_diagonal___end_in_cell : (("diagonal" : Str) = "_end_in_cell") = False := eq_false (by decide +kernel)
theorem nb_diagonal___end_in_cell : (("diagonal" : Str) == "_end_in_cell") = false := by decide +kernel
theorem nf_diagonal___marks : (("diagonal" : Str) = "_marks") = False := eq_false (by decide +kernel)
theorem nb_diagonal___marks : (("diagonal" : Str) == "_marks") = false := by decide +kernel
theorem nf_diagonal___return_to : (("diagonal" : Str) = "_return_to") = False := eq_false (by decide +kernel)
theorem nb_diagonal___return_to : (("diagonal" : Str) == "_return_to") = false := by decide +kernel
theorem nf_diagonal___run : (("diagonal" : Str) = "_run") = False := eq_false (by decide +kernel)
theorem nb_diagonal___run : (("diagonal" : Str) == "_run") = false := by decide +kernel
theorem nf_diagonal___splitter_at : (("diagonal" : Str) = "_splitter_at") = False := eq_false (by decide +kernel)
theorem nb_diagonal___splitter_at : (("diagonal" : Str) == "_splitter_at") = false := by decide +kernel
theorem nf_diagonal___walk : (("diagonal" : Str) = "_walk") = False := eq_false (by decide +kernel)
theorem nb_diagonal___walk : (("diagonal" : Str) == "_walk") = false := by decide +kernel
theorem nf_diagonal__cells : (("diagonal" : Str) = "cells") = False := eq_false (by decide +kernel)
theorem nb_diagonal__cells : (("diagonal" : Str) == "cells") = false := by decide +kernel
theorem nf_diagonal__closed : (("diagonal" : Str) = "closed") = False := eq_false (by decide +kernel)
theorem nb_diagonal__closed : (("diagonal" : Str) == "closed") = false := by decide +kernel
theorem nf_diagonal__done : (("diagonal" : Str) = "done") = False := eq_false (by decide +kernel)
theorem nb_diagonal__done : (("diagonal" : Str) == "done") = false := by decide +kernel
theorem nf_diagonal__names : (("diagonal" : Str) = "names") = False := eq_false (by decide +kernel)
theorem nb_diagonal__names : (("diagonal" : Str) == "names") = false := by decide +kernel
theorem nf_diagonal__places : (("diagonal" : Str) = "places") = False := eq_false (by decide +kernel)
theorem nb_diagonal__places : (("diagonal" : Str) == "places") = false := by decide +kernel
theorem nf_diagonal__play : (("diagonal" : Str) = "play") = False := eq_false (by decide +kernel)
theorem nb_diagonal__play : (("diagonal" : Str) == "play") = false := by decide +kernel
theorem nf_diagonal__process_count : (("diagonal" : Str) = "process_count") = False := eq_false (by decide +kernel)
theorem nb_diagonal__process_count : (("diagonal" : Str) == "process_count") = false := by decide +kernel
theorem nf_diagonal__reports : (("diagonal" : Str) = "reports") = False := eq_false (by decide +kernel)
theorem nb_diagonal__reports : (("diagonal" : Str) == "reports") = false := by decide +kernel
theorem nf_diagonal__steps : (("diagonal" : Str) = "steps") = False := eq_false (by decide +kernel)
theorem nb_diagonal__steps : (("diagonal" : Str) == "steps") = false := by decide +kernel
theorem nf_diagonal__steps_done : (("diagonal" : Str) = "steps_done") = False := eq_false (by decide +kernel)
theorem nb_diagonal__steps_done : (("diagonal" : Str) == "steps_done") = false := by decide +kernel
theorem nf_diagonal__writer : (("diagonal" : Str) = "writer") = False := eq_false (by decide +kernel)
theorem nb_diagonal__writer : (("diagonal" : Str) == "writer") = false := by decide +kernel
theorem nf_done___end_in_cell : (("done" : Str) = "_end_in_cell") = False := eq_false (by decide +kernel)
theorem nb_done___end_in_cell : (("done" : Str) == "_end_in_cell") = false := by decide +kernel
theorem nf_done___marks : (("done" : Str) = "_marks") = False := eq_false (by decide +kernel)
theorem nb_done___marks : (("done" : Str) == "_marks") = false := by decide +kernel
theorem nf_done___return_to : (("done" : Str) = "_return_to") = False := eq_false (by decide +kernel)
theorem nb_done___return_to : (("done" : Str) == "_return_to") = false := by decide +kernel
theorem nf_done___run : (("done" : Str) = "_run") = False := eq_false (by decide +kernel)
theorem nb_done___run : (("done" : Str) == "_run") = false := by decide +kernel
theorem nf_done___splitter_at : (("done" : Str) = "_splitter_at") = False := eq_false (by decide +kernel)
theorem nb_done___splitter_at : (("done" : Str) == "_splitter_at") = false := by decide +kernel
theorem nf_done___walk : (("done" : Str) = "_walk") = False := eq_false (by decide +kernel)
theorem nb_done___walk : (("done" : Str) == "_walk") = false := by decide +kernel
theorem nf_done__cells : (("done" : Str) = "cells") = False := eq_false (by decide +kernel)
theorem nb_done__cells : (("done" : Str) == "cells") = false := by decide +kernel
theorem nf_done__closed : (("done" : Str) = "closed") = False := eq_false (by decide +kernel)
theorem nb_done__closed : (("done" : Str) == "closed") = false := by decide +kernel
theorem nf_done__diagonal : (("done" : Str) = "diagonal") = False := eq_false (by decide +kernel)
theorem nb_done__diagonal : (("done" : Str) == "diagonal") = false := by decide +kernel
theorem nf_done__names : (("done" : Str) = "names") = False := eq_false (by decide +kernel)
theorem nb_done__names : (("done" : Str) == "names") = false := by decide +kernel
theorem nf_done__places : (("done" : Str) = "places") = False := eq_false (by decide +kernel)
theorem nb_done__places : (("done" : Str) == "places") = false := by decide +kernel
theorem nf_done__play : (("done" : Str) = "play") = False := eq_false (by decide +kernel)
theorem nb_done__play : (("done" : Str) == "play") = false := by decide +kernel
theorem nf_done__process_count : (("done" : Str) = "process_count") = False := eq_false (by decide +kernel)
theorem nb_done__process_count : (("done" : Str) == "process_count") = false := by decide +kernel
theorem nf_done__reports : (("done" : Str) = "reports") = False := eq_false (by decide +kernel)
theorem nb_done__reports : (("done" : Str) == "reports") = false := by decide +kernel
theorem nf_done__steps : (("done" : Str) = "steps") = False := eq_false (by decide +kernel)
theorem nb_done__steps : (("done" : Str) == "steps") = false := by decide +kernel
theorem nf_done__steps_done : (("done" : Str) = "steps_done") = False := eq_false (by decide +kernel)
theorem nb_done__steps_done : (("done" : Str) == "steps_done") = false := by decide +kernel
theorem nf_done__writer : (("done" : Str) = "writer") = False := eq_false (by decide +kernel)
theorem nb_done__writer : (("done" : Str) == "writer") = false := by decide +kernel
theorem nf_names___end_in_cell : (("names" : Str) = "_end_in_cell") = False := eq_false (by decide +kernel)
theorem nb_names___end_in_cell : (("names" : Str) == "_end_in_cell") = false := by decide +kernel
theorem nf_names___marks : (("names" : Str) = "_marks") = False := eq_false (by decide +kernel)
theorem nb_names___marks : (("names" : Str) == "_marks") = false := by decide +kernel
theorem nf_names___return_to : (("names" : Str) = "_return_to") = False := eq_false (by decide +kernel)
theorem nb_names___return_to : (("names" : Str) == "_return_to") = false := by decide +kernel
theorem nf_names___run : (("names" : Str) = "_run") = False := eq_false (by decide +kernel)
theorem nb_names___run : (("names" : Str) == "_run") = false := by decide +kernel
theorem nf_names___splitter_at : (("names" : Str) = "_splitter_at") = False := eq_false (by decide +kernel)
theorem nb_names___splitter_at : (("names" : Str) == "_splitter_at") = false := by decide +kernel
theorem nf_names___walk : (("names" : Str) = "_walk") = False := eq_false (by decide +kernel)
theorem nb_names___walk : (("names" : Str) == "_walk") = false := by decide +kernel
theorem nf_names__cells : (("names" : Str) = "cells") = False := eq_false (by decide +kernel)
theorem nb_names__cells : (("names" : Str) == "cells") = false := by decide +kernel
theorem nf_names__closed : (("names" : Str) = "closed") = False := eq_false (by decide +kernel)
theorem nb_names__closed : (("names" : Str) == "closed") = false := by decide +kernel
theorem nf_names__diagonal : (("names" : Str) = "diagonal") = False := eq_false (by decide +kernel)
theorem nb_names__diagonal : (("names" : Str) == "diagonal") = false := by decide +kernel
theorem nf_names__done : (("names" : Str) = "done") = False := eq_false (by decide +kernel)
theorem nb_names__done : (("names" : Str) == "done") = false := by decide +kernel
theorem nf_names__places : (("names" : Str) = "places") = False := eq_false (by decide +kernel)
theorem nb_names__places : (("names" : Str) == "places") = false := by decide +kernel
theorem nf_names__play : (("names" : Str) = "play") = False := eq_false (by decide +kernel)
theorem nb_names__play : (("names" : Str) == "play") = false := by decide +kernel
theorem nf_names__process_count : (("names" : Str) = "process_count") = False := eq_false (by decide +kernel)
theorem nb_names__process_count : (("names" : Str) == "process_count") = false := by decide +kernel
theorem nf_names__reports : (("names" : Str) = "reports") = False := eq_false (by decide +kernel)
theorem nb_names__reports : (("names" : Str) == "reports") = false := by decide +kernel
theorem nf_names__steps : (("names" : Str) = "steps") = False := eq_false (by decide +kernel)
theorem nb_names__steps : (("names" : Str) == "steps") = false := by decide +kernel
theorem nf_names__steps_done : (("names" : Str) = "steps_done") = False := eq_false (by decide +kernel)
theorem nb_names__steps_done : (("names" : Str) == "steps_done") = false := by decide +kernel
theorem nf_names__writer : (("names" : Str) = "writer") = False := eq_false (by decide +kernel)
theorem nb_names__writer : (("names" : Str) == "writer") = false := by decide +kernel
theorem nf_places___end_in_cell : (("places" : Str) = "_end_in_cell") = False := eq_false (by decide +kernel)
theorem nb_places___end_in_cell : (("places" : Str) == "_end_in_cell") = false := by decide +kernel
theorem nf_places___marks : (("places" : Str) = "_marks") = False := eq_false (by decide +kernel)
theorem nb_places___marks : (("places" : Str) == "_marks") = false := by decide +kernel
theorem nf_places___return_to : (("places" : Str) = "_return_to") = False := eq_false (by decide +kernel)
theorem nb_places___return_to : (("places" : Str) == "_return_to") = false := by decide +kernel
theorem nf_places___run : (("places" : Str) = "_run") = False := eq_false (by decide +kernel)
theorem nb_places___run : (("places" : Str) == "_run") = false := by decide +kernel
theorem nf_places___splitter_at : (("places" : Str) = "_splitter_at") = False := eq_false (by decide +kernel)
theorem nb_places___splitter_at : (("places" : Str) == "_splitter_at") = false := by decide +kernel
theorem nf_places___walk : (("places" : Str) = "_walk") = False := eq_false (by decide +kernel)
theorem nb_places___walk : (("places" : Str) == "_walk") = false := by decide +kernel
theorem nf_places__cells : (("places" : Str) = "cells") = False := eq_false (by decide +kernel)
theorem nb_places__cells : (("places" : Str) == "cells") = false := by decide +kernel
theorem nf_places__closed : (("places" : Str) = "closed") = False := eq_false (by decide +kernel)
theorem nb_places__closed : (("places" : Str) == "closed") = false := by decide +kernel
theorem nf_places__diagonal : (("places" : Str) = "diagonal") = False := eq_false (by decide +kernel)
theorem nb_places__diagonal : (("places" : Str) == "diagonal") = false := by decide +kernel
theorem nf_places__done : (("places" : Str) = "done") = False := eq_false (by decide +kernel)
theorem nb_places__done : (("places" : Str) == "done") = false := by decide +kernel
theorem nf_places__names : (("places" : Str) = "names") = False := eq_false (by decide +kernel)
theorem nb_places__names : (("places" : Str) == "names") = false := by decide +kernel
theorem nf_places__play : (("places" : Str) = "play") = False := eq_false (by decide +kernel)
theorem nb_places__play : (("places" : Str) == "play") = false := by decide +kernel
theorem nf_places__process_count : (("places" : Str) = "process_count") = False := eq_false (by decide +kernel)
theorem nb_places__process_count : (("places" : Str) == "process_count") = false := by decide +kernel
theorem nf_places__reports : (("places" : Str) = "reports") = False := eq_false (by decide +kernel)
theorem nb_places__reports : (("places" : Str) == "reports") = false := by decide +kernel
theorem nf_places__steps : (("places" : Str) = "steps") = False := eq_false (by decide +kernel)
theorem nb_places__steps : (("places" : Str) == "steps") = false := by decide +kernel
theorem nf_places__steps_done : (("places" : Str) = "steps_done") = False := eq_false (by decide +kernel)
theorem nb_places__steps_done : (("places" : Str) == "steps_done") = false := by decide +kernel
theorem nf_places__writer : (("places" : Str) = "writer") = False := eq_false (by decide +kernel)
theorem nb_places__writer : (("places" : Str) == "writer") = false := by decide +kernel
theorem nf_play___end_in_cell : (("play" : Str) = "_end_in_cell") = False := eq_false (by decide +kernel)
theorem nb_play___end_in_cell : (("play" : Str) == "_end_in_cell") = false := by decide +kernel
theorem nf_play___marks : (("play" : Str) = "_marks") = False := eq_false (by decide +kernel)
theorem nb_play___marks : (("play" : Str) == "_marks") = false := by decide +kernel
theorem nf_play___return_to : (("play" : Str) = "_return_to") = False := eq_false (by decide +kernel)
theorem nb_play___return_to : (("play" : Str) == "_return_to") = false := by decide +kernel
theorem nf_play___run : (("play" : Str) = "_run") = False := eq_false (by decide +kernel)
theorem nb_play___run : (("play" : Str) == "_run") = false := by decide +kernel
theorem nf_play___splitter_at : (("play" : Str) = "_splitter_at") = False := eq_false (by decide +kernel)
theorem nb_play___splitter_at : (("play" : Str) == "_splitter_at") = false := by decide +kernel
theorem nf_play___walk : (("play" : Str) = "_walk") = False := eq_false (by decide +kernel)
theorem nb_play___walk : (("play" : Str) == "_walk") = false := by decide +kernel
theorem nf_play__cells : (("play" : Str) = "cells") = False := eq_false (by decide +kernel)
theorem nb_play__cells : (("play" : Str) == "cells") = false := by decide +kernel
theorem nf_play__closed : (("play" : Str) = "closed") = False := eq_false (by decide +kernel)
theorem nb_play__closed : (("play" : Str) == "closed") = false := by decide +kernel
theorem nf_play__diagonal : (("play" : Str) = "diagonal") = False := eq_false (by decide +kernel)
theorem nb_play__diagonal : (("play" : Str) == "diagonal") = false := by decide +kernel
theorem nf_play__done : (("play" : Str) = "done") = False := eq_false (by decide +kernel)
theorem nb_play__done : (("play" : Str) == "done") = false := by decide +kernel
theorem nf_play__names : (("play" : Str) = "names") = False := eq_false (by decide +kernel)
theorem nb_play__names : (("play" : Str) == "names") = false := by decide +kernel
theorem nf_play__places : (("play" : Str) = "places") = False := eq_false (by decide +kernel)
theorem nb_play__places : (("play" : Str) == "places") = false := by decide +kernel
theorem nf_play__process_count : (("play" : Str) = "process_count") = False := eq_false (by decide +kernel)
theorem nb_play__process_count : (("play" : Str) == "process_count") = false := by decide +kernel
theorem nf_play__reports : (("play" : Str) = "reports") = False := eq_false (by decide +kernel)
theorem nb_play__reports : (("play" : Str) == "reports") = false := by decide +kernel
theorem nf_play__steps : (("play" : Str) = "steps") = False := eq_false (by decide +kernel)
theorem nb_play__steps : (("play" : Str) == "steps") = false := by decide +kernel
theorem nf_play__steps_done : (("play" : Str) = "steps_done") = False := eq_false (by decide +kernel)
theorem nb_play__steps_done : (("play" : Str) == "steps_done") = false := by decide +kernel
theorem nf_play__writer : (("play" : Str) = "writer") = False := eq_false (by decide +kernel)
theorem nb_play__writer : (("play" : Str) == "writer") = false := by decide +kernel
theorem nf_process_count___end_in_cell : (("process_count" : Str) = "_end_in_cell") = False := eq_false (by decide +kernel)
theorem nb_process_count___end_in_cell : (("process_count" : Str) == "_end_in_cell") = false := by decide +kernel
theorem nf_process_count___marks : (("process_count" : Str) = "_marks") = False := eq_false (by decide +kernel)
theorem nb_process_count___marks : (("process_count" : Str) == "_marks") = false := by decide +kernel
theorem nf_process_count___return_to : (("process_count" : Str) = "_return_to") = False := eq_false (by decide +kernel)
theorem nb_process_count___return_to : (("process_count" : Str) == "_return_to") = false := by decide +kernel
theorem nf_process_count___run : (("process_count" : Str) = "_run") = False := eq_false (by decide +kernel)
theorem nb_process_count___run : (("process_count" : Str) == "_run") = false := by decide +kernel
theorem nf_process_count___splitter_at : (("process_count" : Str) = "_splitter_at") = False := eq_false (by decide +kernel)
theorem nb_process_count___splitter_at : (("process_count" : Str) == "_splitter_at") = false := by decide +kernel
theorem nf_process_count___walk : (("process_count" : Str) = "_walk") = False := eq_false (by decide +kernel)
theorem nb_process_count___walk : (("process_count" : Str) == "_walk") = false := by decide +kernel
theorem nf_process_count__cells : (("process_count" : Str) = "cells") = False := eq_false (by decide +kernel)
theorem nb_process_count__cells : (("process_count" : Str) == "cells") = false := by decide +kernel
theorem nf_process_count__closed : (("process_count" : Str) = "closed") = False := eq_false (by decide +kernel)
theorem nb_process_count__closed : (("process_count" : Str) == "closed") = false := by decide +kernel
theorem nf_process_count__diagonal : (("process_count" : Str) = "diagonal") = False := eq_false (by decide +kernel)
theorem nb_process_count__diagonal : (("process_count" : Str) == "diagonal") = false := by decide +kernel
theorem nf_process_count__done : (("process_count" : Str) = "done") = False := eq_false (by decide +kernel)
theorem nb_process_count__done : (("process_count" : Str) == "done") = false := by decide +kernel
theorem nf_process_count__names : (("process_count" : Str) = "names") = False := eq_false (by decide +kernel)
theorem nb_process_count__names : (("process_count" : Str) == "names") = false := by decide +kernel
theorem nf_process_count__places : (("process_count" : Str) = "places") = False := eq_false (by decide +kernel)
theorem nb_process_count__places : (("process_count" : Str) == "places") = false := by decide +kernel
theorem nf_process_count__play : (("process_count" : Str) = "play") = False := eq_false (by decide +kernel)
theorem nb_process_count__play : (("process_count" : Str) == "play") = false := by decide +kernel
theorem nf_process_count__reports : (("process_count" : Str) = "reports") = False := eq_false (by decide +kernel)
theorem nb_process_count__reports : (("process_count" : Str) == "reports") = false := by decide +kernel
theorem nf_process_count__steps : (("process_count" : Str) = "steps") = False := eq_false (by decide +kernel)
theorem nb_process_count__steps : (("process_count" : Str) == "steps") = false := by decide +kernel
theorem nf_process_count__steps_done : (("process_count" : Str) = "steps_done") = False := eq_false (by decide +kernel)
theorem nb_process_count__steps_done : (("process_count" : Str) == "steps_done") = false := by decide +kernel
theorem nf_process_count__writer : (("process_count" : Str) = "writer") = False := eq_false (by decide +kernel)
theorem nb_process_count__writer : (("process_count" : Str) == "writer") = false := by decide +kernel
theorem nf_reports___end_in_cell : (("reports" : Str) = "_end_in_cell") = False := eq_false (by decide +kernel)
theorem nb_reports___end_in_cell : (("reports" : Str) == "_end_in_cell") = false := by decide +kernel
theorem nf_reports___marks : (("reports" : Str) = "_marks") = False := eq_false (by decide +kernel)
theorem nb_reports___marks : (("reports" : Str) == "_marks") = false := by decide +kernel
theorem nf_reports___return_to : (("reports" : Str) = "_return_to") = False := eq_false (by decide +kernel)
theorem nb_reports___return_to : (("reports" : Str) == "_return_to") = false := by decide +kernel
theorem nf_reports___run : (("reports" : Str) = "_run") = False := eq_false (by decide +kernel)
theorem nb_reports___run : (("reports" : Str) == "_run") = false := by decide +kernel
theorem nf_reports___splitter_at : (("reports" : Str) = "_splitter_at") = False := eq_false (by decide +kernel)
theorem nb_reports___splitter_at : (("reports" : Str) == "_splitter_at") = false := by decide +kernel
theorem nf_reports___walk : (("reports" : Str) = "_walk") = False := eq_false (by decide +kernel)
theorem nb_reports___walk : (("reports" : Str) == "_walk") = false := by decide +kernel
theorem nf_reports__cells : (("reports" : Str) = "cells") = False := eq_false (by decide +kernel)
theorem nb_reports__cells : (("reports" : Str) == "cells") = false := by decide +kernel
theorem nf_reports__closed : (("reports" : Str) = "closed") = False := eq_false (by decide +kernel)
theorem nb_reports__closed : (("reports" : Str) == "closed") = false := by decide +kernel
theorem nf_reports__diagonal : (("reports" : Str) = "diagonal") = False := eq_false (by decide +kernel)
theorem nb_reports__diagonal : (("reports" : Str) == "diagonal") = false := by decide +kernel
theorem nf_reports__done : (("reports" : Str) = "done") = False := eq_false (by decide +kernel)
theorem nb_reports__done : (("reports" : Str) == "done") = false := by decide +kernel
theorem nf_reports__names : (("reports" : Str) = "names") = False := eq_false (by decide +kernel)
theorem nb_reports__names : (("reports" : Str) == "names") = false := by decide +kernel
theorem nf_reports__places : (("reports" : Str) = "places") = False := eq_false (by decide +kernel)
theorem nb_reports__places : (("reports" : Str) == "places") = false := by decide +kernel
theorem nf_reports__play : (("reports" : Str) = "play") = False := eq_false (by decide +kernel)
theorem nb_reports__play : (("reports" : Str) == "play") = false := by decide +kernel
theorem nf_reports__process_count : (("reports" : Str) = "process_count") = False := eq_false (by decide +kernel)
theorem nb_reports__process_count : (("reports" : Str) == "process_count") = false := by decide +kernel
theorem nf_reports__steps : (("reports" : Str) = "steps") = False := eq_false (by decide +kernel)
theorem nb_reports__steps : (("reports" : Str) == "steps") = false := by decide +kernel
theorem nf_reports__steps_done : (("reports" : Str) = "steps_done") = False := eq_false (by decide +kernel)
theorem nb_reports__steps_done : (("reports" : Str) == "steps_done") = false := by decide +kernel
theorem nf_reports__writer : (("reports" : Str) = "writer") = False := eq_false (by decide +kernel)
theorem nb_reports__writer : (("reports" : Str) == "writer") = false := by decide +kernel
theorem nf_steps___end_in_cell : (("steps" : Str) = "_end_in_cell") = False := eq_false (by decide +kernel)
theorem nb_steps___end_in_cell : (("steps" : Str) == "_end_in_cell") = false := by decide +kernel
theorem nf_steps___marks : (("steps" : Str) = "_marks") = False := eq_false (by decide +kernel)
theorem nb_steps___marks : (("steps" : Str) == "_marks") = false := by decide +kernel
theorem nf_steps___return_to : (("steps" : Str) = "_return_to") = False := eq_false (by decide +kernel)
theorem nb_steps___return_to : (("steps" : Str) == "_return_to") = false := by decide +kernel
theorem nf_steps___run : (("steps" : Str) = "_run") = False := eq_false (by decide +kernel)
theorem nb_steps___run : (("steps" : Str) == "_run") = false := by decide +kernel
theorem nf_steps___splitter_at : (("steps" : Str) = "_splitter_at") = False := eq_false (by decide +kernel)
theorem nb_steps___splitter_at : (("steps" : Str) == "_splitter_at") = false := by decide +kernel
theorem nf_steps___walk : (("steps" : Str) = "_walk") = False := eq_false (by decide +kernel)
theorem nb_steps___walk : (("steps" : Str) == "_walk") = false := by decide +kernel
theorem nf_steps__cells : (("steps" : Str) = "cells") = False := eq_false (by decide +kernel)
theorem nb_steps__cells : (("steps" : Str) == "cells") = false := by decide +kernel
theorem nf_steps__closed : (("steps" : Str) = "closed") = False := eq_false (by decide +kernel)
theorem nb_steps__closed : (("steps" : Str) == "closed") = false := by decide +kernel
theorem nf_steps__diagonal : (("steps" : Str) = "diagonal") = False := eq_false (by decide +kernel)
theorem nb_steps__diagonal : (("steps" : Str) == "diagonal") = false := by decide +kernel
theorem nf_steps__done : (("steps" : Str) = "done") = False := eq_false (by decide +kernel)
theorem nb_steps__done : (("steps" : Str) == "done") = false := by decide +kernel
theorem nf_steps__names : (("steps" : Str) = "names") = False := eq_false (by decide +kernel)
theorem nb_steps__names : (("steps" : Str) == "names") = false := by decide +kernel
theorem nf_steps__places : (("steps" : Str) = "places") = False := eq_false (by decide +kernel)
theorem nb_steps__places : (("steps" : Str) == "places") = false := by decide +kernel
theorem nf_steps__play : (("steps" : Str) = "play") = False := eq_false (by decide +kernel)
theorem nb_steps__play : (("steps" : Str) == "play") = false := by decide +kernel
theorem nf_steps__process_count : (("steps" : Str) = "process_count") = False := eq_false (by decide +kernel)
theorem nb_steps__process_count : (("steps" : Str) == "process_count") = false := by decide +kernel
theorem nf_steps__reports : (("steps" : Str) = "reports") = False := eq_false (by decide +kernel)
theorem nb_steps__reports : (("steps" : Str) == "reports") = false := by decide +kernel
theorem nf_steps__steps_done : (("steps" : Str) = "steps_done") = False := eq_false (by decide +kernel)
theorem nb_steps__steps_done : (("steps" : Str) == "steps_done") = false := by decide +kernel
theorem nf_steps__writer : (("steps" : Str) = "writer") = False := eq_false (by decide +kernel)
theorem nb_steps__writer : (("steps" : Str) == "writer") = false := by decide +kernel
theorem nf_steps_done___end_in_cell : (("steps_done" : Str) = "_end_in_cell") = False := eq_false (by decide +kernel)
theorem nb_steps_done___end_in_cell : (("steps_done" : Str) == "_end_in_cell") = false := by decide +kernel
theorem nf_steps_done___marks : (("steps_done" : Str) = "_marks") = False := eq_false (by decide +kernel)
theorem nb_steps_done___marks : (("steps_done" : Str) == "_marks") = false := by decide +kernel
theorem nf_steps_done___return_to : (("steps_done" : Str) = "_return_to") = False := eq_false (by decide +kernel)
theorem nb_steps_done___return_to : (("steps_done" : Str) == "_return_to") = false := by decide +kernel
theorem nf_steps_done___run : (("steps_done" : Str) = "_run") = False := eq_false (by decide +kernel)
theorem nb_steps_done___run : (("steps_done" : Str) == "_run") = false := by decide +kernel
theorem nf_steps_done___splitter_at : (("steps_done" : Str) = "_splitter_at") = False := eq_false (by decide +kernel)
theorem nb_steps_done___splitter_at : (("steps_done" : Str) == "_splitter_at") = false := by decide +kernel
theorem nf_steps_done___walk : (("steps_done" : Str) = "_walk") = False := eq_false (by decide +kernel)
theorem nb_steps_done___walk : (("steps_done" : Str) == "_walk") = false := by decide +kernel
theorem nf_steps_done__cells : (("steps_done" : Str) = "cells") = False := eq_false (by decide +kernel)
theorem nb_steps_done__cells : (("steps_done" : Str) == "cells") = false := by decide +kernel
theorem nf_steps_done__closed : (("steps_done" : Str) = "closed") = False := eq_false (by decide +kernel)
theorem nb_steps_done__closed : (("steps_done" : Str) == "closed") = false := by decide +kernel
theorem nf_steps_done__diagonal : (("steps_done" : Str) = "diagonal") = False := eq_false (by decide +kernel)
theorem nb_steps_done__diagonal : (("steps_done" : Str) == "diagonal") = false := by decide +kernel
theorem nf_steps_done__done : (("steps_done" : Str) = "done") = False := eq_false (by decide +kernel)
theorem nb_steps_done__done : (("steps_done" : Str) == "done") = false := by decide +kernel
theorem nf_steps_done__names : (("steps_done" : Str) = "names") = False := eq_false (by decide +kernel)
theorem nb_steps_done__names : (("steps_done" : Str) == "names") = false := by decide +kernel
theorem nf_steps_done__places : (("steps_done" : Str) = "places") = False := eq_false (by decide +kernel)
theorem nb_steps_done__places : (("steps_done" : Str) == "places") = false := by decide +kernel
theorem nf_steps_done__play : (("steps_done" : Str) = "play") = False := eq_false (by decide +kernel)
theorem nb_steps_done__play : (("steps_done" : Str) == "play") = false := by decide +kernel
theorem nf_steps_done__process_count : (("steps_done" : Str) = "process_count") = False := eq_false (by decide +kernel)
theorem nb_steps_done__process_count : (("steps_done" : Str) == "process_count") = false := by decide +kernel
theorem nf_steps_done__reports : (("steps_done" : Str) = "reports") = False := eq_false (by decide +kernel)
theorem nb_steps_done__reports : (("steps_done" : Str) == "reports") = false := by decide +kernel
theorem nf_steps_done__steps : (("steps_done" : Str) = "steps") = False := eq_false (by decide +kernel)
theorem nb_steps_done__steps : (("steps_done" : Str) == "steps") = false := by decide +kernel
theorem nf_steps_done__writer : (("steps_done" : Str) = "writer") = False := eq_false (by decide +kernel)
theorem nb_steps_done__writer : (("steps_done" : Str) == "writer") = false := by decide +kernel
theorem nf_writer___end_in_cell : (("writer" : Str) = "_end_in_cell") = False := eq_false (by decide +kernel)
theorem nb_writer___end_in_cell : (("writer" : Str) == "_end_in_cell") = false := by decide +kernel
theorem nf_writer___marks : (("writer" : Str) = "_marks") = False := eq_false (by decide +kernel)
theorem nb_writer___marks : (("writer" : Str) == "_marks") = false := by decide +kernel
theorem nf_writer___return_to : (("writer" : Str) = "_return_to") = False := eq_false (by decide +kernel)
theorem nb_writer___return_to : (("writer" : Str) == "_return_to") = false := by decide +kernel
theorem nf_writer___run : (("writer" : Str) = "_run") = False := eq_false (by decide +kernel)
theorem nb_writer___run : (("writer" : Str) == "_run") = false := by decide +kernel
theorem nf_writer___splitter_at : (("writer" : Str) = "_splitter_at") = False := eq_false (by decide +kernel)
theorem nb_writer___splitter_at : (("writer" : Str) == "_splitter_at") = false := by decide +kernel
theorem nf_writer___walk : (("writer" : Str) = "_walk") = False := eq_false (by decide +kernel)
theorem nb_writer___walk : (("writer" : Str) == "_walk") = false := by decide +kernel
theorem nf_writer__cells : (("writer" : Str) = "cells") = False := eq_false (by decide +kernel)
theorem nb_writer__cells : (("writer" : Str) == "cells") = false := by decide +kernel
theorem nf_writer__closed : (("writer" : Str) = "closed") = False := eq_false (by decide +kernel)
theorem nb_writer__closed : (("writer" : Str) == "closed") = false := by decide +kernel
theorem nf_writer__diagonal : (("writer" : Str) = "diagonal") = False := eq_false (by decide +kernel)
theorem nb_writer__diagonal : (("writer" : Str) == "diagonal") = false := by decide +kernel
theorem nf_writer__done : (("writer" : Str) = "done") = False := eq_false (by decide +kernel)
theorem nb_writer__done : (("writer" : Str) == "done") = false := by decide +kernel
theorem nf_writer__names : (("writer" : Str) = "names") = False := eq_false (by decide +kernel)
theorem nb_writer__names : (("writer" : Str) == "names") = false := by decide +kernel
theorem nf_writer__places : (("writer" : Str) = "places") = False := eq_false (by decide +kernel)
theorem nb_writer__places : (("writer" : Str) == "places") = false := by decide +kernel
theorem nf_writer__play : (("writer" : Str) = "play") = False := eq_false (by decide +kernel)
theorem nb_writer__play : (("writer" : Str) == "play") = false := by decide +kernel
theorem nf_writer__process_count : (("writer" : Str) = "process_count") = False := eq_false (by decide +kernel)
theorem nb_writer__process_count : (("writer" : Str) == "process_count") = false := by decide +kernel
theorem nf_writer__reports : (("writer" : Str) = "reports") = False := eq_false (by decide +kernel)
theorem nb_writer__reports : (("writer" : Str) == "reports") = false := by decide +kernel
theorem nf_writer__steps : (("writer" : Str) = "steps") = False := eq_false (by decide +kernel)
theorem nb_writer__steps : (("writer" : Str) == "steps") = false := by decide +kernel
theorem nf_writer__steps_done : (("writer" : Str) = "steps_done") = False := eq_false (by decide +kernel)
theorem nb_writer__steps_done : (("writer" : Str) == "steps_done") = false := by decide +kernel
end My

open PySem PySem.Spec PyProof.Rows L2 Vg
set_option hygiene false in
local macro_rules | `(tactic| walk_at "vc") => `(tactic| try simp only [k_cx, k_cx2, x_isI_list, x_isI_str, x_isI_dict, x_isI_tuple, x_isB_list, x_isB_str, x_isB_dict, x_isB_tuple, x_isN_list, x_isN_str, x_isN_dict, x_isN_tuple, x_isS_list, x_isS_dict, x_isS_tuple, x_reprQ, x_cnt, e_revL, x_tupL, e_dn, e_d1, x_dctP, x_strI, x_intB, e_din, e_dnin, x_sortedP, Option.isSome_none, Option.isSome_some, e_dget, e_dget2, s_dput, e_dnT, i_zip, e_disp, tp_nil, tp_cons, x_joinS, x_splitS, x_asciiS, x_digitS, x_intS, x_lenS, x_mulS, x_ixS, ty_S, x_listOf, e_call, e_meth, e_methR, e_make, e_prop, x_lenO, s_par3, e_icon, e_cval, e_fmt, e_jo, e_jo0, g_unl, e_cmeth, e_makeV, x_isX, x_isXT, x_oeq, x_one, x_isW, x_intI, x_lenD, x_mkset, x_srtS, k_cxw, e_d1T, i_itemsN, i_keysN, i_zipTL, i_enumT, x_eqE, x_isB, x_notB, x_lstD, x_sumN, e_callL, x_catA, x_slA, x_inKd, x_ixKd, x_partS, My.cp_10_15, My.cp_10_30, My.sz_3, My.sz_2, My.sz_0, My.sz_1, My.sz_4, My.cp_10_44, My.cp_10_43, My.cp_10_18, My.cp_10_39, My.nf__end_in_cell___marks, My.nb__end_in_cell___marks, My.nf__end_in_cell___return_to, My.nb__end_in_cell___return_to, My.nf__end_in_cell___run, My.nb__end_in_cell___run, My.nf__end_in_cell___splitter_at, My.nb__end_in_cell___splitter_at, My.nf__end_in_cell___walk, My.nb__end_in_cell___walk, My.nf__end_in_cell__cells, My.nb__end_in_cell__cells, My.nf__end_in_cell__closed, My.nb__end_in_cell__closed, My.nf__end_in_cell__diagonal, My.nb__end_in_cell__diagonal, My.nf__end_in_cell__done, My.nb__end_in_cell__done, My.nf__end_in_cell__names, My.nb__end_in_cell__names, My.nf__end_in_cell__places, My.nb__end_in_cell__places, My.nf__end_in_cell__play, My.nb__end_in_cell__play, My.nf__end_in_cell__process_count, My.nb__end_in_cell__process_count, My.nf__end_in_cell__reports, My.nb__end_in_cell__reports, My.nf__end_in_cell__steps, My.nb__end_in_cell__steps, My.nf__end_in_cell__steps_done, My.nb__end_in_cell__steps_done, My.nf__end_in_cell__writer, My.nb__end_in_cell__writer, My.nf__marks___end_in_cell, My.nb__marks___end_in_cell, My.nf__marks___return_to, My.nb__marks___return_to, My.nf__marks___run, My.nb__marks___run, My.nf__marks___splitter_at, My.nb__marks___splitter_at, My.nf__marks___walk, My.nb__marks___walk, My.nf__marks__cells, My.nb__marks__cells, My.nf__marks__closed, My.nb__marks__closed, My.nf__marks__diagonal, My.nb__marks__diagonal, My.nf__marks__done, My.nb__marks__done, My.nf__marks__names, My.nb__marks__names, My.nf__marks__places, My.nb__marks__places, My.nf__marks__play, My.nb__marks__play, My.nf__marks__process_count, My.nb__marks__process_count, My.nf__marks__reports, My.nb__marks__reports, My.nf__marks__steps, My.nb__marks__steps, My.nf__marks__steps_done, My.nb__marks__steps_done, My.nf__marks__writer, My.nb__marks__writer, My.nf__return_to___end_in_cell, My.nb__return_to___end_in_cell, My.nf__return_to___marks, My.nb__return_to___marks, My.nf__return_to___run, My.nb__return_to___run, My.nf__return_to___splitter_at, My.nb__return_to___splitter_at, My.nf__return_to___walk, My.nb__return_to___walk, My.nf__return_to__cells, My.nb__return_to__cells, My.nf__return_to__closed, My.nb__return_to__closed, My.nf__return_to__diagonal, My.nb__return_to__diagonal, My.nf__return_to__done, My.nb__return_to__done, My.nf__return_to__names, My.nb__return_to__names, My.nf__return_to__places, My.nb__return_to__places, My.nf__return_to__play, My.nb__return_to__play, My.nf__return_to__process_count, My.nb__return_to__process_count, My.nf__return_to__reports, My.nb__return_to__reports, My.nf__return_to__steps, My.nb__return_to__steps, My.nf__return_to__steps_done, My.nb__return_to__steps_done, My.nf__return_to__writer, My.nb__return_to__writer, My.nf__run___end_in_cell, My.nb__run___end_in_cell, My.nf__run___marks, My.nb__run___marks, My.nf__run___return_to, My.nb__run___return_to, My.nf__run___splitter_at, My.nb__run___splitter_at, My.nf__run___walk, My.nb__run___walk, My.nf__run__cells, My.nb__run__cells, My.nf__run__closed, My.nb__run__closed, My.nf__run__diagonal, My.nb__run__diagonal, My.nf__run__done, My.nb__run__done, My.nf__run__names, My.nb__run__names, My.nf__run__places, My.nb__run__places, My.nf__run__play, My.nb__run__play, My.nf__run__process_count, My.nb__run__process_count, My.nf__run__reports, My.nb__run__reports, My.nf__run__steps, My.nb__run__steps, My.nf__run__steps_done, My.nb__run__steps_done, My.nf__run__writer, My.nb__run__writer, My.nf__splitter_at___end_in_cell, My.nb__splitter_at___end_in_cell, My.nf__splitter_at___marks, My.nb__splitter_at___marks, My.nf__splitter_at___return_to, My.nb__splitter_at___return_to, My.nf__splitter_at___run, My.nb__splitter_at___run, My.nf__splitter_at___walk, My.nb__splitter_at___walk, My.nf__splitter_at__cells, My.nb__splitter_at__cells, My.nf__splitter_at__closed, My.nb__splitter_at__closed, My.nf__splitter_at__diagonal, My.nb__splitter_at__diagonal, My.nf__splitter_at__done, My.nb__splitter_at__done, My.nf__splitter_at__names, My.nb__splitter_at__names, My.nf__splitter_at__places, My.nb__splitter_at__places, My.nf__splitter_at__play, My.nb__splitter_at__play, My.nf__splitter_at__process_count, My.nb__splitter_at__process_count, My.nf__splitter_at__reports, My.nb__splitter_at__reports, My.nf__splitter_at__steps, My.nb__splitter_at__steps, My.nf__splitter_at__steps_done, My.nb__splitter_at__steps_done, My.nf__splitter_at__writer, My.nb__splitter_at__writer, My.nf__walk___end_in_cell, My.nb__walk___end_in_cell, My.nf__walk___marks, My.nb__walk___marks, My.nf__walk___return_to, My.nb__walk___return_to, My.nf__walk___run, My.nb__walk___run, My.nf__walk___splitter_at, My.nb__walk___splitter_at, My.nf__walk__cells, My.nb__walk__cells, My.nf__walk__closed, My.nb__walk__closed, My.nf__walk__diagonal, My.nb__walk__diagonal, My.nf__walk__done, My.nb__walk__done, My.nf__walk__names, My.nb__walk__names, My.nf__walk__places, My.nb__walk__places, My.nf__walk__play, My.nb__walk__play, My.nf__walk__process_count, My.nb__walk__process_count, My.nf__walk__reports, My.nb__walk__reports, My.nf__walk__steps, My.nb__walk__steps, My.nf__walk__steps_done, My.nb__walk__steps_done, My.nf__walk__writer, My.nb__walk__writer, My.nf_cells___end_in_cell, My.nb_cells___end_in_cell, My.nf_cells___marks, My.nb_cells___marks, My.nf_cells___return_to, My.nb_cells___return_to, My.nf_cells___run, My.nb_cells___run, My.nf_cells___splitter_at, My.nb_cells___splitter_at, My.nf_cells___walk, My.nb_cells___walk, My.nf_cells__closed, My.nb_cells__closed, My.nf_cells__diagonal, My.nb_cells__diagonal, My.nf_cells__done, My.nb_cells__done, My.nf_cells__names, My.nb_cells__names, My.nf_cells__places, My.nb_cells__places, My.nf_cells__play, My.nb_cells__play, My.nf_cells__process_count, My.nb_cells__process_count, My.nf_cells__reports, My.nb_cells__reports, My.nf_cells__steps, My.nb_cells__steps, My.nf_cells__steps_done, My.nb_cells__steps_done, My.nf_cells__writer, My.nb_cells__writer, My.nf_closed___end_in_cell, My.nb_closed___end_in_cell, My.nf_closed___marks, My.nb_closed___marks, My.nf_closed___return_to, My.nb_closed___return_to, My.nf_closed___run, My.nb_closed___run, My.nf_closed___splitter_at, My.nb_closed___splitter_at, My.nf_closed___walk, My.nb_closed___walk, My.nf_closed__cells, My.nb_closed__cells, My.nf_closed__diagonal, My.nb_closed__diagonal, My.nf_closed__done, My.nb_closed__done, My.nf_closed__names, My.nb_closed__names, My.nf_closed__places, My.nb_closed__places, My.nf_closed__play, My.nb_closed__play, My.nf_closed__process_count, My.nb_closed__process_count, My.nf_closed__reports, My.nb_closed__reports, My.nf_closed__steps, My.nb_closed__steps, My.nf_closed__steps_done, My.nb_closed__steps_done, My.nf_closed__writer, My.nb_closed__writer, My.nf_diagonal___end_in_cell, My.nb_diagonal___end_in_cell, My.nf_diagonal___marks, My.nb_diagonal___marks, My.nf_diagonal___return_to, My.nb_diagonal___return_to, My.nf_diagonal___run, My.nb_diagonal___run, My.nf_diagonal___splitter_at, My.nb_diagonal___splitter_at, My.nf_diagonal___walk, My.nb_diagonal___walk, My.nf_diagonal__cells, My.nb_diagonal__cells, My.nf_diagonal__closed, My.nb_diagonal__closed, My.nf_diagonal__done, My.nb_diagonal__done, My.nf_diagonal__names, My.nb_diagonal__names, My.nf_diagonal__places, My.nb_diagonal__places, My.nf_diagonal__play, My.nb_diagonal__play, My.nf_diagonal__process_count, My.nb_diagonal__process_count, My.nf_diagonal__reports, My.nb_diagonal__reports, My.nf_diagonal__steps, My.nb_diagonal__steps, My.nf_diagonal__steps_done, My.nb_diagonal__steps_done, My.nf_diagonal__writer, My.nb_diagonal__writer, My.nf_done___end_in_cell, My.nb_done___end_in_cell, My.nf_done___marks, My.nb_done___marks, My.nf_done___return_to, My.nb_done___return_to, My.nf_done___run, My.nb_done___run, My.nf_done___splitter_at, My.nb_done___splitter_at, My.nf_done___walk, My.nb_done___walk, My.nf_done__cells, My.nb_done__cells, My.nf_done__closed, My.nb_done__closed, My.nf_done__diagonal, My.nb_done__diagonal, My.nf_done__names, My.nb_done__names, My.nf_done__places, My.nb_done__places, My.nf_done__play, My.nb_done__play, My.nf_done__process_count, My.nb_done__process_count, My.nf_done__reports, My.nb_done__reports, My.nf_done__steps, My.nb_done__steps, My.nf_done__steps_done, My.nb_done__steps_done, My.nf_done__writer, My.nb_done__writer, My.nf_names___end_in_cell, My.nb_names___end_in_cell, My.nf_names___marks, My.nb_names___marks, My.nf_names___return_to, My.nb_names___return_to, My.nf_names___run, My.nb_names___run, My.nf_names___splitter_at, My.nb_names___splitter_at, My.nf_names___walk, My.nb_names___walk, My.nf_names__cells, My.nb_names__cells, My.nf_names__closed, My.nb_names__closed, My.nf_names__diagonal, My.nb_names__diagonal, My.nf_names__done, My.nb_names__done, My.nf_names__places, My.nb_names__places, My.nf_names__play, My.nb_names__play, My.nf_names__process_count, My.nb_names__process_count, My.nf_names__reports, My.nb_names__reports, My.nf_names__steps, My.nb_names__steps, My.nf_names__steps_done, My.nb_names__steps_done, My.nf_names__writer, My.nb_names__writer, My.nf_places___end_in_cell, My.nb_places___end_in_cell, My.nf_places___marks, My.nb_places___marks, My.nf_places___return_to, My.nb_places___return_to, My.nf_places___run, My.nb_places___run, My.nf_places___splitter_at, My.nb_places___splitter_at, My.nf_places___walk, My.nb_places___walk, My.nf_places__cells, My.nb_places__cells, My.nf_places__closed, My.nb_places__closed, My.nf_places__diagonal, My.nb_places__diagonal, My.nf_places__done, My.nb_places__done, My.nf_places__names, My.nb_places__names, My.nf_places__play, My.nb_places__play, My.nf_places__process_count, My.nb_places__process_count, My.nf_places__reports, My.nb_places__reports, My.nf_places__steps, My.nb_places__steps, My.nf_places__steps_done, My.nb_places__steps_done, My.nf_places__writer, My.nb_places__writer, My.nf_play___end_in_cell, My.nb_play___end_in_cell, My.nf_play___marks, My.nb_play___marks, My.nf_play___return_to, My.nb_play___return_to, My.nf_play___run, My.nb_play___run, My.nf_play___splitter_at, My.nb_play___splitter_at, My.nf_play___walk, My.nb_play___walk, My.nf_play__cells, My.nb_play__cells, My.nf_play__closed, My.nb_play__closed, My.nf_play__diagonal, My.nb_play__diagonal, My.nf_play__done, My.nb_play__done, My.nf_play__names, My.nb_play__names, My.nf_play__places, My.nb_play__places, My.nf_play__process_count, My.nb_play__process_count, My.nf_play__reports, My.nb_play__reports, My.nf_play__steps, My.nb_play__steps, My.nf_play__steps_done, My.nb_play__steps_done, My.nf_play__writer, My.nb_play__writer, My.nf_process_count___end_in_cell, My.nb_process_count___end_in_cell, My.nf_process_count___marks, My.nb_process_count___marks, My.nf_process_count___return_to, My.nb_process_count___return_to, My.nf_process_count___run, My.nb_process_count___run, My.nf_process_count___splitter_at, My.nb_process_count___splitter_at, My.nf_process_count___walk, My.nb_process_count___walk, My.nf_process_count__cells, My.nb_process_count__cells, My.nf_process_count__closed, My.nb_process_count__closed, My.nf_process_count__diagonal, My.nb_process_count__diagonal, My.nf_process_count__done, My.nb_process_count__done, My.nf_process_count__names, My.nb_process_count__names, My.nf_process_count__places, My.nb_process_count__places, My.nf_process_count__play, My.nb_process_count__play, My.nf_process_count__reports, My.nb_process_count__reports, My.nf_process_count__steps, My.nb_process_count__steps, My.nf_process_count__steps_done, My.nb_process_count__steps_done, My.nf_process_count__writer, My.nb_process_count__writer, My.nf_reports___end_in_cell, My.nb_reports___end_in_cell, My.nf_reports___marks, My.nb_reports___marks, My.nf_reports___return_to, My.nb_reports___return_to, My.nf_reports___run, My.nb_reports___run, My.nf_reports___splitter_at, My.nb_reports___splitter_at, My.nf_reports___walk, My.nb_reports___walk, My.nf_reports__cells, My.nb_reports__cells, My.nf_reports__closed, My.nb_reports__closed, My.nf_reports__diagonal, My.nb_reports__diagonal, My.nf_reports__done, My.nb_reports__done, My.nf_reports__names, My.nb_reports__names, My.nf_reports__places, My.nb_reports__places, My.nf_reports__play, My.nb_reports__play, My.nf_reports__process_count, My.nb_reports__process_count, My.nf_reports__steps, My.nb_reports__steps, My.nf_reports__steps_done, My.nb_reports__steps_done, My.nf_reports__writer, My.nb_reports__writer, My.nf_steps___end_in_cell, My.nb_steps___end_in_cell, My.nf_steps___marks, My.nb_steps___marks, My.nf_steps___return_to, My.nb_steps___return_to, My.nf_steps___run, My.nb_steps___run, My.nf_steps___splitter_at, My.nb_steps___splitter_at, My.nf_steps___walk, My.nb_steps___walk, My.nf_steps__cells, My.nb_steps__cells, My.nf_steps__closed, My.nb_steps__closed, My.nf_steps__diagonal, My.nb_steps__diagonal, My.nf_steps__done, My.nb_steps__done, My.nf_steps__names, My.nb_steps__names, My.nf_steps__places, My.nb_steps__places, My.nf_steps__play, My.nb_steps__play, My.nf_steps__process_count, My.nb_steps__process_count, My.nf_steps__reports, My.nb_steps__reports, My.nf_steps__steps_done, My.nb_steps__steps_done, My.nf_steps__writer, My.nb_steps__writer, My.nf_steps_done___end_in_cell, My.nb_steps_done___end_in_cell, My.nf_steps_done___marks, My.nb_steps_done___marks, My.nf_steps_done___return_to, My.nb_steps_done___return_to, My.nf_steps_done___run, My.nb_steps_done___run, My.nf_steps_done___splitter_at, My.nb_steps_done___splitter_at, My.nf_steps_done___walk, My.nb_steps_done___walk, My.nf_steps_done__cells, My.nb_steps_done__cells, My.nf_steps_done__closed, My.nb_steps_done__closed, My.nf_steps_done__diagonal, My.nb_steps_done__diagonal, My.nf_steps_done__done, My.nb_steps_done__done, My.nf_steps_done__names, My.nb_steps_done__names, My.nf_steps_done__places, My.nb_steps_done__places, My.nf_steps_done__play, My.nb_steps_done__play, My.nf_steps_done__process_count, My.nb_steps_done__process_count, My.nf_steps_done__reports, My.nb_steps_done__reports, My.nf_steps_done__steps, My.nb_steps_done__steps, My.nf_steps_done__writer, My.nb_steps_done__writer, My.nf_writer___end_in_cell, My.nb_writer___end_in_cell, My.nf_writer___marks, My.nb_writer___marks, My.nf_writer___return_to, My.nb_writer___return_to, My.nf_writer___run, My.nb_writer___run, My.nf_writer___splitter_at, My.nb_writer___splitter_at, My.nf_writer___walk, My.nb_writer___walk, My.nf_writer__cells, My.nb_writer__cells, My.nf_writer__closed, My.nb_writer__closed, My.nf_writer__diagonal, My.nb_writer__diagonal, My.nf_writer__done, My.nb_writer__done, My.nf_writer__names, My.nb_writer__names, My.nf_writer__places, My.nb_writer__places, My.nf_writer__play, My.nb_writer__play, My.nf_writer__process_count, My.nb_writer__process_count, My.nf_writer__reports, My.nb_writer__reports, My.nf_writer__steps, My.nb_writer__steps, My.nf_writer__steps_done, My.nb_writer__steps_done, List.lookup, putF, beq_self_eq_true, e_var, e_c, e_op, e_un, e_if, e_andV, e_orV, e_notV, e_lst, e_tup, e_CB, e_BM, e_BM0, e_G, e_chain, e_sl, e_part, e_nopart, a_nil, a_cons, t_B, t_test, t_and, t_or, t_not, t_yes,
  s_seq, s_next, s_break, s_cont, s_drop, s_ret, s_retN, s_ifS, s_asg, s_aug, s_par, Int.zero_add, g_name, g_tup, g_nil, g_cons, g_sub, i_list, i_tup, i_rng1, i_rng2, i_enum, s_for, e_lc, x_I, x_I0, x_U, x_eq, x_ne, x_ixL, x_ixT, x_setL, x_app, x_ext, x_cat, x_slL, x_in, x_repr, e_fld, s_fld, e_MG, e_KG, x_rpt, x_rem, x_min, e_lrg1, e_rg1, x_rev, s_augS, x_ip, i_rng3, x_isR, x_is_int, x_is_bool, x_is_bi, x_is_bb, x_is_ib, x_is_nb, x_is_ni, x_is_sb, x_is_si, x_len, x_mx, x_mn,
  wipe, sc_ii, sc_ss, sc_bb, sc_nn, sc_ns, sc_sn, sc_ni, sc_in, List.set_cons_zero, List.set_cons_succ, List.getElem?_cons_zero, List.getElem?_cons_succ, Option.some.injEq, exists_eq_left', exists_eq_left, exists_and_left, exists_and_right, V.int.injEq, V.bl.injEq, V.ref.injEq, V.str.injEq, List.cons.injEq, and_true, true_and, decide_eq_true_eq, List.append_nil, reduceCtorEq, and_assoc,
  L2.start, List.map_cons, List.map_nil, List.length_cons, List.length_nil, List.replicate, List.cons_append, List.nil_append, Nat.reduceAdd, Nat.reduceSub, Nat.zero_add, ipI, decide_true, decide_false, if_true, if_false, Bool.not_true, Bool.not_false, Bool.false_eq_true, Int.reduceToNat, Int.reducePow, Int.reduceAdd, Int.reduceSub, Int.reduceMul, Int.reduceNeg, List.length_map])
set_option hygiene false in
local macro_rules | `(tactic| walk_at "v1") => `(tactic| try simp only [k_cx, k_cx2, x_isI_list, x_isI_str, x_isI_dict, x_isI_tuple, x_isB_list, x_isB_str, x_isB_dict, x_isB_tuple, x_isN_list, x_isN_str, x_isN_dict, x_isN_tuple, x_isS_list, x_isS_dict, x_isS_tuple, x_reprQ, x_cnt, e_revL, x_tupL, e_dn, e_d1, x_dctP, x_strI, x_intB, e_din, e_dnin, x_sortedP, Option.isSome_none, Option.isSome_some, e_dget, e_dget2, s_dput, e_dnT, i_zip, e_disp, tp_nil, tp_cons, x_joinS, x_splitS, x_asciiS, x_digitS, x_intS, x_lenS, x_mulS, x_ixS, ty_S, x_listOf, e_call, e_meth, e_methR, e_make, e_prop, x_lenO, s_par3, e_icon, e_cval, e_fmt, e_jo, e_jo0, g_unl, e_cmeth, e_makeV, x_isX, x_isXT, x_oeq, x_one, x_isW, x_intI, x_lenD, x_mkset, x_srtS, k_cxw, e_d1T, i_itemsN, i_keysN, i_zipTL, i_enumT, x_eqE, x_isB, x_notB, x_lstD, x_sumN, e_callL, x_catA, x_slA, x_inKd, x_ixKd, x_partS, My.cp_10_15, My.cp_10_30, My.sz_3, My.sz_2, My.sz_0, My.sz_1, My.sz_4, My.cp_10_44, My.cp_10_43, My.cp_10_18, My.cp_10_39, My.nf__end_in_cell___marks, My.nb__end_in_cell___marks, My.nf__end_in_cell___return_to, My.nb__end_in_cell___return_to, My.nf__end_in_cell___run, My.nb__end_in_cell___run, My.nf__end_in_cell___splitter_at, My.nb__end_in_cell___splitter_at, My.nf__end_in_cell___walk, My.nb__end_in_cell___walk, My.nf__end_in_cell__cells, My.nb__end_in_cell__cells, My.nf__end_in_cell__closed, My.nb__end_in_cell__closed, My.nf__end_in_cell__diagonal, My.nb__end_in_cell__diagonal, My.nf__end_in_cell__done, My.nb__end_in_cell__done, My.nf__end_in_cell__names, My.nb__end_in_cell__names, My.nf__end_in_cell__places, My.nb__end_in_cell__places, My.nf__end_in_cell__play, My.nb__end_in_cell__play, My.nf__end_in_cell__process_count, My.nb__end_in_cell__process_count, My.nf__end_in_cell__reports, My.nb__end_in_cell__reports, My.nf__end_in_cell__steps, My.nb__end_in_cell__steps, My.nf__end_in_cell__steps_done, My.nb__end_in_cell__steps_done, My.nf__end_in_cell__writer, My.nb__end_in_cell__writer, My.nf__marks___end_in_cell, My.nb__marks___end_in_cell, My.nf__marks___return_to, My.nb__marks___return_to, My.nf__marks___run, My.nb__marks___run, My.nf__marks___splitter_at, My.nb__marks___splitter_at, My.nf__marks___walk, My.nb__marks___walk, My.nf__marks__cells, My.nb__marks__cells, My.nf__marks__closed, My.nb__marks__closed, My.nf__marks__diagonal, My.nb__marks__diagonal, My.nf__marks__done, My.nb__marks__done, My.nf__marks__names, My.nb__marks__names, My.nf__marks__places, My.nb__marks__places, My.nf__marks__play, My.nb__marks__play, My.nf__marks__process_count, My.nb__marks__process_count, My.nf__marks__reports, My.nb__marks__reports, My.nf__marks__steps, My.nb__marks__steps, My.nf__marks__steps_done, My.nb__marks__steps_done, My.nf__marks__writer, My.nb__marks__writer, My.nf__return_to___end_in_cell, My.nb__return_to___end_in_cell, My.nf__return_to___marks, My.nb__return_to___marks, My.nf__return_to___run, My.nb__return_to___run, My.nf__return_to___splitter_at, My.nb__return_to___splitter_at, My.nf__return_to___walk, My.nb__return_to___walk, My.nf__return_to__cells, My.nb__return_to__cells, My.nf__return_to__closed, My.nb__return_to__closed, My.nf__return_to__diagonal, My.nb__return_to__diagonal, My.nf__return_to__done, My.nb__return_to__done, My.nf__return_to__names, My.nb__return_to__names, My.nf__return_to__places, My.nb__return_to__places, My.nf__return_to__play, My.nb__return_to__play, My.nf__return_to__process_count, My.nb__return_to__process_count, My.nf__return_to__reports, My.nb__return_to__reports, My.nf__return_to__steps, My.nb__return_to__steps, My.nf__return_to__steps_done, My.nb__return_to__steps_done, My.nf__return_to__writer, My.nb__return_to__writer, My.nf__run___end_in_cell, My.nb__run___end_in_cell, My.nf__run___marks, My.nb__run___marks, My.nf__run___return_to, My.nb__run___return_to, My.nf__run___splitter_at, My.nb__run___splitter_at, My.nf__run___walk, My.nb__run___walk, My.nf__run__cells, My.nb__run__cells, My.nf__run__closed, My.nb__run__closed, My.nf__run__diagonal, My.nb__run__diagonal, My.nf__run__done, My.nb__run__done, My.nf__run__names, My.nb__run__names, My.nf__run__places, My.nb__run__places, My.nf__run__play, My.nb__run__play, My.nf__run__process_count, My.nb__run__process_count, My.nf__run__reports, My.nb__run__reports, My.nf__run__steps, My.nb__run__steps, My.nf__run__steps_done, My.nb__run__steps_done, My.nf__run__writer, My.nb__run__writer, My.nf__splitter_at___end_in_cell, My.nb__splitter_at___end_in_cell, My.nf__splitter_at___marks, My.nb__splitter_at___marks, My.nf__splitter_at___return_to, My.nb__splitter_at___return_to, My.nf__splitter_at___run, My.nb__splitter_at___run, My.nf__splitter_at___walk, My.nb__splitter_at___walk, My.nf__splitter_at__cells, My.nb__splitter_at__cells, My.nf__splitter_at__closed, My.nb__splitter_at__closed, My.nf__splitter_at__diagonal, My.nb__splitter_at__diagonal, My.nf__splitter_at__done, My.nb__splitter_at__done, My.nf__splitter_at__names, My.nb__splitter_at__names, My.nf__splitter_at__places, My.nb__splitter_at__places, My.nf__splitter_at__play, My.nb__splitter_at__play, My.nf__splitter_at__process_count, My.nb__splitter_at__process_count, My.nf__splitter_at__reports, My.nb__splitter_at__reports, My.nf__splitter_at__steps, My.nb__splitter_at__steps, My.nf__splitter_at__steps_done, My.nb__splitter_at__steps_done, My.nf__splitter_at__writer, My.nb__splitter_at__writer, My.nf__walk___end_in_cell, My.nb__walk___end_in_cell, My.nf__walk___marks, My.nb__walk___marks, My.nf__walk___return_to, My.nb__walk___return_to, My.nf__walk___run, My.nb__walk___run, My.nf__walk___splitter_at, My.nb__walk___splitter_at, My.nf__walk__cells, My.nb__walk__cells, My.nf__walk__closed, My.nb__walk__closed, My.nf__walk__diagonal, My.nb__walk__diagonal, My.nf__walk__done, My.nb__walk__done, My.nf__walk__names, My.nb__walk__names, My.nf__walk__places, My.nb__walk__places, My.nf__walk__play, My.nb__walk__play, My.nf__walk__process_count, My.nb__walk__process_count, My.nf__walk__reports, My.nb__walk__reports, My.nf__walk__steps, My.nb__walk__steps, My.nf__walk__steps_done, My.nb__walk__steps_done, My.nf__walk__writer, My.nb__walk__writer, My.nf_cells___end_in_cell, My.nb_cells___end_in_cell, My.nf_cells___marks, My.nb_cells___marks, My.nf_cells___return_to, My.nb_cells___return_to, My.nf_cells___run, My.nb_cells___run, My.nf_cells___splitter_at, My.nb_cells___splitter_at, My.nf_cells___walk, My.nb_cells___walk, My.nf_cells__closed, My.nb_cells__closed, My.nf_cells__diagonal, My.nb_cells__diagonal, My.nf_cells__done, My.nb_cells__done, My.nf_cells__names, My.nb_cells__names, My.nf_cells__places, My.nb_cells__places, My.nf_cells__play, My.nb_cells__play, My.nf_cells__process_count, My.nb_cells__process_count, My.nf_cells__reports, My.nb_cells__reports, My.nf_cells__steps, My.nb_cells__steps, My.nf_cells__steps_done, My.nb_cells__steps_done, My.nf_cells__writer, My.nb_cells__writer, My.nf_closed___end_in_cell, My.nb_closed___end_in_cell, My.nf_closed___marks, My.nb_closed___marks, My.nf_closed___return_to, My.nb_closed___return_to, My.nf_closed___run, My.nb_closed___run, My.nf_closed___splitter_at, My.nb_closed___splitter_at, My.nf_closed___walk, My.nb_closed___walk, My.nf_closed__cells, My.nb_closed__cells, My.nf_closed__diagonal, My.nb_closed__diagonal, My.nf_closed__done, My.nb_closed__done, My.nf_closed__names, My.nb_closed__names, My.nf_closed__places, My.nb_closed__places, My.nf_closed__play, My.nb_closed__play, My.nf_closed__process_count, My.nb_closed__process_count, My.nf_closed__reports, My.nb_closed__reports, My.nf_closed__steps, My.nb_closed__steps, My.nf_closed__steps_done, My.nb_closed__steps_done, My.nf_closed__writer, My.nb_closed__writer, My.nf_diagonal___end_in_cell, My.nb_diagonal___end_in_cell, My.nf_diagonal___marks, My.nb_diagonal___marks, My.nf_diagonal___return_to, My.nb_diagonal___return_to, My.nf_diagonal___run, My.nb_diagonal___run, My.nf_diagonal___splitter_at, My.nb_diagonal___splitter_at, My.nf_diagonal___walk, My.nb_diagonal___walk, My.nf_diagonal__cells, My.nb_diagonal__cells, My.nf_diagonal__closed, My.nb_diagonal__closed, My.nf_diagonal__done, My.nb_diagonal__done, My.nf_diagonal__names, My.nb_diagonal__names, My.nf_diagonal__places, My.nb_diagonal__places, My.nf_diagonal__play, My.nb_diagonal__play, My.nf_diagonal__process_count, My.nb_diagonal__process_count, My.nf_diagonal__reports, My.nb_diagonal__reports, My.nf_diagonal__steps, My.nb_diagonal__steps, My.nf_diagonal__steps_done, My.nb_diagonal__steps_done, My.nf_diagonal__writer, My.nb_diagonal__writer, My.nf_done___end_in_cell, My.nb_done___end_in_cell, My.nf_done___marks, My.nb_done___marks, My.nf_done___return_to, My.nb_done___return_to, My.nf_done___run, My.nb_done___run, My.nf_done___splitter_at, My.nb_done___splitter_at, My.nf_done___walk, My.nb_done___walk, My.nf_done__cells, My.nb_done__cells, My.nf_done__closed, My.nb_done__closed, My.nf_done__diagonal, My.nb_done__diagonal, My.nf_done__names, My.nb_done__names, My.nf_done__places, My.nb_done__places, My.nf_done__play, My.nb_done__play, My.nf_done__process_count, My.nb_done__process_count, My.nf_done__reports, My.nb_done__reports, My.nf_done__steps, My.nb_done__steps, My.nf_done__steps_done, My.nb_done__steps_done, My.nf_done__writer, My.nb_done__writer, My.nf_names___end_in_cell, My.nb_names___end_in_cell, My.nf_names___marks, My.nb_names___marks, My.nf_names___return_to, My.nb_names___return_to, My.nf_names___run, My.nb_names___run, My.nf_names___splitter_at, My.nb_names___splitter_at, My.nf_names___walk, My.nb_names___walk, My.nf_names__cells, My.nb_names__cells, My.nf_names__closed, My.nb_names__closed, My.nf_names__diagonal, My.nb_names__diagonal, My.nf_names__done, My.nb_names__done, My.nf_names__places, My.nb_names__places, My.nf_names__play, My.nb_names__play, My.nf_names__process_count, My.nb_names__process_count, My.nf_names__reports, My.nb_names__reports, My.nf_names__steps, My.nb_names__steps, My.nf_names__steps_done, My.nb_names__steps_done, My.nf_names__writer, My.nb_names__writer, My.nf_places___end_in_cell, My.nb_places___end_in_cell, My.nf_places___marks, My.nb_places___marks, My.nf_places___return_to, My.nb_places___return_to, My.nf_places___run, My.nb_places___run, My.nf_places___splitter_at, My.nb_places___splitter_at, My.nf_places___walk, My.nb_places___walk, My.nf_places__cells, My.nb_places__cells, My.nf_places__closed, My.nb_places__closed, My.nf_places__diagonal, My.nb_places__diagonal, My.nf_places__done, My.nb_places__done, My.nf_places__names, My.nb_places__names, My.nf_places__play, My.nb_places__play, My.nf_places__process_count, My.nb_places__process_count, My.nf_places__reports, My.nb_places__reports, My.nf_places__steps, My.nb_places__steps, My.nf_places__steps_done, My.nb_places__steps_done, My.nf_places__writer, My.nb_places__writer, My.nf_play___end_in_cell, My.nb_play___end_in_cell, My.nf_play___marks, My.nb_play___marks, My.nf_play___return_to, My.nb_play___return_to, My.nf_play___run, My.nb_play___run, My.nf_play___splitter_at, My.nb_play___splitter_at, My.nf_play___walk, My.nb_play___walk, My.nf_play__cells, My.nb_play__cells, My.nf_play__closed, My.nb_play__closed, My.nf_play__diagonal, My.nb_play__diagonal, My.nf_play__done, My.nb_play__done, My.nf_play__names, My.nb_play__names, My.nf_play__places, My.nb_play__places, My.nf_play__process_count, My.nb_play__process_count, My.nf_play__reports, My.nb_play__reports, My.nf_play__steps, My.nb_play__steps, My.nf_play__steps_done, My.nb_play__steps_done, My.nf_play__writer, My.nb_play__writer, My.nf_process_count___end_in_cell, My.nb_process_count___end_in_cell, My.nf_process_count___marks, My.nb_process_count___marks, My.nf_process_count___return_to, My.nb_process_count___return_to, My.nf_process_count___run, My.nb_process_count___run, My.nf_process_count___splitter_at, My.nb_process_count___splitter_at, My.nf_process_count___walk, My.nb_process_count___walk, My.nf_process_count__cells, My.nb_process_count__cells, My.nf_process_count__closed, My.nb_process_count__closed, My.nf_process_count__diagonal, My.nb_process_count__diagonal, My.nf_process_count__done, My.nb_process_count__done, My.nf_process_count__names, My.nb_process_count__names, My.nf_process_count__places, My.nb_process_count__places, My.nf_process_count__play, My.nb_process_count__play, My.nf_process_count__reports, My.nb_process_count__reports, My.nf_process_count__steps, My.nb_process_count__steps, My.nf_process_count__steps_done, My.nb_process_count__steps_done, My.nf_process_count__writer, My.nb_process_count__writer, My.nf_reports___end_in_cell, My.nb_reports___end_in_cell, My.nf_reports___marks, My.nb_reports___marks, My.nf_reports___return_to, My.nb_reports___return_to, My.nf_reports___run, My.nb_reports___run, My.nf_reports___splitter_at, My.nb_reports___splitter_at, My.nf_reports___walk, My.nb_reports___walk, My.nf_reports__cells, My.nb_reports__cells, My.nf_reports__closed, My.nb_reports__closed, My.nf_reports__diagonal, My.nb_reports__diagonal, My.nf_reports__done, My.nb_reports__done, My.nf_reports__names, My.nb_reports__names, My.nf_reports__places, My.nb_reports__places, My.nf_reports__play, My.nb_reports__play, My.nf_reports__process_count, My.nb_reports__process_count, My.nf_reports__steps, My.nb_reports__steps, My.nf_reports__steps_done, My.nb_reports__steps_done, My.nf_reports__writer, My.nb_reports__writer, My.nf_steps___end_in_cell, My.nb_steps___end_in_cell, My.nf_steps___marks, My.nb_steps___marks, My.nf_steps___return_to, My.nb_steps___return_to, My.nf_steps___run, My.nb_steps___run, My.nf_steps___splitter_at, My.nb_steps___splitter_at, My.nf_steps___walk, My.nb_steps___walk, My.nf_steps__cells, My.nb_steps__cells, My.nf_steps__closed, My.nb_steps__closed, My.nf_steps__diagonal, My.nb_steps__diagonal, My.nf_steps__done, My.nb_steps__done, My.nf_steps__names, My.nb_steps__names, My.nf_steps__places, My.nb_steps__places, My.nf_steps__play, My.nb_steps__play, My.nf_steps__process_count, My.nb_steps__process_count, My.nf_steps__reports, My.nb_steps__reports, My.nf_steps__steps_done, My.nb_steps__steps_done, My.nf_steps__writer, My.nb_steps__writer, My.nf_steps_done___end_in_cell, My.nb_steps_done___end_in_cell, My.nf_steps_done___marks, My.nb_steps_done___marks, My.nf_steps_done___return_to, My.nb_steps_done___return_to, My.nf_steps_done___run, My.nb_steps_done___run, My.nf_steps_done___splitter_at, My.nb_steps_done___splitter_at, My.nf_steps_done___walk, My.nb_steps_done___walk, My.nf_steps_done__cells, My.nb_steps_done__cells, My.nf_steps_done__closed, My.nb_steps_done__closed, My.nf_steps_done__diagonal, My.nb_steps_done__diagonal, My.nf_steps_done__done, My.nb_steps_done__done, My.nf_steps_done__names, My.nb_steps_done__names, My.nf_steps_done__places, My.nb_steps_done__places, My.nf_steps_done__play, My.nb_steps_done__play, My.nf_steps_done__process_count, My.nb_steps_done__process_count, My.nf_steps_done__reports, My.nb_steps_done__reports, My.nf_steps_done__steps, My.nb_steps_done__steps, My.nf_steps_done__writer, My.nb_steps_done__writer, My.nf_writer___end_in_cell, My.nb_writer___end_in_cell, My.nf_writer___marks, My.nb_writer___marks, My.nf_writer___return_to, My.nb_writer___return_to, My.nf_writer___run, My.nb_writer___run, My.nf_writer___splitter_at, My.nb_writer___splitter_at, My.nf_writer___walk, My.nb_writer___walk, My.nf_writer__cells, My.nb_writer__cells, My.nf_writer__closed, My.nb_writer__closed, My.nf_writer__diagonal, My.nb_writer__diagonal, My.nf_writer__done, My.nb_writer__done, My.nf_writer__names, My.nb_writer__names, My.nf_writer__places, My.nb_writer__places, My.nf_writer__play, My.nb_writer__play, My.nf_writer__process_count, My.nb_writer__process_count, My.nf_writer__reports, My.nb_writer__reports, My.nf_writer__steps, My.nb_writer__steps, My.nf_writer__steps_done, My.nb_writer__steps_done, List.lookup, putF, beq_self_eq_true, e_var, e_c, e_op, e_un, e_if, e_andV, e_orV, e_notV, e_lst, e_tup, e_CB, e_BM, e_BM0, e_G, e_chain, e_sl, e_part, e_nopart, a_nil, a_cons, t_B, t_test, t_and, t_or, t_not, t_yes,
  s_next, s_break, s_cont, s_drop, s_ret, s_retN, s_ifS, s_asg, s_aug, s_par, Int.zero_add, g_name, g_tup, g_nil, g_cons, g_sub, i_list, i_tup, i_rng1, i_rng2, i_enum, s_for, e_lc, x_I, x_I0, x_U, x_eq, x_ne, x_ixL, x_ixT, x_setL, x_app, x_ext, x_cat, x_slL, x_in, x_repr, e_fld, s_fld, e_MG, e_KG, x_rpt, x_rem, x_min, e_lrg1, e_rg1, x_rev, s_augS, x_ip, i_rng3, x_isR, x_is_int, x_is_bool, x_is_bi, x_is_bb, x_is_ib, x_is_nb, x_is_ni, x_is_sb, x_is_si, x_len, x_mx, x_mn,
  wipe, sc_ii, sc_ss, sc_bb, sc_nn, sc_ns, sc_sn, sc_ni, sc_in, List.set_cons_zero, List.set_cons_succ, List.getElem?_cons_zero, List.getElem?_cons_succ, Option.some.injEq, exists_eq_left', exists_eq_left, exists_and_left, exists_and_right, V.int.injEq, V.bl.injEq, V.ref.injEq, V.str.injEq, List.cons.injEq, and_true, true_and, decide_eq_true_eq, List.append_nil, reduceCtorEq, and_assoc,
  L2.start, List.map_cons, List.map_nil, List.length_cons, List.length_nil, List.replicate, List.cons_append, List.nil_append, Nat.reduceAdd, Nat.reduceSub, Nat.zero_add, ipI, decide_true, decide_false, if_true, if_false, Bool.not_true, Bool.not_false, Bool.false_eq_true, Int.reduceToNat, Int.reducePow, Int.reduceAdd, Int.reduceSub, Int.reduceMul, Int.reduceNeg, List.length_map])
local macro_rules | `(tactic| walk_at "sd") => `(tactic| first | assumption | omega | decide | exact ⟨by decide, by decide, by decide⟩ | exact ⟨by decide, by decide⟩ | (unfold CMul; omega) | (unfold CDiv; omega) | (show (_ : Nat) ≤ sizeLine; decide) | rfl)
local macro_rules | `(tactic| walk_at "mem") => `(tactic| (repeat (first | exact List.Mem.head _ | apply List.Mem.tail)))
local macro_rules | `(tactic| walk_at "put") => `(tactic| (repeat (first | exact Put.hd | apply Put.tl)))
local macro_rules | `(tactic| walk_at "pick") => `(tactic| (repeat (first | exact Pick.hd | apply Pick.tl)))
local macro_rules | `(tactic| walk_at "sel") => `(tactic| first | exact Sel.all | exact Sel.nil | (refine Sel.cons (by walk_at "pick") ?_; walk_at "sel") | (refine Sel.skip ?_; walk_at "sel"))
local macro_rules | `(tactic| walk_at "ifs") => `(tactic| repeat (first | rw [if_pos (by omega)] | rw [if_neg (by omega)]))
local macro_rules | `(tactic| walk_at "v2") => `(tactic| ((try dsimp only); rw [s_seq]; walk_at "v1"))
local macro_rules | `(tactic| walk_at "sds") => `(tactic| repeat (with_reducible refine And.intro (by walk_at "sd") ?_))
local macro_rules | `(tactic| walk_at "fs") => `(tactic| first | rfl | simp only [putF, List.lookup, beq_self_eq_true, if_true, if_false, reduceIte, My.nf__end_in_cell___marks, My.nb__end_in_cell___marks, My.nf__end_in_cell___return_to, My.nb__end_in_cell___return_to, My.nf__end_in_cell___run, My.nb__end_in_cell___run, My.nf__end_in_cell___splitter_at, My.nb__end_in_cell___splitter_at, My.nf__end_in_cell___walk, My.nb__end_in_cell___walk, My.nf__end_in_cell__cells, My.nb__end_in_cell__cells, My.nf__end_in_cell__closed, My.nb__end_in_cell__closed, My.nf__end_in_cell__diagonal, My.nb__end_in_cell__diagonal, My.nf__end_in_cell__done, My.nb__end_in_cell__done, My.nf__end_in_cell__names, My.nb__end_in_cell__names, My.nf__end_in_cell__places, My.nb__end_in_cell__places, My.nf__end_in_cell__play, My.nb__end_in_cell__play, My.nf__end_in_cell__process_count, My.nb__end_in_cell__process_count, My.nf__end_in_cell__reports, My.nb__end_in_cell__reports, My.nf__end_in_cell__steps, My.nb__end_in_cell__steps, My.nf__end_in_cell__steps_done, My.nb__end_in_cell__steps_done, My.nf__end_in_cell__writer, My.nb__end_in_cell__writer, My.nf__marks___end_in_cell, My.nb__marks___end_in_cell, My.nf__marks___return_to, My.nb__marks___return_to, My.nf__marks___run, My.nb__marks___run, My.nf__marks___splitter_at, My.nb__marks___splitter_at, My.nf__marks___walk, My.nb__marks___walk, My.nf__marks__cells, My.nb__marks__cells, My.nf__marks__closed, My.nb__marks__closed, My.nf__marks__diagonal, My.nb__marks__diagonal, My.nf__marks__done, My.nb__marks__done, My.nf__marks__names, My.nb__marks__names, My.nf__marks__places, My.nb__marks__places, My.nf__marks__play, My.nb__marks__play, My.nf__marks__process_count, My.nb__marks__process_count, My.nf__marks__reports, My.nb__marks__reports, My.nf__marks__steps, My.nb__marks__steps, My.nf__marks__steps_done, My.nb__marks__steps_done, My.nf__marks__writer, My.nb__marks__writer, My.nf__return_to___end_in_cell, My.nb__return_to___end_in_cell, My.nf__return_to___marks, My.nb__return_to___marks, My.nf__return_to___run, My.nb__return_to___run, My.nf__return_to___splitter_at, My.nb__return_to___splitter_at, My.nf__return_to___walk, My.nb__return_to___walk, My.nf__return_to__cells, My.nb__return_to__cells, My.nf__return_to__closed, My.nb__return_to__closed, My.nf__return_to__diagonal, My.nb__return_to__diagonal, My.nf__return_to__done, My.nb__return_to__done, My.nf__return_to__names, My.nb__return_to__names, My.nf__return_to__places, My.nb__return_to__places, My.nf__return_to__play, My.nb__return_to__play, My.nf__return_to__process_count, My.nb__return_to__process_count, My.nf__return_to__reports, My.nb__return_to__reports, My.nf__return_to__steps, My.nb__return_to__steps, My.nf__return_to__steps_done, My.nb__return_to__steps_done, My.nf__return_to__writer, My.nb__return_to__writer, My.nf__run___end_in_cell, My.nb__run___end_in_cell, My.nf__run___marks, My.nb__run___marks, My.nf__run___return_to, My.nb__run___return_to, My.nf__run___splitter_at, My.nb__run___splitter_at, My.nf__run___walk, My.nb__run___walk, My.nf__run__cells, My.nb__run__cells, My.nf__run__closed, My.nb__run__closed, My.nf__run__diagonal, My.nb__run__diagonal, My.nf__run__done, My.nb__run__done, My.nf__run__names, My.nb__run__names, My.nf__run__places, My.nb__run__places, My.nf__run__play, My.nb__run__play, My.nf__run__process_count, My.nb__run__process_count, My.nf__run__reports, My.nb__run__reports, My.nf__run__steps, My.nb__run__steps, My.nf__run__steps_done, My.nb__run__steps_done, My.nf__run__writer, My.nb__run__writer, My.nf__splitter_at___end_in_cell, My.nb__splitter_at___end_in_cell, My.nf__splitter_at___marks, My.nb__splitter_at___marks, My.nf__splitter_at___return_to, My.nb__splitter_at___return_to, My.nf__splitter_at___run, My.nb__splitter_at___run, My.nf__splitter_at___walk, My.nb__splitter_at___walk, My.nf__splitter_at__cells, My.nb__splitter_at__cells, My.nf__splitter_at__closed, My.nb__splitter_at__closed, My.nf__splitter_at__diagonal, My.nb__splitter_at__diagonal, My.nf__splitter_at__done, My.nb__splitter_at__done, My.nf__splitter_at__names, My.nb__splitter_at__names, My.nf__splitter_at__places, My.nb__splitter_at__places, My.nf__splitter_at__play, My.nb__splitter_at__play, My.nf__splitter_at__process_count, My.nb__splitter_at__process_count, My.nf__splitter_at__reports, My.nb__splitter_at__reports, My.nf__splitter_at__steps, My.nb__splitter_at__steps, My.nf__splitter_at__steps_done, My.nb__splitter_at__steps_done, My.nf__splitter_at__writer, My.nb__splitter_at__writer, My.nf__walk___end_in_cell, My.nb__walk___end_in_cell, My.nf__walk___marks, My.nb__walk___marks, My.nf__walk___return_to, My.nb__walk___return_to, My.nf__walk___run, My.nb__walk___run, My.nf__walk___splitter_at, My.nb__walk___splitter_at, My.nf__walk__cells, My.nb__walk__cells, My.nf__walk__closed, My.nb__walk__closed, My.nf__walk__diagonal, My.nb__walk__diagonal, My.nf__walk__done, My.nb__walk__done, My.nf__walk__names, My.nb__walk__names, My.nf__walk__places, My.nb__walk__places, My.nf__walk__play, My.nb__walk__play, My.nf__walk__process_count, My.nb__walk__process_count, My.nf__walk__reports, My.nb__walk__reports, My.nf__walk__steps, My.nb__walk__steps, My.nf__walk__steps_done, My.nb__walk__steps_done, My.nf__walk__writer, My.nb__walk__writer, My.nf_cells___end_in_cell, My.nb_cells___end_in_cell, My.nf_cells___marks, My.nb_cells___marks, My.nf_cells___return_to, My.nb_cells___return_to, My.nf_cells___run, My.nb_cells___run, My.nf_cells___splitter_at, My.nb_cells___splitter_at, My.nf_cells___walk, My.nb_cells___walk, My.nf_cells__closed, My.nb_cells__closed, My.nf_cells__diagonal, My.nb_cells__diagonal, My.nf_cells__done, My.nb_cells__done, My.nf_cells__names, My.nb_cells__names, My.nf_cells__places, My.nb_cells__places, My.nf_cells__play, My.nb_cells__play, My.nf_cells__process_count, My.nb_cells__process_count, My.nf_cells__reports, My.nb_cells__reports, My.nf_cells__steps, My.nb_cells__steps, My.nf_cells__steps_done, My.nb_cells__steps_done, My.nf_cells__writer, My.nb_cells__writer, My.nf_closed___end_in_cell, My.nb_closed___end_in_cell, My.nf_closed___marks, My.nb_closed___marks, My.nf_closed___return_to, My.nb_closed___return_to, My.nf_closed___run, My.nb_closed___run, My.nf_closed___splitter_at, My.nb_closed___splitter_at, My.nf_closed___walk, My.nb_closed___walk, My.nf_closed__cells, My.nb_closed__cells, My.nf_closed__diagonal, My.nb_closed__diagonal, My.nf_closed__done, My.nb_closed__done, My.nf_closed__names, My.nb_closed__names, My.nf_closed__places, My.nb_closed__places, My.nf_closed__play, My.nb_closed__play, My.nf_closed__process_count, My.nb_closed__process_count, My.nf_closed__reports, My.nb_closed__reports, My.nf_closed__steps, My.nb_closed__steps, My.nf_closed__steps_done, My.nb_closed__steps_done, My.nf_closed__writer, My.nb_closed__writer, My.nf_diagonal___end_in_cell, My.nb_diagonal___end_in_cell, My.nf_diagonal___marks, My.nb_diagonal___marks, My.nf_diagonal___return_to, My.nb_diagonal___return_to, My.nf_diagonal___run, My.nb_diagonal___run, My.nf_diagonal___splitter_at, My.nb_diagonal___splitter_at, My.nf_diagonal___walk, My.nb_diagonal___walk, My.nf_diagonal__cells, My.nb_diagonal__cells, My.nf_diagonal__closed, My.nb_diagonal__closed, My.nf_diagonal__done, My.nb_diagonal__done, My.nf_diagonal__names, My.nb_diagonal__names, My.nf_diagonal__places, My.nb_diagonal__places, My.nf_diagonal__play, My.nb_diagonal__play, My.nf_diagonal__process_count, My.nb_diagonal__process_count, My.nf_diagonal__reports, My.nb_diagonal__reports, My.nf_diagonal__steps, My.nb_diagonal__steps, My.nf_diagonal__steps_done, My.nb_diagonal__steps_done, My.nf_diagonal__writer, My.nb_diagonal__writer, My.nf_done___end_in_cell, My.nb_done___end_in_cell, My.nf_done___marks, My.nb_done___marks, My.nf_done___return_to, My.nb_done___return_to, My.nf_done___run, My.nb_done___run, My.nf_done___splitter_at, My.nb_done___splitter_at, My.nf_done___walk, My.nb_done___walk, My.nf_done__cells, My.nb_done__cells, My.nf_done__closed, My.nb_done__closed, My.nf_done__diagonal, My.nb_done__diagonal, My.nf_done__names, My.nb_done__names, My.nf_done__places, My.nb_done__places, My.nf_done__play, My.nb_done__play, My.nf_done__process_count, My.nb_done__process_count, My.nf_done__reports, My.nb_done__reports, My.nf_done__steps, My.nb_done__steps, My.nf_done__steps_done, My.nb_done__steps_done, My.nf_done__writer, My.nb_done__writer, My.nf_names___end_in_cell, My.nb_names___end_in_cell, My.nf_names___marks, My.nb_names___marks, My.nf_names___return_to, My.nb_names___return_to, My.nf_names___run, My.nb_names___run, My.nf_names___splitter_at, My.nb_names___splitter_at, My.nf_names___walk, My.nb_names___walk, My.nf_names__cells, My.nb_names__cells, My.nf_names__closed, My.nb_names__closed, My.nf_names__diagonal, My.nb_names__diagonal, My.nf_names__done, My.nb_names__done, My.nf_names__places, My.nb_names__places, My.nf_names__play, My.nb_names__play, My.nf_names__process_count, My.nb_names__process_count, My.nf_names__reports, My.nb_names__reports, My.nf_names__steps, My.nb_names__steps, My.nf_names__steps_done, My.nb_names__steps_done, My.nf_names__writer, My.nb_names__writer, My.nf_places___end_in_cell, My.nb_places___end_in_cell, My.nf_places___marks, My.nb_places___marks, My.nf_places___return_to, My.nb_places___return_to, My.nf_places___run, My.nb_places___run, My.nf_places___splitter_at, My.nb_places___splitter_at, My.nf_places___walk, My.nb_places___walk, My.nf_places__cells, My.nb_places__cells, My.nf_places__closed, My.nb_places__closed, My.nf_places__diagonal, My.nb_places__diagonal, My.nf_places__done, My.nb_places__done, My.nf_places__names, My.nb_places__names, My.nf_places__play, My.nb_places__play, My.nf_places__process_count, My.nb_places__process_count, My.nf_places__reports, My.nb_places__reports, My.nf_places__steps, My.nb_places__steps, My.nf_places__steps_done, My.nb_places__steps_done, My.nf_places__writer, My.nb_places__writer, My.nf_play___end_in_cell, My.nb_play___end_in_cell, My.nf_play___marks, My.nb_play___marks, My.nf_play___return_to, My.nb_play___return_to, My.nf_play___run, My.nb_play___run, My.nf_play___splitter_at, My.nb_play___splitter_at, My.nf_play___walk, My.nb_play___walk, My.nf_play__cells, My.nb_play__cells, My.nf_play__closed, My.nb_play__closed, My.nf_play__diagonal, My.nb_play__diagonal, My.nf_play__done, My.nb_play__done, My.nf_play__names, My.nb_play__names, My.nf_play__places, My.nb_play__places, My.nf_play__process_count, My.nb_play__process_count, My.nf_play__reports, My.nb_play__reports, My.nf_play__steps, My.nb_play__steps, My.nf_play__steps_done, My.nb_play__steps_done, My.nf_play__writer, My.nb_play__writer, My.nf_process_count___end_in_cell, My.nb_process_count___end_in_cell, My.nf_process_count___marks, My.nb_process_count___marks, My.nf_process_count___return_to, My.nb_process_count___return_to, My.nf_process_count___run, My.nb_process_count___run, My.nf_process_count___splitter_at, My.nb_process_count___splitter_at, My.nf_process_count___walk, My.nb_process_count___walk, My.nf_process_count__cells, My.nb_process_count__cells, My.nf_process_count__closed, My.nb_process_count__closed, My.nf_process_count__diagonal, My.nb_process_count__diagonal, My.nf_process_count__done, My.nb_process_count__done, My.nf_process_count__names, My.nb_process_count__names, My.nf_process_count__places, My.nb_process_count__places, My.nf_process_count__play, My.nb_process_count__play, My.nf_process_count__reports, My.nb_process_count__reports, My.nf_process_count__steps, My.nb_process_count__steps, My.nf_process_count__steps_done, My.nb_process_count__steps_done, My.nf_process_count__writer, My.nb_process_count__writer, My.nf_reports___end_in_cell, My.nb_reports___end_in_cell, My.nf_reports___marks, My.nb_reports___marks, My.nf_reports___return_to, My.nb_reports___return_to, My.nf_reports___run, My.nb_reports___run, My.nf_reports___splitter_at, My.nb_reports___splitter_at, My.nf_reports___walk, My.nb_reports___walk, My.nf_reports__cells, My.nb_reports__cells, My.nf_reports__closed, My.nb_reports__closed, My.nf_reports__diagonal, My.nb_reports__diagonal, My.nf_reports__done, My.nb_reports__done, My.nf_reports__names, My.nb_reports__names, My.nf_reports__places, My.nb_reports__places, My.nf_reports__play, My.nb_reports__play, My.nf_reports__process_count, My.nb_reports__process_count, My.nf_reports__steps, My.nb_reports__steps, My.nf_reports__steps_done, My.nb_reports__steps_done, My.nf_reports__writer, My.nb_reports__writer, My.nf_steps___end_in_cell, My.nb_steps___end_in_cell, My.nf_steps___marks, My.nb_steps___marks, My.nf_steps___return_to, My.nb_steps___return_to, My.nf_steps___run, My.nb_steps___run, My.nf_steps___splitter_at, My.nb_steps___splitter_at, My.nf_steps___walk, My.nb_steps___walk, My.nf_steps__cells, My.nb_steps__cells, My.nf_steps__closed, My.nb_steps__closed, My.nf_steps__diagonal, My.nb_steps__diagonal, My.nf_steps__done, My.nb_steps__done, My.nf_steps__names, My.nb_steps__names, My.nf_steps__places, My.nb_steps__places, My.nf_steps__play, My.nb_steps__play, My.nf_steps__process_count, My.nb_steps__process_count, My.nf_steps__reports, My.nb_steps__reports, My.nf_steps__steps_done, My.nb_steps__steps_done, My.nf_steps__writer, My.nb_steps__writer, My.nf_steps_done___end_in_cell, My.nb_steps_done___end_in_cell, My.nf_steps_done___marks, My.nb_steps_done___marks, My.nf_steps_done___return_to, My.nb_steps_done___return_to, My.nf_steps_done___run, My.nb_steps_done___run, My.nf_steps_done___splitter_at, My.nb_steps_done___splitter_at, My.nf_steps_done___walk, My.nb_steps_done___walk, My.nf_steps_done__cells, My.nb_steps_done__cells, My.nf_steps_done__closed, My.nb_steps_done__closed, My.nf_steps_done__diagonal, My.nb_steps_done__diagonal, My.nf_steps_done__done, My.nb_steps_done__done, My.nf_steps_done__names, My.nb_steps_done__names, My.nf_steps_done__places, My.nb_steps_done__places, My.nf_steps_done__play, My.nb_steps_done__play, My.nf_steps_done__process_count, My.nb_steps_done__process_count, My.nf_steps_done__reports, My.nb_steps_done__reports, My.nf_steps_done__steps, My.nb_steps_done__steps, My.nf_steps_done__writer, My.nb_steps_done__writer, My.nf_writer___end_in_cell, My.nb_writer___end_in_cell, My.nf_writer___marks, My.nb_writer___marks, My.nf_writer___return_to, My.nb_writer___return_to, My.nf_writer___run, My.nb_writer___run, My.nf_writer___splitter_at, My.nb_writer___splitter_at, My.nf_writer___walk, My.nb_writer___walk, My.nf_writer__cells, My.nb_writer__cells, My.nf_writer__closed, My.nb_writer__closed, My.nf_writer__diagonal, My.nb_writer__diagonal, My.nf_writer__done, My.nb_writer__done, My.nf_writer__names, My.nb_writer__names, My.nf_writer__places, My.nb_writer__places, My.nf_writer__play, My.nb_writer__play, My.nf_writer__process_count, My.nb_writer__process_count, My.nf_writer__reports, My.nb_writer__reports, My.nf_writer__steps, My.nb_writer__steps, My.nf_writer__steps_done, My.nb_writer__steps_done])
namespace My
open PySem PySem.Spec PyProof.Rows L2 Vg
def topS (i : Nat) : Stmt := PySem.Challenge.pw_splitnames_k46_desks_beside_runs.main.body.getD i (.Pass ⟨0, 0, 0, 0⟩)
abbrev s_is_integer : Stmt := topS 18
theorem sc_is_integer : FnScope ["value"] ["value"] (defScope s_is_integer) := ⟨rfl, rfl, rfl, by decide +kernel, rfl, by decide +kernel, by decide +kernel⟩
abbrev s_is_integer_within : Stmt := topS 19
theorem sc_is_integer_within : FnScope ["value", "least", "greatest"] ["value", "least", "greatest"] (defScope s_is_integer_within) := ⟨rfl, rfl, rfl, by decide +kernel, rfl, by decide +kernel, by decide +kernel⟩
abbrev s_check_coordinate : Stmt := topS 32
theorem sc_check_coordinate : FnScope ["value"] ["value"] (defScope s_check_coordinate) := ⟨rfl, rfl, rfl, by decide +kernel, rfl, by decide +kernel, by decide +kernel⟩
abbrev s_cells_before : Stmt := topS 33
theorem sc_cells_before : FnScope ["diagonal"] ["diagonal"] (defScope s_cells_before) := ⟨rfl, rfl, rfl, by decide +kernel, rfl, by decide +kernel, by decide +kernel⟩
abbrev s_name_of : Stmt := topS 29
theorem sc_name_of : FnScope ["right", "down"] ["right", "down"] (defScope s_name_of) := ⟨rfl, rfl, rfl, by decide +kernel, rfl, by decide +kernel, by decide +kernel⟩
abbrev s_check_count : Stmt := topS 20
theorem sc_check_count : FnScope ["count", "greatest"] ["count", "greatest"] (defScope s_check_count) := ⟨rfl, rfl, rfl, by decide +kernel, rfl, by decide +kernel, by decide +kernel⟩
abbrev s_Walk___init__ : Stmt := inClass (topS 44) 0
theorem sc_Walk___init__ : FnScope ["self", "count"] ["self", "count"] (defScope s_Walk___init__) := ⟨rfl, rfl, rfl, by decide +kernel, rfl, by decide +kernel, by decide +kernel⟩
abbrev s_Splitter_perform : Stmt := inClass (topS 38) 1
theorem sc_Splitter_perform : FnScope ["self", "process", "done"] ["self", "process", "done"] (defScope s_Splitter_perform) := ⟨rfl, rfl, rfl, by decide +kernel, rfl, by decide +kernel, by decide +kernel⟩
abbrev s_Walk__end_in_cell : Stmt := inClass (topS 44) 4
theorem sc_Walk__end_in_cell : FnScope ["self", "process", "result", "right", "down"] ["self", "process", "result"] (defScope s_Walk__end_in_cell) := ⟨rfl, rfl, rfl, by decide +kernel, rfl, by decide +kernel, by decide +kernel⟩
abbrev s_Splitter___init__ : Stmt := inClass (topS 38) 0
theorem sc_Splitter___init__ : FnScope ["self"] ["self"] (defScope s_Splitter___init__) := ⟨rfl, rfl, rfl, by decide +kernel, rfl, by decide +kernel, by decide +kernel⟩
abbrev s_Walk__splitter_at : Stmt := inClass (topS 44) 3
theorem sc_Walk__splitter_at : FnScope ["self", "place"] ["self", "place"] (defScope s_Walk__splitter_at) := ⟨rfl, rfl, rfl, by decide +kernel, rfl, by decide +kernel, by decide +kernel⟩
abbrev s_Walk_step : Stmt := inClass (topS 44) 2
theorem sc_Walk_step : FnScope ["self", "process", "result", "name"] ["self", "process"] (defScope s_Walk_step) := ⟨rfl, rfl, rfl, by decide +kernel, rfl, by decide +kernel, by decide +kernel⟩
abbrev s_Walk_can_step : Stmt := inClass (topS 44) 1
theorem sc_Walk_can_step : FnScope ["self", "process"] ["self", "process"] (defScope s_Walk_can_step) := ⟨rfl, rfl, rfl, by decide +kernel, rfl, by decide +kernel, by decide +kernel⟩
abbrev s_perform_schedule : Stmt := topS 41
theorem sc_perform_schedule : FnScope ["run", "schedule", "process"] ["run", "schedule"] (defScope s_perform_schedule) := ⟨rfl, rfl, rfl, by decide +kernel, rfl, by decide +kernel, by decide +kernel⟩
abbrev s_walk_after : Stmt := topS 45
theorem sc_walk_after : FnScope ["count", "schedule", "walk"] ["count", "schedule"] (defScope s_walk_after) := ⟨rfl, rfl, rfl, by decide +kernel, rfl, by decide +kernel, by decide +kernel⟩
abbrev s_show_schedule : Stmt := topS 52
theorem sc_show_schedule : FnScope ["schedule", "process"] ["schedule"] (defScope s_show_schedule) := ⟨rfl, rfl, rfl, by decide +kernel, rfl, by decide +kernel, by decide +kernel⟩
abbrev s_show_run : Stmt := topS 50
theorem sc_show_run : FnScope ["count", "schedule"] ["count", "schedule"] (defScope s_show_run) := ⟨rfl, rfl, rfl, by decide +kernel, rfl, by decide +kernel, by decide +kernel⟩
abbrev s_Run_names_now : Stmt := inClass (topS 57) 9
theorem sc_Run_names_now : FnScope ["self"] ["self"] (defScope s_Run_names_now) := ⟨rfl, rfl, rfl, by decide +kernel, rfl, by decide +kernel, by decide +kernel⟩
abbrev s_Run_places_now : Stmt := inClass (topS 57) 10
theorem sc_Run_places_now : FnScope ["self", "walk", "done", "right", "down"] ["self"] (defScope s_Run_places_now) := ⟨rfl, rfl, rfl, by decide +kernel, rfl, by decide +kernel, by decide +kernel⟩
abbrev s_Run_process_count : Stmt := inClass (topS 57) 7
theorem sc_Run_process_count : FnScope ["self"] ["self"] (defScope s_Run_process_count) := ⟨rfl, rfl, rfl, by decide +kernel, rfl, by decide +kernel, by decide +kernel⟩
abbrev s_Run_steps_done : Stmt := inClass (topS 57) 8
theorem sc_Run_steps_done : FnScope ["self"] ["self"] (defScope s_Run_steps_done) := ⟨rfl, rfl, rfl, by decide +kernel, rfl, by decide +kernel, by decide +kernel⟩
abbrev s_Run__return_to : Stmt := inClass (topS 57) 14
theorem sc_Run__return_to : FnScope ["self", "mark"] ["self", "mark"] (defScope s_Run__return_to) := ⟨rfl, rfl, rfl, by decide +kernel, rfl, by decide +kernel, by decide +kernel⟩
abbrev s_Run_undo : Stmt := inClass (topS 57) 6
theorem sc_Run_undo : FnScope ["self"] ["self"] (defScope s_Run_undo) := ⟨rfl, rfl, rfl, by decide +kernel, rfl, by decide +kernel, by decide +kernel⟩
abbrev s_Run___init__ : Stmt := inClass (topS 57) 1
theorem sc_Run___init__ : FnScope ["self", "count"] ["self", "count"] (defScope s_Run___init__) := ⟨rfl, rfl, rfl, by decide +kernel, rfl, by decide +kernel, by decide +kernel⟩
abbrev s_Run_finish : Stmt := inClass (topS 57) 5
theorem sc_Run_finish : FnScope ["self", "process"] ["self", "process"] (defScope s_Run_finish) := ⟨rfl, rfl, rfl, by decide +kernel, rfl, by decide +kernel, by decide +kernel⟩
abbrev s_Run_play : Stmt := inClass (topS 57) 4
theorem sc_Run_play : FnScope ["self", "processes", "mark", "told", "process"] ["self", "processes"] (defScope s_Run_play) := ⟨rfl, rfl, rfl, by decide +kernel, rfl, by decide +kernel, by decide +kernel⟩
abbrev s_Run_step : Stmt := inClass (topS 57) 3
theorem sc_Run_step : FnScope ["self", "process"] ["self", "process"] (defScope s_Run_step) := ⟨rfl, rfl, rfl, by decide +kernel, rfl, by decide +kernel, by decide +kernel⟩
abbrev s_Run___len__ : Stmt := inClass (topS 57) 12
theorem sc_Run___len__ : FnScope ["self"] ["self"] (defScope s_Run___len__) := ⟨rfl, rfl, rfl, by decide +kernel, rfl, by decide +kernel, by decide +kernel⟩
abbrev s_Desk___init__ : Stmt := inClass (topS 99) 0
theorem sc_Desk___init__ : FnScope ["self"] ["self"] (defScope s_Desk___init__) := ⟨rfl, rfl, rfl, by decide +kernel, rfl, by decide +kernel, by decide +kernel⟩
abbrev s_read_number : Stmt := topS 53
theorem sc_read_number : FnScope ["word", "most_digits"] ["word", "most_digits"] (defScope s_read_number) := ⟨rfl, rfl, rfl, by decide +kernel, rfl, by decide +kernel, by decide +kernel⟩
abbrev s_read_argument : Stmt := topS 101
theorem sc_read_argument : FnScope ["word", "rest"] ["word", "rest"] (defScope s_read_argument) := ⟨rfl, rfl, rfl, by decide +kernel, rfl, by decide +kernel, by decide +kernel⟩
abbrev s_read_command : Stmt := topS 100
theorem sc_read_command : FnScope ["row", "word", "_", "rest"] ["row"] (defScope s_read_command) := ⟨rfl, rfl, rfl, by decide +kernel, rfl, by decide +kernel, by decide +kernel⟩
abbrev s_show_or : Stmt := topS 95
theorem sc_show_or : FnScope ["number", "otherwise"] ["number", "otherwise"] (defScope s_show_or) := ⟨rfl, rfl, rfl, by decide +kernel, rfl, by decide +kernel, by decide +kernel⟩
abbrev s_names : Stmt := topS 88
theorem sc_names : FnScope ["run", "name"] ["run"] (defScope s_names) := ⟨rfl, rfl, rfl, by decide +kernel, rfl, by decide +kernel, by decide +kernel⟩
abbrev s_places : Stmt := topS 89
theorem sc_places : FnScope ["run", "name", "done"] ["run"] (defScope s_places) := ⟨rfl, rfl, rfl, by decide +kernel, rfl, by decide +kernel, by decide +kernel⟩
abbrev s_text : Stmt := topS 90
theorem sc_text : FnScope ["run"] ["run"] (defScope s_text) := ⟨rfl, rfl, rfl, by decide +kernel, rfl, by decide +kernel, by decide +kernel⟩
abbrev s_undo : Stmt := topS 87
theorem sc_undo : FnScope ["run"] ["run"] (defScope s_undo) := ⟨rfl, rfl, rfl, by decide +kernel, rfl, by decide +kernel, by decide +kernel⟩
abbrev s_finish : Stmt := topS 86
theorem sc_finish : FnScope ["run", "process"] ["run", "process"] (defScope s_finish) := ⟨rfl, rfl, rfl, by decide +kernel, rfl, by decide +kernel, by decide +kernel⟩
abbrev s_step : Stmt := topS 85
theorem sc_step : FnScope ["run", "process", "told", "result", "name"] ["run", "process"] (defScope s_step) := ⟨rfl, rfl, rfl, by decide +kernel, rfl, by decide +kernel, by decide +kernel⟩
abbrev s_Desk_execute : Stmt := inClass (topS 99) 1
theorem sc_Desk_execute : FnScope ["self", "row", "word", "argument", "answer", "perform", "tell"] ["self", "row"] (defScope s_Desk_execute) := ⟨rfl, rfl, rfl, by decide +kernel, rfl, by decide +kernel, by decide +kernel⟩
abbrev s_law_urn : Stmt := topS 103
theorem sc_law_urn : FnScope ["script", "k", "cell"] ["script", "k"] (defScope s_law_urn) := ⟨rfl, rfl, rfl, by decide +kernel, rfl, by decide +kernel, by decide +kernel⟩
abbrev s_law_dip : Stmt := topS 104
theorem sc_law_dip : FnScope ["urn", "size", "found", "mixed"] ["urn", "size"] (defScope s_law_dip) := ⟨rfl, rfl, rfl, by decide +kernel, rfl, by decide +kernel, by decide +kernel⟩
abbrev s_law_equal : Stmt := topS 105
theorem sc_law_equal : FnScope ["desk", "held", "given", "name", "spots", "place", "text"] ["desk", "held"] (defScope s_law_equal) := ⟨rfl, rfl, rfl, by decide +kernel, rfl, by decide +kernel, by decide +kernel⟩
abbrev s_law_called : Stmt := topS 106
theorem sc_law_called : FnScope ["urn", "desk", "held", "past", "able", "who", "name", "way", "told", "due"] ["urn", "desk", "held", "past"] (defScope s_law_called) := ⟨rfl, rfl, rfl, by decide +kernel, rfl, by decide +kernel, by decide +kernel⟩
abbrev s_law : Stmt := topS 107
theorem sc_law : FnScope ["script", "k", "urn", "turn", "desk", "mate", "size", "again", "held", "past", "row"] ["script"] (defScope s_law) := ⟨rfl, rfl, rfl, by decide +kernel, rfl, by decide +kernel, by decide +kernel⟩
/-- where the top has laid what the text names -/
structure Ad where
  a_is_integer : Addr
  fd_is_integer : FuncData
  a_is_integer_within : Addr
  fd_is_integer_within : FuncData
  a_check_coordinate : Addr
  fd_check_coordinate : FuncData
  a_cells_before : Addr
  fd_cells_before : FuncData
  a_name_of : Addr
  fd_name_of : FuncData
  a_check_count : Addr
  fd_check_count : FuncData
  a_Walk___init__ : Addr
  fd_Walk___init__ : FuncData
  a_Splitter_perform : Addr
  fd_Splitter_perform : FuncData
  a_Walk__end_in_cell : Addr
  fd_Walk__end_in_cell : FuncData
  a_Splitter___init__ : Addr
  fd_Splitter___init__ : FuncData
  a_Walk__splitter_at : Addr
  fd_Walk__splitter_at : FuncData
  a_Walk_step : Addr
  fd_Walk_step : FuncData
  a_Walk_can_step : Addr
  fd_Walk_can_step : FuncData
  a_perform_schedule : Addr
  fd_perform_schedule : FuncData
  a_walk_after : Addr
  fd_walk_after : FuncData
  a_show_schedule : Addr
  fd_show_schedule : FuncData
  a_show_run : Addr
  fd_show_run : FuncData
  a_Run_names_now : Addr
  fd_Run_names_now : FuncData
  p_Run_names_now : Addr
  a_Run_places_now : Addr
  fd_Run_places_now : FuncData
  p_Run_places_now : Addr
  a_Run_process_count : Addr
  fd_Run_process_count : FuncData
  p_Run_process_count : Addr
  a_Run_steps_done : Addr
  fd_Run_steps_done : FuncData
  p_Run_steps_done : Addr
  a_Run__return_to : Addr
  fd_Run__return_to : FuncData
  a_Run_undo : Addr
  fd_Run_undo : FuncData
  a_Run___init__ : Addr
  fd_Run___init__ : FuncData
  a_Run_finish : Addr
  fd_Run_finish : FuncData
  a_Run_play : Addr
  fd_Run_play : FuncData
  a_Run_step : Addr
  fd_Run_step : FuncData
  a_Run___len__ : Addr
  fd_Run___len__ : FuncData
  a_Desk___init__ : Addr
  fd_Desk___init__ : FuncData
  a_read_number : Addr
  fd_read_number : FuncData
  a_read_argument : Addr
  fd_read_argument : FuncData
  a_read_command : Addr
  fd_read_command : FuncData
  a_show_or : Addr
  fd_show_or : FuncData
  a_names : Addr
  fd_names : FuncData
  a_places : Addr
  fd_places : FuncData
  a_text : Addr
  fd_text : FuncData
  a_undo : Addr
  fd_undo : FuncData
  a_finish : Addr
  fd_finish : FuncData
  a_step : Addr
  fd_step : FuncData
  a_Desk_execute : Addr
  fd_Desk_execute : FuncData
  a_law_urn : Addr
  fd_law_urn : FuncData
  a_law_dip : Addr
  fd_law_dip : FuncData
  a_law_equal : Addr
  fd_law_equal : FuncData
  a_law_called : Addr
  fd_law_called : FuncData
  a_law : Addr
  fd_law : FuncData
  c_Splitter : Addr
  c_Walk : Addr
  c_Run : Addr
  c_Desk : Addr
  k_PLAIN_ACTIONS : Addr
  k_PROCESS_ACTIONS : Addr
  k_QUESTIONS : Addr
  ku_QUESTIONS_0 : Addr
  ku_QUESTIONS_1 : Addr
  ku_QUESTIONS_2 : Addr
  ku_QUESTIONS_3 : Addr
structure Mo (w : World) (K : PySem.W.Frag) (mg : Str → Option Value) (d : Ad) : Prop where
  F_is_integer : Fun K "is_integer" "is_integer" s_is_integer d.a_is_integer d.fd_is_integer
  b_is_integer : Binds K d.fd_is_integer ["value"] []
  g_is_integer : mg "is_integer" = some (.ref d.a_is_integer)
  F_is_integer_within : Fun K "is_integer_within" "is_integer_within" s_is_integer_within d.a_is_integer_within d.fd_is_integer_within
  b_is_integer_within : Binds K d.fd_is_integer_within ["value", "least", "greatest"] []
  g_is_integer_within : mg "is_integer_within" = some (.ref d.a_is_integer_within)
  F_check_coordinate : Fun K "_check_coordinate" "_check_coordinate" s_check_coordinate d.a_check_coordinate d.fd_check_coordinate
  b_check_coordinate : Binds K d.fd_check_coordinate ["value"] []
  g_check_coordinate : mg "_check_coordinate" = some (.ref d.a_check_coordinate)
  F_cells_before : Fun K "_cells_before" "_cells_before" s_cells_before d.a_cells_before d.fd_cells_before
  b_cells_before : Binds K d.fd_cells_before ["diagonal"] []
  g_cells_before : mg "_cells_before" = some (.ref d.a_cells_before)
  F_name_of : Fun K "name_of" "name_of" s_name_of d.a_name_of d.fd_name_of
  b_name_of : Binds K d.fd_name_of ["right", "down"] []
  g_name_of : mg "name_of" = some (.ref d.a_name_of)
  F_check_count : Fun K "check_count" "check_count" s_check_count d.a_check_count d.fd_check_count
  b_check_count : Binds K d.fd_check_count ["count", "greatest"] []
  g_check_count : mg "check_count" = some (.ref d.a_check_count)
  F_Walk___init__ : Fun K "__init__" "Walk.__init__" s_Walk___init__ d.a_Walk___init__ d.fd_Walk___init__
  b_Walk___init__ : Binds K d.fd_Walk___init__ ["self", "count"] []
  F_Splitter_perform : Fun K "perform" "Splitter.perform" s_Splitter_perform d.a_Splitter_perform d.fd_Splitter_perform
  b_Splitter_perform : Binds K d.fd_Splitter_perform ["self", "process", "done"] []
  M_Splitter_perform : Meth K d.c_Splitter "perform" d.a_Splitter_perform
  F_Walk__end_in_cell : Fun K "_end_in_cell" "Walk._end_in_cell" s_Walk__end_in_cell d.a_Walk__end_in_cell d.fd_Walk__end_in_cell
  b_Walk__end_in_cell : Binds K d.fd_Walk__end_in_cell ["self", "process", "result"] []
  M_Walk__end_in_cell : Meth K d.c_Walk "_end_in_cell" d.a_Walk__end_in_cell
  F_Splitter___init__ : Fun K "__init__" "Splitter.__init__" s_Splitter___init__ d.a_Splitter___init__ d.fd_Splitter___init__
  b_Splitter___init__ : Binds K d.fd_Splitter___init__ ["self"] []
  F_Walk__splitter_at : Fun K "_splitter_at" "Walk._splitter_at" s_Walk__splitter_at d.a_Walk__splitter_at d.fd_Walk__splitter_at
  b_Walk__splitter_at : Binds K d.fd_Walk__splitter_at ["self", "place"] []
  M_Walk__splitter_at : Meth K d.c_Walk "_splitter_at" d.a_Walk__splitter_at
  F_Walk_step : Fun K "step" "Walk.step" s_Walk_step d.a_Walk_step d.fd_Walk_step
  b_Walk_step : Binds K d.fd_Walk_step ["self", "process"] []
  M_Walk_step : Meth K d.c_Walk "step" d.a_Walk_step
  F_Walk_can_step : Fun K "can_step" "Walk.can_step" s_Walk_can_step d.a_Walk_can_step d.fd_Walk_can_step
  b_Walk_can_step : Binds K d.fd_Walk_can_step ["self", "process"] []
  M_Walk_can_step : Meth K d.c_Walk "can_step" d.a_Walk_can_step
  F_perform_schedule : Fun K "perform_schedule" "perform_schedule" s_perform_schedule d.a_perform_schedule d.fd_perform_schedule
  b_perform_schedule : Binds K d.fd_perform_schedule ["run", "schedule"] []
  g_perform_schedule : mg "perform_schedule" = some (.ref d.a_perform_schedule)
  F_walk_after : Fun K "walk_after" "walk_after" s_walk_after d.a_walk_after d.fd_walk_after
  b_walk_after : Binds K d.fd_walk_after ["count", "schedule"] []
  g_walk_after : mg "walk_after" = some (.ref d.a_walk_after)
  F_show_schedule : Fun K "show_schedule" "show_schedule" s_show_schedule d.a_show_schedule d.fd_show_schedule
  b_show_schedule : Binds K d.fd_show_schedule ["schedule"] []
  g_show_schedule : mg "show_schedule" = some (.ref d.a_show_schedule)
  F_show_run : Fun K "show_run" "show_run" s_show_run d.a_show_run d.fd_show_run
  b_show_run : Binds K d.fd_show_run ["count", "schedule"] []
  g_show_run : mg "show_run" = some (.ref d.a_show_run)
  F_Run_names_now : Fun K "names_now" "Run.names_now" s_Run_names_now d.a_Run_names_now d.fd_Run_names_now
  b_Run_names_now : Binds K d.fd_Run_names_now ["self"] []
  P_Run_names_now : PropOf K d.c_Run "names_now" d.p_Run_names_now d.a_Run_names_now
  F_Run_places_now : Fun K "places_now" "Run.places_now" s_Run_places_now d.a_Run_places_now d.fd_Run_places_now
  b_Run_places_now : Binds K d.fd_Run_places_now ["self"] []
  P_Run_places_now : PropOf K d.c_Run "places_now" d.p_Run_places_now d.a_Run_places_now
  F_Run_process_count : Fun K "process_count" "Run.process_count" s_Run_process_count d.a_Run_process_count d.fd_Run_process_count
  b_Run_process_count : Binds K d.fd_Run_process_count ["self"] []
  P_Run_process_count : PropOf K d.c_Run "process_count" d.p_Run_process_count d.a_Run_process_count
  F_Run_steps_done : Fun K "steps_done" "Run.steps_done" s_Run_steps_done d.a_Run_steps_done d.fd_Run_steps_done
  b_Run_steps_done : Binds K d.fd_Run_steps_done ["self"] []
  P_Run_steps_done : PropOf K d.c_Run "steps_done" d.p_Run_steps_done d.a_Run_steps_done
  F_Run__return_to : Fun K "_return_to" "Run._return_to" s_Run__return_to d.a_Run__return_to d.fd_Run__return_to
  b_Run__return_to : Binds K d.fd_Run__return_to ["self", "mark"] []
  M_Run__return_to : Meth K d.c_Run "_return_to" d.a_Run__return_to
  F_Run_undo : Fun K "undo" "Run.undo" s_Run_undo d.a_Run_undo d.fd_Run_undo
  b_Run_undo : Binds K d.fd_Run_undo ["self"] []
  M_Run_undo : Meth K d.c_Run "undo" d.a_Run_undo
  F_Run___init__ : Fun K "__init__" "Run.__init__" s_Run___init__ d.a_Run___init__ d.fd_Run___init__
  b_Run___init__ : Binds K d.fd_Run___init__ ["self", "count"] []
  F_Run_finish : Fun K "finish" "Run.finish" s_Run_finish d.a_Run_finish d.fd_Run_finish
  b_Run_finish : Binds K d.fd_Run_finish ["self", "process"] []
  M_Run_finish : Meth K d.c_Run "finish" d.a_Run_finish
  F_Run_play : Fun K "play" "Run.play" s_Run_play d.a_Run_play d.fd_Run_play
  M_Run_play : Meth K d.c_Run "play" d.a_Run_play
  F_Run_step : Fun K "step" "Run.step" s_Run_step d.a_Run_step d.fd_Run_step
  b_Run_step : Binds K d.fd_Run_step ["self", "process"] []
  M_Run_step : Meth K d.c_Run "step" d.a_Run_step
  F_Run___len__ : Fun K "__len__" "Run.__len__" s_Run___len__ d.a_Run___len__ d.fd_Run___len__
  b_Run___len__ : Binds K d.fd_Run___len__ ["self"] []
  L_Run___len__ : PySem.W.findIn K (.ref d.c_Run) "__len__" = some (some (.ref d.a_Run___len__)) ∧ PySem.W.typeIn K (.ref d.a_Run___len__) = some (.type "function")
  F_Desk___init__ : Fun K "__init__" "Desk.__init__" s_Desk___init__ d.a_Desk___init__ d.fd_Desk___init__
  b_Desk___init__ : Binds K d.fd_Desk___init__ ["self"] []
  F_read_number : Fun K "read_number" "read_number" s_read_number d.a_read_number d.fd_read_number
  b_read_number : Binds K d.fd_read_number ["word", "most_digits"] []
  g_read_number : mg "read_number" = some (.ref d.a_read_number)
  F_read_argument : Fun K "_read_argument" "_read_argument" s_read_argument d.a_read_argument d.fd_read_argument
  b_read_argument : Binds K d.fd_read_argument ["word", "rest"] []
  g_read_argument : mg "_read_argument" = some (.ref d.a_read_argument)
  F_read_command : Fun K "_read_command" "_read_command" s_read_command d.a_read_command d.fd_read_command
  b_read_command : Binds K d.fd_read_command ["row"] []
  g_read_command : mg "_read_command" = some (.ref d.a_read_command)
  F_show_or : Fun K "_show_or" "_show_or" s_show_or d.a_show_or d.fd_show_or
  b_show_or : Binds K d.fd_show_or ["number", "otherwise"] []
  g_show_or : mg "_show_or" = some (.ref d.a_show_or)
  F_names : Fun K "_names" "_names" s_names d.a_names d.fd_names
  b_names : Binds K d.fd_names ["run"] []
  g_names : mg "_names" = some (.ref d.a_names)
  F_places : Fun K "_places" "_places" s_places d.a_places d.fd_places
  b_places : Binds K d.fd_places ["run"] []
  g_places : mg "_places" = some (.ref d.a_places)
  F_text : Fun K "_text" "_text" s_text d.a_text d.fd_text
  b_text : Binds K d.fd_text ["run"] []
  g_text : mg "_text" = some (.ref d.a_text)
  F_undo : Fun K "_undo" "_undo" s_undo d.a_undo d.fd_undo
  b_undo : Binds K d.fd_undo ["run"] []
  g_undo : mg "_undo" = some (.ref d.a_undo)
  F_finish : Fun K "_finish" "_finish" s_finish d.a_finish d.fd_finish
  b_finish : Binds K d.fd_finish ["run", "process"] []
  g_finish : mg "_finish" = some (.ref d.a_finish)
  F_step : Fun K "_step" "_step" s_step d.a_step d.fd_step
  b_step : Binds K d.fd_step ["run", "process"] []
  g_step : mg "_step" = some (.ref d.a_step)
  F_Desk_execute : Fun K "execute" "Desk.execute" s_Desk_execute d.a_Desk_execute d.fd_Desk_execute
  b_Desk_execute : Binds K d.fd_Desk_execute ["self", "row"] []
  M_Desk_execute : Meth K d.c_Desk "execute" d.a_Desk_execute
  F_law_urn : Fun K "_law_urn" "_law_urn" s_law_urn d.a_law_urn d.fd_law_urn
  b_law_urn : Binds K d.fd_law_urn ["script", "k"] []
  g_law_urn : mg "_law_urn" = some (.ref d.a_law_urn)
  F_law_dip : Fun K "_law_dip" "_law_dip" s_law_dip d.a_law_dip d.fd_law_dip
  b_law_dip : Binds K d.fd_law_dip ["urn", "size"] []
  g_law_dip : mg "_law_dip" = some (.ref d.a_law_dip)
  F_law_equal : Fun K "_law_equal" "_law_equal" s_law_equal d.a_law_equal d.fd_law_equal
  b_law_equal : Binds K d.fd_law_equal ["desk", "held"] []
  g_law_equal : mg "_law_equal" = some (.ref d.a_law_equal)
  F_law_called : Fun K "_law_called" "_law_called" s_law_called d.a_law_called d.fd_law_called
  b_law_called : Binds K d.fd_law_called ["urn", "desk", "held", "past"] []
  g_law_called : mg "_law_called" = some (.ref d.a_law_called)
  F_law : Fun K "law" "law" s_law d.a_law d.fd_law
  b_law : Binds K d.fd_law ["script"] []
  g_law : mg "law" = some (.ref d.a_law)
  g_Splitter : mg "Splitter" = some (.ref d.c_Splitter)
  C_Splitter : Cls K d.c_Splitter
  K_Splitter : Mk K d.c_Splitter d.a_Splitter___init__
  x_Splitter_writer : NoAttr K d.c_Splitter "writer"
  x_Splitter_closed : NoAttr K d.c_Splitter "closed"
  g_Walk : mg "Walk" = some (.ref d.c_Walk)
  C_Walk : Cls K d.c_Walk
  K_Walk : Mk K d.c_Walk d.a_Walk___init__
  x_Walk_cells : NoAttr K d.c_Walk "cells"
  x_Walk_places : NoAttr K d.c_Walk "places"
  x_Walk_done : NoAttr K d.c_Walk "done"
  x_Walk_names : NoAttr K d.c_Walk "names"
  x_Walk_steps : NoAttr K d.c_Walk "steps"
  x_Walk_reports : NoAttr K d.c_Walk "reports"
  g_Run : mg "Run" = some (.ref d.c_Run)
  C_Run : Cls K d.c_Run
  K_Run : Mk K d.c_Run d.a_Run___init__
  x_Run__walk : NoAttr K d.c_Run "_walk"
  x_Run__marks : NoAttr K d.c_Run "_marks"
  g_Desk : mg "Desk" = some (.ref d.c_Desk)
  C_Desk : Cls K d.c_Desk
  K_Desk : Mk K d.c_Desk d.a_Desk___init__
  x_Desk__run : NoAttr K d.c_Desk "_run"
  n_bool : mg "bool" = none
  n_enumerate : mg "enumerate" = none
  n_int : mg "int" = none
  n_isinstance : mg "isinstance" = none
  n_len : mg "len" = none
  n_list : mg "list" = none
  n_max : mg "max" = none
  n_min : mg "min" = none
  n_range : mg "range" = none
  n_str : mg "str" = none
  n_zip : mg "zip" = none
  mg_DONE : ∃ t, mg "DONE" = some (.str "ok" t)
  mg_EMPTY_SCHEDULE : ∃ t, mg "EMPTY_SCHEDULE" = some (.str "-" t)
  mg_GREATEST_COORDINATE : ∃ t, mg "GREATEST_COORDINATE" = some (.int (1000000000000000) t)
  mg_GREATEST_COUNT_splitters : ∃ t, mg "GREATEST_COUNT_splitters" = some (.int (40) t)
  mg_MOST_DIGITS_desk : ∃ t, mg "MOST_DIGITS_desk" = some (.int (9) t)
  mg_NOTHING : ∃ t, mg "NOTHING" = some (.str "-" t)
  mgd_PLAIN_ACTIONS : mg "PLAIN_ACTIONS" = some (.ref d.k_PLAIN_ACTIONS)
  kd_PLAIN_ACTIONS : KD K w d.k_PLAIN_ACTIONS [("undo", d.a_undo), ("names", d.a_names), ("places", d.a_places), ("text", d.a_text)]
  mgd_PROCESS_ACTIONS : mg "PROCESS_ACTIONS" = some (.ref d.k_PROCESS_ACTIONS)
  kd_PROCESS_ACTIONS : KD K w d.k_PROCESS_ACTIONS [("step", d.a_step), ("finish", d.a_finish)]
  mgd_QUESTIONS : mg "QUESTIONS" = some (.ref d.k_QUESTIONS)
  kd_QUESTIONS : KD K w d.k_QUESTIONS [("possible", d.ku_QUESTIONS_0), ("stuck", d.ku_QUESTIONS_1), ("least", d.ku_QUESTIONS_2), ("plan", d.ku_QUESTIONS_3)]
/-! ### the grid as it is run -/
abbrev Cell := Nat × Nat
structure Gs where
  pos : List Cell
  dn : List Nat
  fin : List Bool
  x : Cell → Option Nat
  y : Cell → Bool
def Gs.init (n : Nat) : Gs := ⟨List.replicate n (0, 0), List.replicate n 0, List.replicate n false, fun _ => none, fun _ => false⟩
def fset {α : Type} (f : Cell → α) (c : Cell) (v : α) : Cell → α := fun d => if d = c then v else f d
inductive Rs | non | right (c : Cell) | down (c : Cell) | stop (c : Cell)
def Gs.at (g : Gs) (p : Nat) : Cell := g.pos.getD p (0, 0)
def Gs.dnAt (g : Gs) (p : Nat) : Nat := g.dn.getD p 0
/-- what the next step of p gives -/
def Gs.res (g : Gs) (p : Nat) : Rs :=
  if g.dnAt p = 1 ∧ g.y (g.at p) = true then .right ((g.at p).1 + 1, (g.at p).2)
  else if g.dnAt p = 3 then (if g.x (g.at p) = some p then .stop (g.at p) else .down ((g.at p).1, (g.at p).2 + 1)) else .non
def Gs.step (g : Gs) (p : Nat) : Gs :=
  match g.res p with
  | .right c => { g with pos := g.pos.set p c, dn := g.dn.set p 0 }
  | .down c => { g with pos := g.pos.set p c, dn := g.dn.set p 0 }
  | .stop _ => { g with fin := g.fin.set p true, dn := g.dn.set p 4 }
  | .non => { g with dn := g.dn.set p (g.dnAt p + 1), x := if g.dnAt p = 0 then fset g.x (g.at p) (some p) else g.x, y := if g.dnAt p = 2 then fset g.y (g.at p) true else g.y }
def Gs.run (g : Gs) (l : List Nat) : Gs := l.foldl Gs.step g
def Gs.Ok (g : Gs) (p : Nat) : Prop := g.fin[p]? = some false
def GVal : Gs → List Nat → Prop
  | _, [] => True
  | g, p :: r => g.Ok p ∧ GVal (g.step p) r
structure Gs.Ln (g : Gs) (n : Nat) : Prop where
  lp : g.pos.length = n
  ld : g.dn.length = n
  lf : g.fin.length = n
structure Gs.Wf (g : Gs) (n : Nat) : Prop extends Gs.Ln g n where
  d3 : ∀ p, g.Ok p → g.dnAt p ≤ 3
  wx : ∀ p, g.Ok p → g.dnAt p ≠ 0 → (g.x (g.at p)).isSome = true
theorem Gs.init_wf (n : Nat) : (Gs.init n).Wf n := by
  refine ⟨⟨List.length_replicate, List.length_replicate, List.length_replicate⟩, fun p h => ?_, fun p h h2 => ?_⟩
  · unfold Gs.dnAt Gs.init
    rw [List.getD_eq_getElem?_getD, List.getElem?_replicate]
    split <;> simp
  · refine absurd ?_ h2
    unfold Gs.dnAt Gs.init
    rw [List.getD_eq_getElem?_getD, List.getElem?_replicate]
    split <;> simp
theorem Gs.Ok.lt {g : Gs} {n p : Nat} (h : g.Ok p) (wf : g.Wf n) : p < n := by
  rw [← wf.lf]
  exact (List.getElem?_eq_some_iff.mp h).1
theorem getD_set {α : Type} {l : List α} {i j : Nat} {v d : α} (h : i < l.length) : (l.set i v).getD j d = if i = j then v else l.getD j d := by
  rw [List.getD_eq_getElem?_getD, List.getD_eq_getElem?_getD, List.getElem?_set]
  split
  · rename_i c; subst c; simp [h]
  · rfl
theorem Gs.Wf.step {g : Gs} {n p : Nat} (wf : g.Wf n) (ok : g.Ok p) : (g.step p).Wf n := by
  have hp := ok.lt wf
  have hd := wf.d3 p ok
  have hpl : p < g.pos.length := by rw [wf.lp]; exact hp
  have hdl : p < g.dn.length := by rw [wf.ld]; exact hp
  have mv : ∀ c, Gs.Wf { g with pos := g.pos.set p c, dn := g.dn.set p 0 } n := by
    intro c
    refine ⟨⟨by simp [wf.lp], by simp [wf.ld], wf.lf⟩, fun q hq => ?_, fun q hq h2 => ?_⟩
    · show (g.dn.set p 0).getD q 0 ≤ 3
      rw [getD_set hdl]
      split
      · omega
      · exact wf.d3 q hq
    · have h2 : (g.dn.set p 0).getD q 0 ≠ 0 := h2
      show (g.x ((g.pos.set p c).getD q (0, 0))).isSome = true
      rw [getD_set hdl] at h2
      rw [getD_set hpl]
      split
      · rename_i e; rw [if_pos e] at h2; exact absurd rfl h2
      · rename_i e; rw [if_neg e] at h2; exact wf.wx q hq h2
  unfold Gs.step
  split <;> rename_i hr
  · exact mv _
  · exact mv _
  · have off : ∀ q, (g.fin.set p true)[q]? = some false → p ≠ q ∧ g.Ok q := fun q hq => by
      by_cases c : p = q
      · subst c
        rw [List.getElem?_set_self (by rw [wf.lf]; exact hp)] at hq
        cases hq
      · rw [List.getElem?_set_ne c] at hq
        exact ⟨c, hq⟩
    refine ⟨⟨wf.lp, by simp [wf.ld], by simp [wf.lf]⟩, fun q hq => ?_, fun q hq h2 => ?_⟩
    · obtain ⟨c, hq⟩ := off q hq
      show (g.dn.set p 4).getD q 0 ≤ 3
      rw [getD_set hdl, if_neg c]
      exact wf.d3 q hq
    · obtain ⟨c, hq⟩ := off q hq
      have h2 : (g.dn.set p 4).getD q 0 ≠ 0 := h2
      rw [getD_set hdl, if_neg c] at h2
      exact wf.wx q hq h2
  · refine ⟨⟨wf.lp, by simp [wf.ld], wf.lf⟩, fun q hq => ?_, fun q hq h2 => ?_⟩
    · show (g.dn.set p (g.dnAt p + 1)).getD q 0 ≤ 3
      rw [getD_set hdl]
      split
      · have : g.dnAt p ≠ 3 := by
          intro c
          unfold Gs.res at hr
          rw [c] at hr
          rw [if_neg (by omega), if_pos rfl] at hr
          split at hr <;> cases hr
        omega
      · exact wf.d3 q hq
    · have h2 : (g.dn.set p (g.dnAt p + 1)).getD q 0 ≠ 0 := h2
      show ((if g.dnAt p = 0 then fset g.x (g.at p) (some p) else g.x) (g.at q)).isSome = true
      rw [getD_set hdl] at h2
      by_cases e0 : g.dnAt p = 0
      · rw [if_pos e0]
        unfold fset
        split
        · rfl
        · rename_i ne
          by_cases c : p = q
          · subst c; exact absurd rfl ne
          · rw [if_neg c] at h2; exact wf.wx q hq h2
      · rw [if_neg e0]
        by_cases c : p = q
        · subst c; exact wf.wx p hq e0
        · rw [if_neg c] at h2; exact wf.wx q hq h2
theorem GVal.wf : ∀ {l : List Nat} {g : Gs} {n : Nat}, g.Wf n → GVal g l → (g.run l).Wf n
  | [], _, _, h, _ => h
  | p :: r, g, n, h, v => GVal.wf (l := r) (h.step v.1) v.2
theorem grun_take {g : Gs} {l : List Nat} {i p : Nat} (h : l[i]? = some p) : g.run (l.take (i + 1)) = (g.run (l.take i)).step p := by
  unfold Gs.run
  rw [List.take_add_one, h, List.foldl_append]
  rfl
theorem grun_app (g : Gs) (l : List Nat) (p : Nat) : g.run (l ++ [p]) = (g.run l).step p := by
  unfold Gs.run
  rw [List.foldl_append]
  rfl
theorem GVal.take : ∀ {l : List Nat} {g : Gs} (i : Nat), GVal g l → GVal g (l.take i)
  | _, _, 0, _ => trivial
  | [], _, i + 1, _ => trivial
  | p :: r, g, i + 1, v => ⟨v.1, GVal.take i v.2⟩
theorem GVal.at : ∀ {l : List Nat} {g : Gs} {i p : Nat}, GVal g l → l[i]? = some p → (g.run (l.take i)).Ok p
  | p :: r, g, 0, q, v, h => by cases h; exact v.1
  | p :: r, g, i + 1, q, v, h => GVal.at (l := r) (g := g.step p) v.2 h
theorem GVal.app : ∀ {l : List Nat} {g : Gs} {p : Nat}, GVal g l → (g.run l).Ok p → GVal g (l ++ [p])
  | [], _, _, _, h => ⟨h, trivial⟩
  | q :: r, g, p, v, h => ⟨v.1, GVal.app (l := r) (g := g.step q) v.2 h⟩
theorem GVal.lt : ∀ {l : List Nat} {g : Gs} {n : Nat}, g.Wf n → GVal g l → ∀ p ∈ l, p < n
  | [], _, _, _, _, p, hp => (List.not_mem_nil hp).elim
  | q :: r, g, n, wf, v, p, hp => by
    rcases List.mem_cons.mp hp with z | z
    · rw [z]
      exact v.1.lt wf
    · exact GVal.lt (l := r) (wf.step v.1) v.2 p z
/-! ### values -/
def nv (l : List Nat) : List V := l.map fun (p : Nat) => V.int (p : Int)
theorem nv_len (l : List Nat) : (nv l).length = l.length := by unfold nv; rw [List.length_map]
theorem nv_at {l : List Nat} {i : Nat} {x : V} (h : (nv l)[i]? = some x) : ∃ p, l[i]? = some p ∧ x = V.int (p : Int) := by
  unfold nv at h
  rw [List.getElem?_map] at h
  cases e : l[i]? with
  | none => rw [e] at h; cases h
  | some p => rw [e] at h; cases h; exact ⟨p, rfl, rfl⟩
theorem atI_nat' {α : Type} {l : List α} {i : Nat} {x : α} (h : l[i]? = some x) : atI l (i : Int) = some x := by
  have hi : i < l.length := (List.getElem?_eq_some_iff.mp h).1
  rw [atI_in (by omega) (by omega), ← h]
  simp only [Int.toNat_natCast]
  exact (List.getElem?_eq_getElem _).symm
theorem nv_atI {l : List Nat} {i d : Nat} (h : l[i]? = some d) : atI (nv l) (i : Int) = some (V.int (d : Int)) :=
  atI_nat' (by unfold nv; rw [List.getElem?_map, h]; rfl)
theorem ixN_nat {n i : Nat} (h : i < n) : ixN n (i : Int) = some i := by
  unfold ixN
  rw [if_pos (by omega), if_pos (by omega), Int.toNat_natCast]
theorem nv_set (l : List Nat) (i d : Nat) : (nv l).set i (V.int (d : Int)) = nv (l.set i d) := by
  unfold nv
  rw [List.map_set]
theorem nv_put (l : List Nat) (p k : Nat) : (nv l).set p (V.int ((k : Int) + 1)) = nv (l.set p (k + 1)) := by rw [← nv_set]; rfl
theorem nv_app (l : List Nat) (d : Nat) : nv (l ++ [d]) = nv l ++ [V.int (d : Int)] := by
  unfold nv
  rw [List.map_append]
  rfl
theorem nv_pick {l : List Nat} {r : Int} (h0 : 0 ≤ r) (h : r < l.length) : ∃ p, p ∈ l ∧ atI (nv l) r = some (V.int (p : Int)) := by
  have hr : r.toNat < l.length := by omega
  refine ⟨l[r.toNat], List.getElem_mem _, ?_⟩
  have := nv_atI (List.getElem?_eq_getElem hr)
  rw [Int.toNat_of_nonneg h0] at this
  exact this
theorem cut_take {α : Type} (xs : List V) (k : Nat) : cutV xs none (some (k : Int)) = xs.take k := by
  unfold cutV
  rw [HT.sIx_none, HT.sIx_nat]
  show (xs.drop 0).take (min k xs.length - 0) = _
  rw [List.drop_zero, Nat.sub_zero, List.take_eq_take_iff]
  omega
theorem nv_take (l : List Nat) (k : Nat) : (nv l).take k = nv (l.take k) := by
  unfold nv
  rw [List.map_take]
theorem nv_rep (n : Nat) : nv (List.replicate n 0) = List.replicate n (V.int 0) := by unfold nv; rw [List.map_replicate]; rfl
def cellV (c : Cell) : List V := [.int (c.1 : Int), .int (c.2 : Int)]
def keyC (c : Cell) : List Key := [.inl (c.1 : Int), .inl (c.2 : Int)]
theorem keyC_inj {c d : Cell} (h : keyC c = keyC d) : c = d := by
  unfold keyC at h
  simp only [List.cons.injEq, Sum.inl.injEq, and_true] at h
  exact Prod.ext (by omega) (by omega)
def nmC (c : Cell) : Int := ((c.1 : Int) + (c.2 : Int)) * ((c.1 : Int) + (c.2 : Int) + 1) / 2 + (c.1 : Int)
def wV : Option Nat → V
  | none => .non
  | some p => .int (p : Int)
def Gs.names (g : Gs) : List V := List.zipWith (fun (f : Bool) (c : Cell) => if f = true then V.int (nmC c) else V.non) g.fin g.pos
theorem Gs.names_at {g : Gs} {n p : Nat} (wf : g.Ln n) (hp : p < n) : g.names[p]? = some (if g.fin[p]? = some true then V.int (nmC (g.at p)) else V.non) := by
  have h1 : p < g.fin.length := by rw [wf.lf]; exact hp
  have h2 : p < g.pos.length := by rw [wf.lp]; exact hp
  unfold Gs.names Gs.at
  rw [List.getElem?_zipWith, List.getElem?_eq_getElem h1, List.getElem?_eq_getElem h2, List.getD_eq_getElem?_getD, List.getElem?_eq_getElem h2]
  simp
theorem Gs.at_get {g : Gs} {n p : Nat} (wf : g.Ln n) (hp : p < n) : g.pos[p]? = some (g.at p) := by
  have h2 : p < g.pos.length := by rw [wf.lp]; exact hp
  unfold Gs.at
  rw [List.getD_eq_getElem?_getD, List.getElem?_eq_getElem h2]; rfl
theorem Gs.dn_get {g : Gs} {n p : Nat} (wf : g.Ln n) (hp : p < n) : g.dn[p]? = some (g.dnAt p) := by
  have h2 : p < g.dn.length := by rw [wf.ld]; exact hp
  unfold Gs.dnAt
  rw [List.getD_eq_getElem?_getD, List.getElem?_eq_getElem h2]; rfl
theorem Gs.names_len {g : Gs} {n : Nat} (wf : g.Ln n) : g.names.length = n := by
  unfold Gs.names
  rw [List.length_zipWith, wf.lf, wf.lp]; omega
/-- names after a move, after a stop -/
theorem names_move {fin : List Bool} {pos : List Cell} {p : Nat} {c : Cell} (ok : fin[p]? = some false) :
    List.zipWith (fun (f : Bool) (c : Cell) => if f = true then V.int (nmC c) else V.non) fin (pos.set p c) = List.zipWith (fun (f : Bool) (c : Cell) => if f = true then V.int (nmC c) else V.non) fin pos := by
  apply List.ext_getElem?
  intro q
  rw [List.getElem?_zipWith, List.getElem?_zipWith, List.getElem?_set]
  by_cases e : p = q
  · subst e
    rw [if_pos rfl, ok]
    split <;> (cases hq : pos[p]? <;> simp_all)
  · rw [if_neg e]
theorem names_stop {fin : List Bool} {pos : List Cell} {p : Nat} {c : Cell} (hp : pos[p]? = some c) (hl : p < fin.length) :
    List.zipWith (fun (f : Bool) (c : Cell) => if f = true then V.int (nmC c) else V.non) (fin.set p true) pos = (List.zipWith (fun (f : Bool) (c : Cell) => if f = true then V.int (nmC c) else V.non) fin pos).set p (V.int (nmC c)) := by
  apply List.ext_getElem?
  intro q
  have h2 : p < pos.length := (List.getElem?_eq_some_iff.mp hp).1
  rw [List.getElem?_zipWith, List.getElem?_set, List.getElem?_set, List.getElem?_zipWith, List.length_zipWith]
  by_cases e : p = q
  · subst e
    rw [if_pos rfl, if_pos rfl, if_pos hl, if_pos (by omega), hp]
    simp
  · rw [if_neg e, if_neg e]
/-! ### lists of tuples that stand -/
def Tups (B : Hp) (xs : List V) (ts : List (List V)) : Prop := xs.length = ts.length ∧ ∀ (i : Nat) (t : List V), ts[i]? = some t → ∃ a, xs[i]? = some (.ref a) ∧ B a = some (.tup t)
theorem Tups.mono {B B' : Hp} {xs : List V} {ts : List (List V)} (h : Tups B xs ts) (s : Same B B') : Tups B' xs ts := ⟨h.1, fun i t e => by
  obtain ⟨a, h1, h2⟩ := h.2 i t e
  exact ⟨a, h1, s _ _ h2⟩⟩
theorem Tups.nil (B : Hp) : Tups B [] [] := ⟨rfl, fun i t e => by rw [List.getElem?_nil] at e; cases e⟩
theorem Tups.rep {B : Hp} {a : Addr} {t : List V} (h : B a = some (.tup t)) (n : Nat) : Tups B (List.replicate n (.ref a)) (List.replicate n t) := ⟨by rw [List.length_replicate, List.length_replicate], fun i u e => by
  rw [List.getElem?_replicate] at e ⊢
  split at e
  · cases e
    exact ⟨a, by rw [if_pos ‹_›], h⟩
  · cases e⟩
theorem Tups.set {B : Hp} {xs : List V} {ts : List (List V)} {a : Addr} {t : List V} (h : Tups B xs ts) (p : Nat) (ha : B a = some (.tup t)) : Tups B (xs.set p (.ref a)) (ts.set p t) := ⟨by rw [List.length_set, List.length_set]; exact h.1, fun i u e => by
  rw [List.getElem?_set] at e ⊢
  by_cases c : p = i
  · subst c
    rw [if_pos rfl] at e ⊢
    split at e
    · cases e
      exact ⟨a, by rw [if_pos (by rw [h.1]; assumption)], ha⟩
    · cases e
  · rw [if_neg c] at e ⊢
    exact h.2 i u e⟩
theorem Tups.app {B : Hp} {xs : List V} {ts : List (List V)} {a : Addr} {t : List V} (h : Tups B xs ts) (ha : B a = some (.tup t)) : Tups B (xs ++ [.ref a]) (ts ++ [t]) := ⟨by rw [List.length_append, List.length_append, h.1]; rfl, fun i u e => by
  by_cases c : i < ts.length
  · rw [List.getElem?_append_left c] at e
    rw [List.getElem?_append_left (by rw [h.1]; exact c)]
    exact h.2 i u e
  · rw [List.getElem?_append_right (by omega)] at e
    rw [List.getElem?_append_right (by rw [h.1]; omega), h.1]
    cases hi : i - ts.length with
    | zero => rw [hi] at e; cases e; exact ⟨a, rfl, ha⟩
    | succ j => rw [hi] at e; simp at e⟩
theorem Tups.at {B : Hp} {xs : List V} {ts : List (List V)} {i : Nat} {x : V} (h : Tups B xs ts) (e : xs[i]? = some x) : ∃ a t, x = .ref a ∧ ts[i]? = some t ∧ B a = some (.tup t) := by
  have hi : i < ts.length := by rw [← h.1]; exact (List.getElem?_eq_some_iff.mp e).1
  obtain ⟨a, h1, h2⟩ := h.2 i _ (List.getElem?_eq_getElem hi)
  rw [e] at h1
  exact ⟨a, _, Option.some.inj h1, List.getElem?_eq_getElem hi, h2⟩
theorem Tups.spot {B : Hp} {xs : List V} {g : Gs} {n p : Nat} (h : Tups B xs (g.pos.map cellV)) (wf : g.Ln n) (hp : p < n) : ∃ a, xs[p]? = some (.ref a) ∧ B a = some (.tup (cellV (g.at p))) :=
  h.2 p _ (by rw [List.getElem?_map, Gs.at_get wf hp]; rfl)
/-- a drawer of numbers stands at u, besides l -/
def Urn (B H : Hp) (u : Addr) (l : List (Addr × HO)) (c : Nat) : Prop := ∃ x y z : Int, Led B H ((u, .lst [.int x, .int y, .int z]) :: l) ∧ 0 ≤ x ∧ 0 ≤ y ∧ y < 2 ^ 150 ∧ 0 ≤ z ∧ z ≤ (c : Int)
theorem Urn.led {B H : Hp} {u : Addr} {l : List (Addr × HO)} {c : Nat} (U : Urn B H u l c) : Led B H l := by
  obtain ⟨x, y, z, L, _⟩ := U
  exact L.drop (n := 1)
theorem Urn.map {B H B' H' : Hp} {u : Addr} {l l' : List (Addr × HO)} {c : Nat} (U : Urn B H u l c) (h : ∀ o, Led B H ((u, o) :: l) → Led B' H' ((u, o) :: l')) : Urn B' H' u l' c := by
  obtain ⟨x, y, z, L, r⟩ := U
  exact ⟨x, y, z, h _ L, r⟩
theorem Urn.up {B H : Hp} {u : Addr} {l : List (Addr × HO)} {c d : Nat} (U : Urn B H u l c) (h : c ≤ d) : Urn B H u l d := by
  obtain ⟨x, y, z, L, r1, r2, r3, r4, r5⟩ := U
  exact ⟨x, y, z, L, r1, r2, r3, r4, by omega⟩
theorem Urn.new {B H : Hp} {u : Addr} {l : List (Addr × HO)} {c : Nat} {o : HO} {G : Addr → Hp → Prop} (U : Urn B H u l c) (k : ∀ p H1, Urn B H1 u ((p, o) :: l) c → G p H1) : NewK o H G := fun p hp =>
  k p _ (U.map fun o L => (L.new hp).sel (.cons (.tl .hd) .all))
theorem Urn.sel {B H : Hp} {u : Addr} {l l' : List (Addr × HO)} {c : Nat} (U : Urn B H u l c) (h : Sel l l') : Urn B H u l' c := U.map fun o L => L.sel (.cons .hd h)
theorem Urn.put {B H : Hp} {u p : Addr} {o : HO} {l l' : List (Addr × HO)} {c : Nat} (U : Urn B H u l c) (h : Put l p o l') : Urn B (upd H p o) u l' c := U.map fun _ L => L.put (.tl h)
theorem Urn.catK {B H : Hp} {u p q : Addr} {l : List (Addr × HO)} {c : Nat} {xs ys : List V} {G : Addr → Hp → Prop} (U : Urn B H u l c) (h : (p, HO.lst xs) ∈ l) (h2 : (q, HO.lst ys) ∈ l) (a : xs.length + ys.length ≤ sizeLine)
    (k : ∀ r H1, Urn B H1 u ((r, .lst (xs ++ ys)) :: l) c → G r H1) : CatK p q H G := ⟨xs, ys, U.led.at h, U.led.at h2, a, U.new k⟩
theorem Urn.appK {B H : Hp} {u p : Addr} {l l' : List (Addr × HO)} {c : Nat} {xs : List V} {v : V} {G : Hp → Prop} (U : Urn B H u l c) (h : (p, HO.lst xs) ∈ l) (a : xs.length < sizeLine) (t : Put l p (.lst (xs ++ [v])) l')
    (k : ∀ H1, Urn B H1 u l' c → G H1) : AppK p v H G := ⟨xs, U.led.at h, a, k _ (U.put t)⟩
theorem Urn.setK {B H : Hp} {u p : Addr} {l l' : List (Addr × HO)} {c j : Nat} {i : Int} {xs : List V} {v : V} {G : Hp → Prop} (U : Urn B H u l c) (h : (p, HO.lst xs) ∈ l) (a : ixN xs.length i = some j) (t : Put l p (.lst (xs.set j v)) l')
    (k : ∀ H1, Urn B H1 u l' c → G H1) : SetK p i v H G := ⟨xs, j, U.led.at h, a, k _ (U.put t)⟩
theorem Urn.rptK {B H : Hp} {u a : Addr} {l : List (Addr × HO)} {c n : Nat} {v : V} {G : Addr → Hp → Prop} (U : Urn B H u l c) (h : (a, HO.lst [v]) ∈ l) (hn : n ≤ 100000) (k : ∀ p H1, Urn B H1 u ((p, .lst (List.replicate n v)) :: l) c → G p H1) : RptK a (n : Int) H G :=
  ⟨[v], U.led.at h, by omega, by omega, Nat.le_trans (m := 100000) (by rw [Int.toNat_natCast]; simpa using hn) (by decide), by rw [Int.toNat_natCast, flat_one]; exact U.new k⟩
theorem Urn.remK {B H : Hp} {u a : Addr} {l l' : List (Addr × HO)} {c : Nat} {n : Int} {ns : List Int} {G : Hp → Prop} (U : Urn B H u l c) (h : (a, HO.lst (ns.map V.int)) ∈ l) (hm : n ∈ ns) (t : Put l a (.lst ((ns.erase n).map V.int)) l') (k : ∀ H1, Urn B H1 u l' c → G H1) : RemK a n H G := by
  obtain ⟨j, h1, h2, h3⟩ := first_at hm
  exact ⟨ns, j, U.led.at h, h1, h2, by rw [h3]; exact k _ (U.put t)⟩
theorem Urn.sink {B H : Hp} {u p : Addr} {o : HO} {l : List (Addr × HO)} {c : Nat} (U : Urn B H u ((p, o) :: l) c) : ∃ B', Same B B' ∧ B' p = some o ∧ Urn B' H u l c := by
  obtain ⟨x, y, z, L, r⟩ := U
  obtain ⟨B', s, h, L⟩ := (L.sel (l' := (p, o) :: (u, .lst [.int x, .int y, .int z]) :: l) (.cons (.tl .hd) (.cons .hd .all))).sink
  exact ⟨B', s, h, x, y, z, L, r⟩
theorem pickV {l : List V} {r : Int} (h0 : 0 ≤ r) (h : r < l.length) : ∃ x ∈ l, atI l r = some x := ⟨_, List.getElem_mem _, atI_in h0 h⟩
/-! ### the Walk as it stands -/
structure Wad where
  w : Addr
  dx : Addr
  cl : Addr
  pl : Addr
  dl : Addr
  nl : Addr
  sl : Addr
  rl : Addr
def splE (d : Ad) (g : Gs) (e : Cell × Addr × Addr) : Addr × HO := (e.2.1, .ins d.c_Splitter e.2.2 [("writer", wV (g.x e.1)), ("closed", .bl (g.y e.1))])
def csK (cs : List (Cell × Addr × Addr)) : List (List Key × V) := cs.map fun e => (keyC e.1, V.ref e.2.1)
def walkO (d : Ad) (W : Wad) : Addr × HO := (W.w, .ins d.c_Walk W.dx [("cells", .ref W.cl), ("places", .ref W.pl), ("done", .ref W.dl), ("names", .ref W.nl), ("steps", .ref W.sl), ("reports", .ref W.rl)])
def walkL (d : Ad) (W : Wad) (g : Gs) (xs : List V) (cs : List (Cell × Addr × Addr)) (sch : List Nat) (rp : List V) (l : List (Addr × HO)) : List (Addr × HO) :=
  walkO d W :: (W.cl, .dT (csK cs)) :: (W.pl, .lst xs) :: (W.dl, .lst (nv g.dn)) :: (W.nl, .lst g.names) :: (W.sl, .lst (nv sch)) :: (W.rl, .lst rp) :: (cs.map (splE d g) ++ l)
structure WalkC (d : Ad) (B H : Hp) (W : Wad) (g : Gs) (n : Nat) (xs : List V) (cs : List (Cell × Addr × Addr)) (sch : List Nat) (rp : List V) (evs : List (List V)) (m b : Nat) (l : List (Addr × HO)) : Prop where
  sp : Tups B xs (g.pos.map cellV)
  rt : Tups B rp evs
  nd : (cs.map (·.1)).Nodup
  fr : ∀ c, c ∉ cs.map (·.1) → g.x c = none ∧ g.y c = false
  ln : cs.length ≤ m
  bd : ∀ c ∈ g.pos, c.1 + c.2 ≤ b
  rn : evs.length ≤ m
  led : Led B H (walkL d W g xs cs sch rp l)
def WalkR (d : Ad) (B H : Hp) (W : Wad) (g : Gs) (n : Nat) (sch : List Nat) (evs : List (List V)) (l : List (Addr × HO)) : Prop :=
  g.Wf n ∧ ∃ xs cs rp, WalkC d B H W g n xs cs sch rp evs sch.length sch.length l
theorem csK_look (c : Cell) : ∀ cs : List (Cell × Addr × Addr), (∃ s dx, (c, s, dx) ∈ cs ∧ valV (csK cs) (keyC c) = some (.ref s)) ∨ (c ∉ cs.map (·.1) ∧ valV (csK cs) (keyC c) = none)
  | [] => Or.inr ⟨List.not_mem_nil, rfl⟩
  | (c1, s1, dx1) :: r => by
    by_cases e : c1 = c
    · subst e
      exact Or.inl ⟨s1, dx1, List.mem_cons_self, valV_pos rfl⟩
    · have hk : ¬ keyC c1 = keyC c := fun z => e (keyC_inj z)
      have hv : valV (csK ((c1, s1, dx1) :: r)) (keyC c) = valV (csK r) (keyC c) := valV_neg (p := (keyC c1, V.ref s1)) hk
      rcases csK_look c r with ⟨s, dx, h1, h2⟩ | ⟨h1, h2⟩
      · exact Or.inl ⟨s, dx, List.mem_cons_of_mem _ h1, by rw [hv]; exact h2⟩
      · exact Or.inr ⟨fun z => by
          rw [List.map_cons] at z
          rcases List.mem_cons.mp z with z | z
          · exact e z.symm
          · exact h1 z, by rw [hv]; exact h2⟩
/-- one splitter of them is changed -/
theorem put_spl {d : Ad} {g g' : Gs} {c : Cell} {s dx : Addr} : ∀ {cs : List (Cell × Addr × Addr)}, (cs.map (·.1)).Nodup → ((cs.map (splE d g)).map (·.1)).Nodup → (c, s, dx) ∈ cs → (∀ c', c' ≠ c → g'.x c' = g.x c' ∧ g'.y c' = g.y c') →
    putL (cs.map (splE d g)) s (splE d g' (c, s, dx)).2 = cs.map (splE d g')
  | [], _, _, h, _ => by cases h
  | e :: r, n1, n2, h, hc => by
    rw [List.map_cons] at n1
    rw [List.map_cons, List.map_cons] at n2
    obtain ⟨a1, a2⟩ := List.nodup_cons.mp n1
    obtain ⟨b1, b2⟩ := List.nodup_cons.mp n2
    rw [List.map_cons, putL_cons, List.map_cons]
    rcases List.mem_cons.mp h with z | z
    · subst z
      rw [if_pos (show (splE d g (c, s, dx)).1 = s from rfl), putL_not (show s ∉ _ from b1)]
      congr 1
      refine List.map_congr_left fun e he => ?_
      have : e.1 ≠ c := fun z => a1 (by rw [← z]; exact List.mem_map_of_mem (f := (·.1)) he)
      unfold splE
      rw [(hc _ this).1, (hc _ this).2]
    · have ne : e.1 ≠ c := fun w => a1 (by rw [w]; exact List.mem_map_of_mem (f := (·.1)) z)
      have ne2 : ¬ (splE d g e).1 = s := fun w => b1 (by
        rw [w]
        exact List.mem_map.mpr ⟨splE d g (c, s, dx), List.mem_map_of_mem z, rfl⟩)
      rw [if_neg ne2, put_spl a2 b2 z hc]
      congr 1
      unfold splE
      rw [(hc _ ne).1, (hc _ ne).2]
theorem names_init (n : Nat) : (Gs.init n).names = List.replicate n .non := by
  apply List.ext_getElem?
  intro q
  have wf := Gs.init_wf n
  by_cases c : q < n
  · rw [Gs.names_at wf.toLn c, List.getElem?_replicate, if_pos c, if_neg]
    show ¬ (List.replicate n false)[q]? = some true
    rw [List.getElem?_replicate, if_pos c]
    decide
  · rw [List.getElem?_eq_none (by rw [Gs.names_len wf.toLn]; omega), List.getElem?_eq_none (by rw [List.length_replicate]; omega)]
/-- what a step gives, as told -/
def resT : Rs → Option (Str × Int)
  | .non => none
  | .right c => some ("right", nmC c)
  | .down c => some ("down", nmC c)
  | .stop c => some ("stop", nmC c)
def RV (B : Hp) (v : V) : Option (Str × Int) → Prop
  | none => v = .non
  | some (s, i) => ∃ t, v = .ref t ∧ B t = some (.tup [.str s, .int i])
def evT (p : Nat) : Option (Str × Int) → List (List V)
  | none => []
  | some (s, i) => [[.int (p : Int), .str s, .int i]]
def evsOf : Gs → List Nat → List (List V)
  | _, [] => []
  | g, p :: r => evT p (resT (g.res p)) ++ evsOf (g.step p) r
theorem evsOf_app : ∀ (l : List Nat) (g : Gs) (p : Nat), evsOf g (l ++ [p]) = evsOf g l ++ evT p (resT ((g.run l).res p))
  | [], g, p => by
    show evT p (resT (g.res p)) ++ [] = [] ++ _
    rw [List.append_nil]; rfl
  | q :: r, g, p => by
    show evT q (resT (g.res q)) ++ evsOf (g.step q) (r ++ [p]) = (evT q (resT (g.res q)) ++ evsOf (g.step q) r) ++ _
    rw [evsOf_app r, List.append_assoc]
    rfl
theorem nm_bd {c : Cell} {m : Nat} (h : c.1 + c.2 ≤ m) (hm : m ≤ 1000000) : (0 : Int) ≤ c.1 ∧ (c.1 : Int) ≤ 10 ^ 15 ∧ (0 : Int) ≤ c.2 ∧ (c.2 : Int) ≤ 10 ^ 15 := by omega
theorem walk_tail {d : Ad} {B H : Hp} {W : Wad} {g : Gs} {xs : List V} {cs : List (Cell × Addr × Addr)} {sch : List Nat} {rp : List V} {l : List (Addr × HO)} (L : Led B H (walkL d W g xs cs sch rp l)) : Led B H l :=
  L.subl (((((((List.sublist_append_right _ l).cons _).cons _).cons _).cons _).cons _).cons _ |>.cons _)
theorem walk_front {d : Ad} {B H : Hp} {W : Wad} {g : Gs} {xs : List V} {cs : List (Cell × Addr × Addr)} {sch : List Nat} {rp : List V} {l : List (Addr × HO)} : Led B H (walkL d W g xs cs sch rp l) ↔ Led B H (l ++ walkL d W g xs cs sch rp []) := by
  have p : (walkL d W g xs cs sch rp l).Perm (l ++ walkL d W g xs cs sch rp []) := by
    have e : walkL d W g xs cs sch rp l = walkL d W g xs cs sch rp [] ++ l := by
      unfold walkL
      simp only [List.append_nil, List.cons_append]
    rw [e]
    exact List.perm_append_comm
  exact ⟨fun L => L.perm p, fun L => L.perm p.symm⟩
theorem Led.nd_mid {B H : Hp} {a b c : List (Addr × HO)} (L : Led B H (a ++ (b ++ c))) : ((b).map (·.1)).Nodup ∧ (∀ e ∈ b, e.1 ∉ a.map (·.1) ∧ e.1 ∉ c.map (·.1)) := by
  have nd := L.nd
  rw [List.map_append, List.map_append] at nd
  obtain ⟨n1, n2, n3⟩ := List.nodup_append.mp nd
  obtain ⟨m1, m2, m3⟩ := List.nodup_append.mp n2
  refine ⟨m1, fun e he => ⟨fun z => ?_, fun z => ?_⟩⟩
  · exact n3 _ z e.1 (List.mem_append_left _ (List.mem_map_of_mem he)) rfl
  · exact m3 e.1 (List.mem_map_of_mem he) _ z rfl
/-! ### a Run as it stands -/
structure Rad where
  r : Addr
  dx : Addr
  ml : Addr
def runO (d : Ad) (R : Rad) (W : Wad) : Addr × HO := (R.r, .ins d.c_Run R.dx [("_walk", .ref W.w), ("_marks", .ref R.ml)])
def RunR (d : Ad) (B H : Hp) (R : Rad) (n : Nat) (sch mks : List Nat) (l : List (Addr × HO)) : Prop :=
  GVal (Gs.init n) sch ∧ ∃ W, WalkR d B H W ((Gs.init n).run sch) n sch (evsOf (Gs.init n) sch) (runO d R W :: (R.ml, .lst (nv mks)) :: l)
theorem RunR.split {d : Ad} {B H : Hp} {R : Rad} {n : Nat} {sch mks : List Nat} {l : List (Addr × HO)} (h : RunR d B H R n sch mks l) : ∃ W xs cs rp, Led B H (runO d R W :: (R.ml, .lst (nv mks)) :: l ++ walkL d W ((Gs.init n).run sch) xs cs sch rp []) ∧ ∀ B' H' sl, Same B B' → Led B' H' (runO d R W :: (R.ml, .lst (nv sl)) :: l ++ walkL d W ((Gs.init n).run sch) xs cs sch rp []) → RunR d B' H' R n sch sl l := by
  obtain ⟨hv, W, wf, xs, cs, rp, C⟩ := h
  exact ⟨W, xs, cs, rp, walk_front.mp C.led, fun B' H' sl s L => ⟨hv, W, wf, xs, cs, rp, ⟨C.sp.mono s, C.rt.mono s, C.nd, C.fr, C.ln, C.bd, C.rn, walk_front.mpr L⟩⟩⟩
theorem RunR.sub {d : Ad} {B H : Hp} {R : Rad} {n : Nat} {sch mks : List Nat} {l l' : List (Addr × HO)} (h : RunR d B H R n sch mks l) (s : l'.Sublist l) : RunR d B H R n sch mks l' := by
  obtain ⟨hv, W, wf, xs, cs, rp, C⟩ := h
  exact ⟨hv, W, wf, xs, cs, rp, ⟨C.sp, C.rt, C.nd, C.fr, C.ln, C.bd, C.rn, walk_front.mpr ((walk_front.mp C.led).subl (((s.cons_cons _).cons_cons _).append_right _))⟩⟩
theorem hWf {d : Ad} {B H : Hp} {R : Rad} {n : Nat} {sch mks : List Nat} {l : List (Addr × HO)} (h : RunR d B H R n sch mks l) : ((Gs.init n).run sch).Wf n := h.2.choose_spec.1
/-- a new thing beside a run -/
theorem RunR.new {d : Ad} {B H : Hp} {R : Rad} {n : Nat} {sch mks : List Nat} {l : List (Addr × HO)} (h : RunR d B H R n sch mks l) {o : HO} {G : Addr → Hp → Prop} (k : ∀ p H', RunR d B H' R n sch mks ((p, o) :: l) → G p H') : NewK o H G := by
  obtain ⟨hv, W, wf, xs, cs, rp, C⟩ := h
  refine NewK.of (walk_front.mp C.led) fun p H1 L => k p H1 ⟨hv, W, wf, xs, cs, rp, ⟨C.sp, C.rt, C.nd, C.fr, C.ln, C.bd, C.rn, walk_front.mpr ?_⟩⟩
  exact L.sel (.cons (.tl .hd) (.cons (.tl .hd) (.cons .hd .all)))
def stepV (B : Hp) (g : Gs) (p : Nat) (v : V) : Prop := RV B v (resT (g.res p))
/-- what a play tells -/
def ToldR (B : Hp) : Gs → List Nat → List V → Prop
  | _, [], vs => vs = []
  | g, p :: r, vs => ∃ v ws, vs = v :: ws ∧ RV B v (resT (g.res p)) ∧ ToldR B (g.step p) r ws
theorem RV.mono {B B' : Hp} {v : V} {r : Option (Str × Int)} (h : RV B v r) (s : Same B B') : RV B' v r := by
  cases r with
  | none => exact h
  | some e => obtain ⟨t, h1, h2⟩ := h; exact ⟨t, h1, s _ _ h2⟩
theorem ToldR.mono {B B' : Hp} (s : Same B B') : ∀ {l : List Nat} {g : Gs} {vs : List V}, ToldR B g l vs → ToldR B' g l vs
  | [], _, _, h => h
  | p :: r, g, _, ⟨v, ws, e, h1, h2⟩ => ⟨v, ws, e, h1.mono s, ToldR.mono s h2⟩
theorem ToldR.app {B : Hp} {v : V} {p : Nat} : ∀ {l : List Nat} {g : Gs} {vs : List V}, ToldR B g l vs → RV B v (resT ((g.run l).res p)) → ToldR B g (l ++ [p]) (vs ++ [v])
  | [], g, _, h, h2 => ⟨v, [], by rw [show _ = [] from h]; rfl, h2, rfl⟩
  | q :: r, g, _, ⟨w, ws, e, h1, h3⟩, h2 => ⟨w, ws ++ [v], by rw [e]; rfl, h1, ToldR.app h3 h2⟩
theorem ToldR.len {B : Hp} : ∀ {l : List Nat} {g : Gs} {vs : List V}, ToldR B g l vs → vs.length = l.length
  | [], _, _, h => by rw [show _ = [] from h]; rfl
  | q :: r, g, _, ⟨w, ws, e, h1, h3⟩ => by rw [e, List.length_cons, List.length_cons, ToldR.len h3]
theorem dpAll_len {K : PySem.W.Frag} {H : Hp} : ∀ {vs : List V} {ds : List PyData}, DpAll K H vs ds → vs.length = ds.length
  | _, _, .nil => rfl
  | _, _, .cons _ r => by rw [List.length_cons, List.length_cons, dpAll_len r]
theorem res_strOk {g : Gs} {p : Nat} {s : Str} {i : Int} (h : resT (g.res p) = some (s, i)) : PyData.strOk s = true := by
  cases hr : g.res p <;> rw [hr] at h
  · cases h
  · cases h; decide +kernel
  · cases h; decide +kernel
  · cases h; decide +kernel
theorem ToldR.dp {K : PySem.W.Frag} {B H : Hp} (s : Same B H) : ∀ {l : List Nat} {g : Gs} {vs : List V}, ToldR B g l vs → ∃ ds : List PyData, (∀ H', Same B H' → DpAll K H' vs ds) ∧ ∀ d ∈ ds, Eqd 2 d
  | [], _, _, h => ⟨[], fun _ _ => by rw [show _ = [] from h]; exact .nil, fun d hd => (List.not_mem_nil hd).elim⟩
  | p :: r, g, _, ⟨v, ws, e, h1, h2⟩ => by
    obtain ⟨ds, i1, i2⟩ := ToldR.dp s h2
    cases hr : resT (g.res p) with
    | none =>
      rw [hr] at h1
      refine ⟨.none :: ds, fun H' s' => ?_, fun d hd => ?_⟩
      · rw [e, show v = .non from h1]; exact .cons .non (i1 H' s')
      · rcases List.mem_cons.mp hd with z | z
        · rw [z]; exact ⟨Eqd.non.c, Nat.le_succ_of_le Eqd.non.p⟩
        · exact i2 d z
    | some a =>
      obtain ⟨st, i⟩ := a
      have hok := res_strOk hr
      rw [hr] at h1
      obtain ⟨t, rfl, ht⟩ := h1
      refine ⟨.tuple [.str st, .int i] :: ds, fun H' s' => ?_, fun d hd => ?_⟩
      · rw [e]; exact .cons (.tup (.inl (.inl (s' _ _ ht))) (.cons (.str _) (.cons (.int _) .nil))) (i1 H' s')
      · rcases List.mem_cons.mp hd with z | z
        · rw [z]
          refine Eqd.tup fun x hx => ?_
          simp only [List.mem_cons, List.not_mem_nil, or_false] at hx
          rcases hx with w | w
          · rw [w]; exact Eqd.str _ hok
          · rw [w]; exact Eqd.int _
        · exact i2 d z
theorem grun_append (g : Gs) (a b : List Nat) : g.run (a ++ b) = (g.run a).run b := List.foldl_append
/-! ### a run and a machine side by side -/
structure WalkF (d : Ad) (B : Hp) (W : Wad) (g : Gs) (xs : List V) (cs : List (Cell × Addr × Addr)) (rp : List V) (evs : List (List V)) (b : Nat) : Prop where
  sp : Tups B xs (g.pos.map cellV)
  rt : Tups B rp evs
  nd : (cs.map (·.1)).Nodup
  fr : ∀ c, c ∉ cs.map (·.1) → g.x c = none ∧ g.y c = false
  ln : cs.length ≤ b
  bd : ∀ c ∈ g.pos, c.1 + c.2 ≤ b
  rn : evs.length ≤ b
theorem WalkF.mono {d : Ad} {B B' : Hp} {W : Wad} {g : Gs} {xs : List V} {cs : List (Cell × Addr × Addr)} {rp : List V} {evs : List (List V)} {b : Nat} (F : WalkF d B W g xs cs rp evs b) (s : Same B B') : WalkF d B' W g xs cs rp evs b := ⟨F.sp.mono s, F.rt.mono s, F.nd, F.fr, F.ln, F.bd, F.rn⟩
def runL (d : Ad) (R : Rad) (W : Wad) (n : Nat) (xs : List V) (cs : List (Cell × Addr × Addr)) (sch mks : List Nat) (rp : List V) (l : List (Addr × HO)) : List (Addr × HO) := walkL d W ((Gs.init n).run sch) xs cs sch rp (runO d R W :: (R.ml, .lst (nv mks)) :: l)
theorem walkL_app {d : Ad} {W : Wad} {g : Gs} {xs : List V} {cs : List (Cell × Addr × Addr)} {sch : List Nat} {rp : List V} {l : List (Addr × HO)} : walkL d W g xs cs sch rp l = walkL d W g xs cs sch rp [] ++ l := by
  unfold walkL
  simp only [List.cons_append, List.append_nil]
theorem runL_perm {d : Ad} {R : Rad} {W : Wad} {n : Nat} {xs : List V} {cs : List (Cell × Addr × Addr)} {sch mks : List Nat} {rp : List V} (A l : List (Addr × HO)) : (A ++ runL d R W n xs cs sch mks rp l).Perm (runL d R W n xs cs sch mks rp (A ++ l)) := by
  unfold runL
  rw [walkL_app, walkL_app (l := _ :: _ :: (A ++ l))]
  have h := List.perm_append_comm_assoc A (walkL d W ((Gs.init n).run sch) xs cs sch rp [] ++ [runO d R W, (R.ml, .lst (nv mks))]) l
  simp only [List.append_assoc, List.cons_append, List.nil_append] at h ⊢
  exact h
def RunF (d : Ad) (B : Hp) (W : Wad) (n : Nat) (sch : List Nat) (xs : List V) (cs : List (Cell × Addr × Addr)) (rp : List V) : Prop := GVal (Gs.init n) sch ∧ ((Gs.init n).run sch).Wf n ∧ WalkF d B W ((Gs.init n).run sch) xs cs rp (evsOf (Gs.init n) sch) sch.length
theorem RunR.view {d : Ad} {B H : Hp} {R : Rad} {n : Nat} {sch mks : List Nat} {l : List (Addr × HO)} : RunR d B H R n sch mks l ↔ ∃ W xs cs rp, RunF d B W n sch xs cs rp ∧ Led B H (runL d R W n xs cs sch mks rp l) :=
  ⟨fun ⟨hv, W, wf, xs, cs, rp, C⟩ => ⟨W, xs, cs, rp, ⟨hv, wf, ⟨C.sp, C.rt, C.nd, C.fr, C.ln, C.bd, C.rn⟩⟩, C.led⟩, fun ⟨W, xs, cs, rp, ⟨hv, wf, F⟩, L⟩ => ⟨hv, W, wf, xs, cs, rp, ⟨F.sp, F.rt, F.nd, F.fr, F.ln, F.bd, F.rn, L⟩⟩⟩
theorem RunR.perm {d : Ad} {B H : Hp} {R : Rad} {n : Nat} {sch mks : List Nat} {l l' : List (Addr × HO)} (h : RunR d B H R n sch mks l) (p : l.Perm l') : RunR d B H R n sch mks l' := by
  obtain ⟨W, xs, cs, rp, F, L⟩ := RunR.view.mp h
  refine RunR.view.mpr ⟨W, xs, cs, rp, F, ?_⟩
  have h1 := runL_perm (d := d) (R := R) (W := W) (n := n) (xs := xs) (cs := cs) (sch := sch) (mks := mks) (rp := rp) l []
  have h2 := runL_perm (d := d) (R := R) (W := W) (n := n) (xs := xs) (cs := cs) (sch := sch) (mks := mks) (rp := rp) l' []
  rw [List.append_nil] at h1 h2
  exact L.perm (h1.symm.trans ((p.append_right _).trans h2))
theorem RunR.front {d : Ad} {B H : Hp} {R : Rad} {n : Nat} {sch mks : List Nat} {l : List (Addr × HO)} (h : RunR d B H R n sch mks l) : ∃ rest, Led B H (l ++ rest) ∧ ∀ B' H' l', Same B B' → Led B' H' (l' ++ rest) → RunR d B' H' R n sch mks l' := by
  obtain ⟨W, xs, cs, rp, F, L⟩ := RunR.view.mp h
  have pm : ∀ l : List (Addr × HO), (runL d R W n xs cs sch mks rp l).Perm (l ++ runL d R W n xs cs sch mks rp []) := fun l => by
    have h1 := runL_perm (d := d) (R := R) (W := W) (n := n) (xs := xs) (cs := cs) (sch := sch) (mks := mks) (rp := rp) l []
    rw [List.append_nil] at h1
    exact h1.symm
  exact ⟨_, L.perm (pm l), fun B' H' l' s L' => RunR.view.mpr ⟨W, xs, cs, rp, ⟨F.1, F.2.1, F.2.2.mono s⟩, L'.perm (pm l').symm⟩⟩
def rvD : Option (Str × Int) → PyData
  | none => .none
  | some (s, i) => .tuple [.str s, .int i]
theorem RV.dp {K : PySem.W.Frag} {B H : Hp} {v : V} {r : Option (Str × Int)} (h : RV B v r) (s : Same B H) : Dp K H v (rvD r) := by
  cases r with
  | none => rw [show v = .non from h]; exact .non
  | some e => obtain ⟨t, rfl, ht⟩ := h; exact .tup (.inl (.inl (s _ _ ht))) (.cons (.str _) (.cons (.int _) .nil))
theorem rvD_ok {g : Gs} {p : Nat} : Eqd 2 (rvD (resT (g.res p))) := by
  cases h : resT (g.res p) with
  | none => exact ⟨Eqd.non.c, Nat.le_succ_of_le Eqd.non.p⟩
  | some e =>
    obtain ⟨st, i⟩ := e
    have hk := res_strOk h
    refine Eqd.tup fun x hx => ?_
    simp only [List.mem_cons, List.not_mem_nil, or_false] at hx
    rcases hx with w | w
    · rw [w]; exact Eqd.str _ hk
    · rw [w]; exact Eqd.int _
def toldD : Gs → List Nat → List PyData
  | _, [] => []
  | g, p :: r => rvD (resT (g.res p)) :: toldD (g.step p) r
/-! ### the text of a run -/
def rowT (sch : List Nat) : Str := if sch = [] then "-" else txt "," sch
def runT (n : Nat) (sch : List Nat) : Str := Txt.join " " [nT n, rowT sch]
theorem cm_tl : TL.tl "," = [44] := by rfl
theorem cm_ok : (Str.ofString ",").cps.all (· < 256) = true := by decide +kernel
theorem sp1_tl : TL.tl " " = [32] := by rfl
theorem sp1_ok : (Str.ofString " ").cps.all (· < 256) = true := by decide +kernel
theorem da_tl : TL.tl "-" = [45] := by rfl
theorem row_signs {sch : List Nat} : ∀ c ∈ TL.tl (rowT sch), 44 ≤ c ∧ c ≤ 57 := fun c hc => by
  unfold rowT at hc
  split at hc
  · rw [da_tl] at hc
    rw [List.mem_singleton.mp hc]
    decide
  · rw [txt_tl, cm_tl] at hc
    rcases joinL_mem hc with z | ⟨p, hp, z⟩
    · rw [List.mem_singleton.mp z]; decide
    · obtain ⟨n, _, rfl⟩ := List.mem_map.mp hp
      have := TL.numL_digits n c z
      omega
theorem row_ne {p : Nat} {r : List Nat} : txt "," (p :: r) ≠ "-" := fun h => by
  have h2 := congrArg TL.tl h
  rw [da_tl, txt_tl, cm_tl] at h2
  have key : ∀ c ∈ TL.numL p, c = 45 := fun c hc => by
    have : c ∈ TL.joinL [44] ((p :: r).map fun n => TL.numL n) := by
      cases r with
      | nil => exact hc
      | cons q r => exact List.mem_append_left _ hc
    rw [h2] at this
    exact List.mem_singleton.mp this
  obtain ⟨c, t, e⟩ : ∃ c t, TL.numL p = c :: t := by
    cases hq : TL.numL p with
    | nil => exact absurd hq (TL.numL_ne p)
    | cons c t => exact ⟨c, t, rfl⟩
  have k1 := key c (by rw [e]; exact List.mem_cons_self)
  have k2 := TL.numL_digits p c (by rw [e]; exact List.mem_cons_self)
  omega
theorem row_len {sch : List Nat} {k : Nat} (hb : ∀ p ∈ sch, p < 100) (hl : sch.length ≤ k) : (rowT sch).length ≤ 3 * k + 1 := by
  unfold rowT
  split
  · rw [show (Str.ofString "-").length = 1 from rfl]; omega
  · have := txt_len (sep := ",") (k := 2) (by decide) hb
    rw [show (Str.ofString ",").length = 1 from rfl] at this
    omega
theorem run_split (n : Nat) (sch : List Nat) : Txt.split (runT n sch) " " = [nT n, rowT sch] := by
  unfold runT
  refine TL.split_join sp1_tl sp1_ok (fun e => by cases e) fun p hp => ?_
  simp only [List.mem_cons, List.not_mem_nil, or_false] at hp
  rcases hp with z | z
  · rw [z]; exact fun w => by have := nT_digits n 32 w; omega
  · rw [z]; exact fun w => by have := row_signs 32 w; omega
theorem run_tl (n : Nat) (sch : List Nat) : TL.tl (runT n sch) = TL.tl (nT n) ++ ([32] ++ TL.tl (rowT sch)) := by
  unfold runT
  rw [TL.join_eq, TL.tl_join, sp1_tl]
  rfl
theorem run_cat {a : Str} {n : Nat} {sch : List Nat} (h : TL.tl a = TL.tl (nT n) ++ ([32] ++ TL.tl (rowT sch))) : a = runT n sch := TL.ext_tl (h.trans (run_tl n sch).symm)
theorem run_len {n : Nat} {sch : List Nat} {k : Nat} (hn : n < 100) (hb : ∀ p ∈ sch, p < 100) (hl : sch.length ≤ k) : (runT n sch).length ≤ 3 * k + 4 := by
  have h1 := row_len hb hl
  have h2 := nT_len (k := 2) (by decide) (show n < 10 ^ 2 from hn)
  rw [TL.len_tl] at h1 h2 ⊢
  rw [run_tl]
  simp only [List.length_append, List.length_cons, List.length_nil]
  omega
theorem gval_small {n : Nat} {sch : List Nat} (hn : n ≤ 40) (hv : GVal (Gs.init n) sch) : ∀ p ∈ sch, p < 100 := fun p hp => Nat.lt_of_lt_of_le (GVal.lt (Gs.init_wf n) hv p hp) (by omega)
/-! ### two runs side by side -/
theorem runL_out {d : Ad} {R : Rad} {W : Wad} {n : Nat} {xs : List V} {cs : List (Cell × Addr × Addr)} {sch mks : List Nat} {rp : List V} (l : List (Addr × HO)) : (runL d R W n xs cs sch mks rp l).Perm (l ++ runL d R W n xs cs sch mks rp []) := by
  have h1 := runL_perm (d := d) (R := R) (W := W) (n := n) (xs := xs) (cs := cs) (sch := sch) (mks := mks) (rp := rp) l []
  rw [List.append_nil] at h1
  exact h1.symm
theorem runL_sub {d : Ad} {R : Rad} {W : Wad} {n : Nat} {xs : List V} {cs : List (Cell × Addr × Addr)} {sch mks : List Nat} {rp : List V} {l l' : List (Addr × HO)} (h : l.Perm l') : (runL d R W n xs cs sch mks rp l).Perm (runL d R W n xs cs sch mks rp l') := ((runL_out l).trans (h.append_right _)).trans (runL_out l').symm
def Two (d : Ad) (B H : Hp) (R : Rad) (n : Nat) (sch mks : List Nat) (R' : Rad) (n' : Nat) (sch' mks' : List Nat) (l : List (Addr × HO)) : Prop := ∃ W xs cs rp W' xs' cs' rp', RunF d B W n sch xs cs rp ∧ RunF d B W' n' sch' xs' cs' rp' ∧ Led B H (runL d R W n xs cs sch mks rp (runL d R' W' n' xs' cs' sch' mks' rp' l))
theorem RunF.mono {d : Ad} {B B' : Hp} {W : Wad} {n : Nat} {sch : List Nat} {xs : List V} {cs : List (Cell × Addr × Addr)} {rp : List V} (h : RunF d B W n sch xs cs rp) (s : Same B B') : RunF d B' W n sch xs cs rp := ⟨h.1, h.2.1, h.2.2.mono s⟩
section
variable {d : Ad} {B H : Hp} {R R' : Rad} {n n' : Nat} {sch mks sch' mks' : List Nat} {l : List (Addr × HO)}
theorem Two.fst (h : Two d B H R n sch mks R' n' sch' mks' l) : ∃ A, RunR d B H R n sch mks (A ++ l) ∧ ∀ B' H' sch1 mks1 l1, Same B B' → RunR d B' H' R n sch1 mks1 (A ++ l1) → Two d B' H' R n sch1 mks1 R' n' sch' mks' l1 := by
  obtain ⟨W, xs, cs, rp, W', xs', cs', rp', F, F', L⟩ := h
  have pm : ∀ l, (runL d R' W' n' xs' cs' sch' mks' rp' l).Perm (runL d R' W' n' xs' cs' sch' mks' rp' [] ++ l) := fun l => (runL_out l).trans List.perm_append_comm
  refine ⟨runL d R' W' n' xs' cs' sch' mks' rp' [], RunR.view.mpr ⟨W, xs, cs, rp, F, L.perm (runL_sub (pm l))⟩, fun B' H' sch1 mks1 l1 s h1 => ?_⟩
  obtain ⟨W1, xs1, cs1, rp1, F1, L1⟩ := RunR.view.mp h1
  exact ⟨W1, xs1, cs1, rp1, W', xs', cs', rp', F1, F'.mono s, L1.perm (runL_sub (pm l1).symm)⟩
theorem Two.swap (h : Two d B H R n sch mks R' n' sch' mks' l) : Two d B H R' n' sch' mks' R n sch mks l := by
  obtain ⟨W, xs, cs, rp, W', xs', cs', rp', F, F', L⟩ := h
  refine ⟨W', xs', cs', rp', W, xs, cs, rp, F', F, L.perm ?_⟩
  refine (runL_out _).trans ?_
  refine ((runL_out l).append_right _).trans ?_
  refine List.Perm.symm ((runL_out _).trans (((runL_out l).append_right _).trans ?_))
  rw [List.append_assoc, List.append_assoc]
  exact List.Perm.append_left _ List.perm_append_comm
theorem Two.snd (h : Two d B H R n sch mks R' n' sch' mks' l) : ∃ A, RunR d B H R' n' sch' mks' (A ++ l) ∧ ∀ B' H' sch1 mks1 l1, Same B B' → RunR d B' H' R' n' sch1 mks1 (A ++ l1) → Two d B' H' R n sch mks R' n' sch1 mks1 l1 := by
  obtain ⟨A, h1, h2⟩ := h.swap.fst
  exact ⟨A, h1, fun B' H' sch1 mks1 l1 s h3 => (h2 B' H' sch1 mks1 l1 s h3).swap⟩
theorem Two.front (h : Two d B H R n sch mks R' n' sch' mks' l) : ∃ rest, Led B H (l ++ rest) ∧ ∀ B' H' l', Same B B' → Led B' H' (l' ++ rest) → Two d B' H' R n sch mks R' n' sch' mks' l' := by
  obtain ⟨W, xs, cs, rp, W', xs', cs', rp', F, F', L⟩ := h
  have pm : ∀ l, (runL d R W n xs cs sch mks rp (runL d R' W' n' xs' cs' sch' mks' rp' l)).Perm (l ++ (runL d R' W' n' xs' cs' sch' mks' rp' [] ++ runL d R W n xs cs sch mks rp [])) := fun l => by
    refine (runL_out _).trans ?_
    rw [← List.append_assoc]
    exact (runL_out l).append_right _
  exact ⟨_, L.perm (pm l), fun B' H' l' s L' => ⟨W, xs, cs, rp, W', xs', cs', rp', F.mono s, F'.mono s, L'.perm (pm l').symm⟩⟩
theorem Two.sub {l' : List (Addr × HO)} (h : Two d B H R n sch mks R' n' sch' mks' l) (s : l'.Sublist l) : Two d B H R n sch mks R' n' sch' mks' l' := by
  obtain ⟨rest, L, back⟩ := h.front
  exact back B H l' (Same.refl B) (L.subl (s.append_right _))
theorem Two.perm {l' : List (Addr × HO)} (h : Two d B H R n sch mks R' n' sch' mks' l) (s : l.Perm l') : Two d B H R n sch mks R' n' sch' mks' l' := by
  obtain ⟨rest, L, back⟩ := h.front
  exact back B H l' (Same.refl B) (L.perm (s.append_right _))
theorem Two.new {o : HO} {G : Addr → Hp → Prop} (h : Two d B H R n sch mks R' n' sch' mks' l) (k : ∀ p H', Two d B H' R n sch mks R' n' sch' mks' ((p, o) :: l) → G p H') : NewK o H G := by
  obtain ⟨rest, L, back⟩ := h.front
  exact NewK.of L fun p H1 L => k p H1 (back _ _ ((p, o) :: l) (Same.refl _) L)
/-- the second run is done with -/
theorem Two.one (h : Two d B H R n sch mks R' n' sch' mks' l) : RunR d B H R n sch mks l := by
  obtain ⟨A, h1, _⟩ := h.fst
  exact h1.sub (List.sublist_append_right A l)
end
theorem RunR.at {d : Ad} {B H : Hp} {R : Rad} {n : Nat} {sch mks : List Nat} {l : List (Addr × HO)} (h : RunR d B H R n sch mks l) : ∃ fs, H R.r = some (.ins d.c_Run R.dx fs) := by
  obtain ⟨W, xs, cs, rp, L, _⟩ := h.split
  exact ⟨_, L.at (List.mem_cons_self)⟩
theorem RunR.at2 {d : Ad} {B H : Hp} {R : Rad} {n : Nat} {sch mks : List Nat} {l : List (Addr × HO)} (h : RunR d B H R n sch mks l) : ∃ w, H R.r = some (.ins d.c_Run R.dx [("_walk", .ref w), ("_marks", .ref R.ml)]) := by
  obtain ⟨W, xs, cs, rp, L, _⟩ := h.split
  exact ⟨_, L.at (List.mem_cons_self)⟩
theorem RunR.led {d : Ad} {B H : Hp} {R : Rad} {n : Nat} {sch mks : List Nat} {l : List (Addr × HO)} (h : RunR d B H R n sch mks l) : Led B H l := by
  obtain ⟨rest, L, _⟩ := h.front
  exact L.subl (List.sublist_append_left _ _)
/-- == of lists of small numbers -/
theorem dp_nv {K : PySem.W.Frag} {H : Hp} : ∀ l : List Nat, DpAll K H (nv l) (l.map fun (p : Nat) => PyData.int (p : Int))
  | [] => .nil
  | p :: r => .cons (.int _) (dp_nv r)
theorem eqvAll_nv : ∀ a b : List Nat, PyData.eqvAll (a.map fun (p : Nat) => PyData.int (p : Int)) (b.map fun (p : Nat) => PyData.int (p : Int)) = decide (a = b)
  | [], [] => by rw [List.map_nil, PyData.eqvAll]; rfl
  | [], _ :: _ => by rw [List.map_nil, List.map_cons, PyData.eqvAll]; rfl
  | _ :: _, [] => by rw [List.map_nil, List.map_cons, PyData.eqvAll]; rfl
  | x :: a, y :: b => by
    rw [List.map_cons, List.map_cons, PyData.eqvAll, eqvAll_nv a b, PyData.eqv]
    by_cases h : x = y
    · subst h
      by_cases h2 : a = b
      · subst h2; simp
      · rw [decide_eq_false h2, decide_eq_false (fun z => h2 (List.cons.inj z).2), Bool.and_false]
    · rw [show ((x : Int) == (y : Int)) = false from beq_eq_false_iff_ne.mpr (fun z => h (by omega)), decide_eq_false (fun z => h (List.cons.inj z).1), Bool.false_and]
theorem eqd_nv (l : List Nat) : Eqd 2 (.list (l.map fun (p : Nat) => PyData.int (p : Int))) := Eqd.lst fun x hx => by obtain ⟨p, _, rfl⟩ := List.mem_map.mp hx; exact Eqd.int _
/-- xs == ys, lists of such numbers -/
theorem eq_nv {K : PySem.W.Frag} {H : Hp} {a b : Addr} {xs ys : List Nat} {Q : VK} (h : SqL K H a (nv xs)) (h2 : SqL K H b (nv ys)) (q : Q (.bl (decide (xs = ys))) H) : rEqL K (.ref a) (.ref b) H Q := by
  refine Or.inl (EqD.of (.lst h (dp_nv xs)) (.lst h2 (dp_nv ys)) ((eqd_nv xs).sh (by decide)) ((eqd_nv ys).sh (by decide)) ?_)
  rw [PyData.eqv, eqvAll_nv]
  exact q
/-- xs == ys, the same data -/
theorem eq_dat {K : PySem.W.Frag} {H : Hp} {a b : V} {x : PyData} {k : Nat} {Q : VK} (h : Dp K H a x) (h2 : Dp K H b x) (g : Eqd k x) (hk : k ≤ 60) (q : Q (.bl true) H) : rEqL K a b H Q := by
  refine Or.inl (EqD.of h h2 (g.sh (by omega)) (g.sh (by omega)) ?_)
  rw [SeqAt.eqv_refl _ g.c]
  exact q
/-- lists of pairs of numbers -/
def tupD (ts : List (List Int)) : PyData := .list (ts.map fun t => .tuple (t.map PyData.int))
theorem dp_ints {K : PySem.W.Frag} {H : Hp} : ∀ l : List Int, DpAll K H (l.map V.int) (l.map PyData.int)
  | [] => .nil
  | p :: r => .cons (.int _) (dp_ints r)
theorem dp_tups {K : PySem.W.Frag} {B H : Hp} (s : Same B H) : ∀ {xs : List V} {ts : List (List Int)}, Tups B xs (ts.map fun t => t.map V.int) → DpAll K H xs (ts.map fun t => PyData.tuple (t.map PyData.int))
  | [], [], _ => .nil
  | [], _ :: _, h => by have := h.1; simp at this
  | _ :: _, [], h => by have := h.1; simp at this
  | x :: xs, t :: ts, h => by
    obtain ⟨a, e, ha⟩ := h.2 0 (t.map V.int) rfl
    cases e
    exact .cons (.tup (.inl (.inl (s _ _ ha))) (dp_ints t)) (dp_tups s ⟨by have := h.1; simpa using this, fun i u hu => h.2 (i + 1) u hu⟩)
theorem eqd_tupD (ts : List (List Int)) : Eqd 3 (tupD ts) := Eqd.lst fun x hx => by
  obtain ⟨t, _, rfl⟩ := List.mem_map.mp hx
  exact Eqd.tup fun y hy => by obtain ⟨p, _, rfl⟩ := List.mem_map.mp hy; exact Eqd.int _
/-! ### == of lists of None, numbers, bools -/
def toDf : V → PyData
  | .bl b => .bool b
  | .int i => .int i
  | _ => .none
def plainV : V → Bool
  | .non => true
  | .bl _ => true
  | .int _ => true
  | _ => false
theorem dp_plain {K : PySem.W.Frag} {H : Hp} : ∀ l : List V, (∀ x ∈ l, plainV x = true) → DpAll K H l (l.map toDf)
  | [], _ => .nil
  | x :: r, h => by
    refine .cons ?_ (dp_plain r fun y hy => h y (List.mem_cons_of_mem _ hy))
    have := h x List.mem_cons_self
    cases x <;> first | exact .non | exact .bl _ | exact .int _ | cases this
theorem eqd_plain {l : List V} (hp : ∀ x ∈ l, plainV x = true) : Eqd 2 (.list (l.map toDf)) := Eqd.lst fun d hd => by
  obtain ⟨x, hx, rfl⟩ := List.mem_map.mp hd
  have := hp x hx
  cases x <;> first | exact Eqd.non | exact Eqd.bl _ | exact Eqd.int _ | cases this
theorem ne_plain {K : PySem.W.Frag} {H : Hp} {a b : Addr} {l : List V} {Q : VK} (h : SqL K H a l) (h2 : SqL K H b l) (hp : ∀ x ∈ l, plainV x = true) (q : Q (.bl false) H) : rNeD K (.ref a) (.ref b) H Q := by
  have g := eqd_plain hp
  refine NeD.of (.lst h (dp_plain l hp)) (.lst h2 (dp_plain l hp)) (g.sh (by decide)) (g.sh (by decide)) ?_
  rw [SeqAt.eqv_refl _ g.c]
  exact q
theorem eq_plain {K : PySem.W.Frag} {H : Hp} {a b : Addr} {l : List V} {Q : VK} (h : SqL K H a l) (h2 : SqL K H b l) (hp : ∀ x ∈ l, plainV x = true) (q : Q (.bl true) H) : rEqL K (.ref a) (.ref b) H Q := by
  have g := eqd_plain hp
  refine Or.inl (EqD.of (.lst h (dp_plain l hp)) (.lst h2 (dp_plain l hp)) (g.sh (by decide)) (g.sh (by decide)) ?_)
  rw [SeqAt.eqv_refl _ g.c]
  exact q
theorem names_plain {g : Gs} {n : Nat} (wf : g.Ln n) : ∀ x ∈ g.names, plainV x = true := fun x hx => by
  obtain ⟨i, hi, e⟩ := List.mem_iff_getElem.mp hx
  have h := Gs.names_at (p := i) wf (by rw [← Gs.names_len wf]; exact hi)
  rw [List.getElem?_eq_getElem hi, e] at h
  rw [Option.some.inj h]
  split <;> rfl
theorem ne_nv0 {K : PySem.W.Frag} {H : Hp} {a b : Addr} {l : List Nat} {Q : VK} (h : SqL K H a (nv l)) (h2 : SqL K H b []) (q : Q (.bl (!l.isEmpty)) H) : rNeD K (.ref a) (.ref b) H Q := by
  have dp : ∀ l : List Nat, DpAll K H (nv l) (l.map fun (p : Nat) => .int (p : Int)) := fun l => by
    induction l with
    | nil => exact .nil
    | cons x r ih => exact .cons (.int _) ih
  refine NeD.nil (k := 1) h (dp l) (fun x hx => by obtain ⟨p, _, rfl⟩ := List.mem_map.mp hx; exact Eqd.int _) (by decide) h2 ?_
  rw [List.isEmpty_map]
  exact q
section
variable {P : Program} {w : World} {K : PySem.W.Frag} {mg : Str → Option Value} {bs : Heap} {d : Ad}
/-! cut is_integer -/
def sp_is_integer (K : PySem.W.Frag) : Sp := fun vs H Q _ => ∃ a : Int, vs = [.int a] ∧ Q (.bl true) H
theorem ok_is_integer (m : Mo w K mg d) (sm : SM bs) : FnOk P w K mg bs CX0 1 d.a_is_integer d.fd_is_integer ["value"] (sp_is_integer K) := by
  refine m.F_is_integer.ok (k := 0) sc_is_integer (fun vs H Q E h => ?_) (fun cdv A fr s H vs Q E hr h => ?_)
  · obtain ⟨a, rfl, q⟩ := h
    rfl
  · obtain ⟨a, rfl, q⟩ := h
    refine ⟨_, (pss_one (ps_ret (pe_and (pe_callB cr_is (by rfl) m.n_isinstance (by decide +kernel) (pa_cons (pv 0) (pa_cons (pe_bltn (v := .ty "int") (by rfl) m.n_int (by decide +kernel) rfl) pa_nil))) (pe_one (pe_not (pe_callB cr_is (by rfl) m.n_isinstance (by decide +kernel) (pa_cons (pv 0) (pa_cons (pe_bltn (v := .ty "bool") (by rfl) m.n_bool (by decide +kernel) rfl) pa_nil)))))))), ?_⟩
    walk_at "vc"
    exact q
/-! cut is_integer_within -/
def sp_is_integer_within (K : PySem.W.Frag) : Sp := fun vs H Q _ => ∃ a lo hi : Int, vs = [.int a, .int lo, .int hi] ∧ Q (.bl (decide (lo ≤ a) && decide (a ≤ hi))) H
theorem ok_is_integer_within (m : Mo w K mg d) (sm : SM bs) (G_is_integer : FnOk P w K mg bs CX0 1 d.a_is_integer d.fd_is_integer ["value"] (sp_is_integer K)) : FnOk P w K mg bs CX0 2 d.a_is_integer_within d.fd_is_integer_within ["value", "least", "greatest"] (sp_is_integer_within K) := by
  refine m.F_is_integer_within.ok (k := 1) sc_is_integer_within (fun vs H Q E h => ?_) (fun cdv A fr s H vs Q E hr h => ?_)
  · obtain ⟨a, lo, hi, rfl, q⟩ := h
    rfl
  · obtain ⟨a, lo, hi, rfl, q⟩ := h
    refine ⟨_, (pss_one (ps_ret (pe_and (pe_call G_is_integer (hr.mono (by decide)) (by rfl) m.g_is_integer m.F_is_integer.kp m.b_is_integer .nil pass0 (pa_cons (pv 0) pa_nil)) (pe_one (pe_chain op_le op_le (pv 1) (pv 0) (pv 2)))))), ?_⟩
    walk_at "vc"
    refine ⟨_, rfl, ?_⟩
    walk_at "vc"
    split
    · rename_i h1
      rw [decide_eq_true h1] at q
      exact q
    · rename_i h1
      rw [decide_eq_false h1] at q
      exact q
/-! cut check_coordinate -/
def sp_check_coordinate (K : PySem.W.Frag) : Sp := fun vs H Q _ => ∃ t : Int, vs = [.int t] ∧ 0 ≤ t ∧ t ≤ 10 ^ 15 ∧ Q .non H
theorem ok_check_coordinate (m : Mo w K mg d) (sm : SM bs) (G_is_integer_within : FnOk P w K mg bs CX0 2 d.a_is_integer_within d.fd_is_integer_within ["value", "least", "greatest"] (sp_is_integer_within K)) : FnOk P w K mg bs CX0 3 d.a_check_coordinate d.fd_check_coordinate ["value"] (sp_check_coordinate K) := by
  obtain ⟨t_GREATEST_COORDINATE, h_GREATEST_COORDINATE⟩ := m.mg_GREATEST_COORDINATE
  refine m.F_check_coordinate.ok (k := 2) sc_check_coordinate (fun vs H Q E h => ?_) (fun cdv A fr s H vs Q E hr h => ?_)
  · obtain ⟨t, rfl, h0, h1, q⟩ := h
    rfl
  · obtain ⟨t, rfl, h0, h1, q⟩ := h
    refine ⟨_, (pss_one (ps_if (pt_not (pt_val (pe_call G_is_integer_within (hr.mono (by decide)) (by rfl) m.g_is_integer_within m.F_is_integer_within.kp m.b_is_integer_within .nil pass0 (pa_cons (pv 0) (pa_cons pe_int (pa_cons (pe_glob (v := .int (1000000000000000)) rfl h_GREATEST_COORDINATE ⟨_, rfl⟩) pa_nil))))))
      (pss_one ps_never)
      pss_nil)), ?_⟩
    walk_at "vc"
    refine ⟨_, _, _, rfl, ?_⟩
    walk_at "vc"
    rw [decide_eq_true h0, decide_eq_true (show t ≤ 1000000000000000 from h1)]
    walk_at "vc"
    exact q
/-! cut cells_before -/
def sp_cells_before (K : PySem.W.Frag) : Sp := fun vs H Q _ => ∃ t : Int, vs = [.int t] ∧ 0 ≤ t ∧ t < 2 ^ 60 ∧ Q (.int (t * (t + 1) / 2)) H
theorem ok_cells_before (m : Mo w K mg d) (sm : SM bs) : FnOk P w K mg bs CX0 1 d.a_cells_before d.fd_cells_before ["diagonal"] (sp_cells_before K) := by
  refine m.F_cells_before.ok (k := 0) sc_cells_before (fun vs H Q E h => ?_) (fun cdv A fr s H vs Q E hr h => ?_)
  · obtain ⟨t, rfl, h0, h1, q⟩ := h
    rfl
  · obtain ⟨t, rfl, h0, h1, q⟩ := h
    refine ⟨_, (pss_one (ps_ret (pe_op op_fdiv (pe_op op_mul (pv 0) (pe_op op_add (pv 0) pe_int)) pe_int))), ?_⟩
    walk_at "vc"
    exact ⟨by walk_at "sd", by walk_at "sd", q⟩
/-! cut name_of -/
def sp_name_of (K : PySem.W.Frag) : Sp := fun vs H Q _ => ∃ r d : Int, vs = [.int r, .int d] ∧ 0 ≤ r ∧ r ≤ 10 ^ 15 ∧ 0 ≤ d ∧ d ≤ 10 ^ 15 ∧ Q (.int ((r + d) * (r + d + 1) / 2 + r)) H
theorem ok_name_of (m : Mo w K mg d) (sm : SM bs) (G_check_coordinate : FnOk P w K mg bs CX0 3 d.a_check_coordinate d.fd_check_coordinate ["value"] (sp_check_coordinate K)) (G_cells_before : FnOk P w K mg bs CX0 1 d.a_cells_before d.fd_cells_before ["diagonal"] (sp_cells_before K)) : FnOk P w K mg bs CX0 4 d.a_name_of d.fd_name_of ["right", "down"] (sp_name_of K) := by
  refine m.F_name_of.ok (k := 3) sc_name_of (fun vs H Q E h => ?_) (fun cdv A fr s H vs Q E hr h => ?_)
  · obtain ⟨r, d', rfl, h0, h1, h2, h3, q⟩ := h
    rfl
  · obtain ⟨r, d', rfl, h0, h1, h2, h3, q⟩ := h
    refine ⟨_, (pss_cons (ps_expr (pe_call G_check_coordinate (hr.mono (by decide)) (by rfl) m.g_check_coordinate m.F_check_coordinate.kp m.b_check_coordinate .nil pass0 (pa_cons (pv 0) pa_nil)))
      (pss_cons (ps_expr (pe_call G_check_coordinate (hr.mono (by decide)) (by rfl) m.g_check_coordinate m.F_check_coordinate.kp m.b_check_coordinate .nil pass0 (pa_cons (pv 1) pa_nil)))
      (pss_one (ps_ret (pe_op op_add (pe_call G_cells_before (hr.mono (by decide)) (by rfl) m.g_cells_before m.F_cells_before.kp m.b_cells_before .nil pass0 (pa_cons (pe_op op_add (pv 0) (pv 1)) pa_nil)) (pv 0)))))), ?_⟩
    walk_at "vc"
    refine ⟨_, rfl, h0, h1, ?_⟩
    walk_at "vc"
    refine ⟨_, rfl, h2, h3, ?_⟩
    walk_at "vc"
    refine ⟨_, rfl, by omega, by omega, ?_⟩
    walk_at "vc"
    exact q
/-! cut check_count -/
def sp_check_count (K : PySem.W.Frag) : Sp := fun vs H Q _ => ∃ c g : Int, vs = [.int c, .int g] ∧ 1 ≤ c ∧ c ≤ g ∧ Q .non H
theorem ok_check_count (m : Mo w K mg d) (sm : SM bs) (G_is_integer_within : FnOk P w K mg bs CX0 2 d.a_is_integer_within d.fd_is_integer_within ["value", "least", "greatest"] (sp_is_integer_within K)) : FnOk P w K mg bs CX0 3 d.a_check_count d.fd_check_count ["count", "greatest"] (sp_check_count K) := by
  refine m.F_check_count.ok (k := 2) sc_check_count (fun vs H Q E h => ?_) (fun cdv A fr s H vs Q E hr h => ?_)
  · obtain ⟨c, g, rfl, h0, h1, q⟩ := h
    rfl
  · obtain ⟨c, g, rfl, h0, h1, q⟩ := h
    refine ⟨_, (pss_one (ps_if (pt_not (pt_val (pe_call G_is_integer_within (hr.mono (by decide)) (by rfl) m.g_is_integer_within m.F_is_integer_within.kp m.b_is_integer_within .nil pass0 (pa_cons (pv 0) (pa_cons pe_int (pa_cons (pv 1) pa_nil))))))
      (pss_one ps_never)
      pss_nil)), ?_⟩
    walk_at "vc"
    refine ⟨_, _, _, rfl, ?_⟩
    walk_at "vc"
    rw [decide_eq_true h0, decide_eq_true h1]
    walk_at "vc"
    exact q
/-! cut Walk___init__ -/
def sp_Walk___init__ (K : PySem.W.Frag) (d : Ad) : Sp := fun vs H Q _ => ∃ (B : Hp) (p dx : Addr) (n : Nat) (l : List (Addr × HO)), vs = [.ref p, .int n] ∧ n ≤ 40 ∧ Led B H ((p, .ins d.c_Walk dx []) :: l) ∧ ∀ B' H' W, Same B B' → W.w = p → WalkR d B' H' W (Gs.init n) n [] [] l → Q .non H'
theorem ok_Walk___init__ (m : Mo w K mg d) (sm : SM bs) : FnOk P w K mg bs CX0 1 d.a_Walk___init__ d.fd_Walk___init__ ["self", "count"] (sp_Walk___init__ K d) := by
  refine m.F_Walk___init__.ok (k := 0) sc_Walk___init__ (fun vs H Q E h => ?_) (fun cdv A fr s H vs Q E hr h => ?_)
  · obtain ⟨B, p0, dx, n, l, rfl, hn, L, q⟩ := h
    rfl
  · obtain ⟨B, p0, dx, n, l, rfl, hn, L, q⟩ := h
    refine ⟨_, (pss_cons (ps_fld (pv 0) pe_dnewT rfl)
      (pss_cons (ps_fld (pv 0) (pe_op op_rep (pe_lst (pa_cons (pe_tup (pa_cons pe_int (pa_cons pe_int pa_nil))) pa_nil)) (pv 1)) rfl)
      (pss_cons (ps_fld (pv 0) (pe_op op_rep (pe_lst (pa_cons pe_int pa_nil)) (pv 1)) rfl)
      (pss_cons (ps_fld (pv 0) (pe_op op_rep (pe_lst (pa_cons pe_non pa_nil)) (pv 1)) rfl)
      (pss_cons (ps_fld (pv 0) (pe_lst pa_nil) rfl)
      (pss_one (ps_fld (pv 0) (pe_lst pa_nil) rfl))))))), ?_⟩
    walk_at "vc"
    refine NewK.of L fun cl H1 L => ?_
    refine StK.of L (by walk_at "mem") m.C_Walk m.x_Walk_cells (fs' := [("cells", .ref cl)]) (by walk_at "fs") (by walk_at "put") fun H1 L => ?_
    walk_at "sds"
    refine NewK.of L fun t H1 L => ?_
    walk_at "vc"
    walk_at "sds"
    refine NewK.of L fun p1 H1 L => ?_
    refine RptK.of L (by walk_at "mem") (by omega) fun pl H1 L => ?_
    refine StK.of L (by walk_at "mem") m.C_Walk m.x_Walk_places (fs' := [("cells", .ref cl), ("places", .ref pl)]) (by walk_at "fs") (by walk_at "put") fun H1 L => ?_
    refine NewK.of L fun p2 H1 L => ?_
    refine RptK.of L (by walk_at "mem") (by omega) fun dl H1 L => ?_
    refine StK.of L (by walk_at "mem") m.C_Walk m.x_Walk_done (fs' := [("cells", .ref cl), ("places", .ref pl), ("done", .ref dl)]) (by walk_at "fs") (by walk_at "put") fun H1 L => ?_
    refine NewK.of L fun p3 H1 L => ?_
    refine RptK.of L (by walk_at "mem") (by omega) fun nl H1 L => ?_
    refine StK.of L (by walk_at "mem") m.C_Walk m.x_Walk_names (fs' := [("cells", .ref cl), ("places", .ref pl), ("done", .ref dl), ("names", .ref nl)]) (by walk_at "fs") (by walk_at "put") fun H1 L => ?_
    refine NewK.of L fun sl H1 L => ?_
    refine StK.of L (by walk_at "mem") m.C_Walk m.x_Walk_steps (fs' := [("cells", .ref cl), ("places", .ref pl), ("done", .ref dl), ("names", .ref nl), ("steps", .ref sl)]) (by walk_at "fs") (by walk_at "put") fun H1 L => ?_
    refine NewK.of L fun rl H1 L => ?_
    refine StK.of L (by walk_at "mem") m.C_Walk m.x_Walk_reports (fs' := [("cells", .ref cl), ("places", .ref pl), ("done", .ref dl), ("names", .ref nl), ("steps", .ref sl), ("reports", .ref rl)]) (by walk_at "fs") (by walk_at "put") fun H1 L => ?_
    obtain ⟨B2, s2, ht, L⟩ := L.sinkM (p := t) (o := .tup [.int 0, .int 0]) (by walk_at "pick")
    refine q B2 H1 ⟨p0, dx, cl, pl, dl, nl, sl, rl⟩ s2 rfl ⟨Gs.init_wf n, List.replicate n (.ref t), [], [], ⟨?_, Tups.nil _, List.nodup_nil, fun c _ => ⟨rfl, rfl⟩, Nat.le_refl _, fun c hc => ?_, Nat.le_refl _, ?_⟩⟩
    · show Tups B2 _ ((List.replicate n ((0, 0) : Cell)).map cellV)
      rw [List.map_replicate]
      exact Tups.rep ht n
    · rw [List.eq_of_mem_replicate (show c ∈ List.replicate n ((0, 0) : Cell) from hc)]
      exact Nat.le_refl _
    · unfold walkL walkO
      rw [names_init, show nv (Gs.init n).dn = _ from nv_rep n]
      exact L.sel (by walk_at "sel")
/-! cut Splitter_perform -/
def sp_Splitter_perform (K : PySem.W.Frag) (d : Ad) : Sp := fun vs H Q _ => ∃ (B : Hp) (l : List (Addr × HO)) (s dx : Addr) (x : Option Nat) (y : Bool) (p k : Nat), vs = [.ref s, .int p, .int k] ∧ Led B H l ∧ (s, HO.ins d.c_Splitter dx [("writer", wV x), ("closed", .bl y)]) ∈ l ∧ k ≤ 3 ∧
  ∀ H', Led B H' (putL l s (.ins d.c_Splitter dx [("writer", wV (if k = 0 then some p else x)), ("closed", .bl (if k = 2 then true else y))])) →
    Q (if k = 1 ∧ y = true then .str "right" else if k = 3 then (if x = some p then .str "stop" else .str "down") else .non) H'
theorem ok_Splitter_perform (m : Mo w K mg d) (sm : SM bs) : FnOk P w K mg bs CX0 1 d.a_Splitter_perform d.fd_Splitter_perform ["self", "process", "done"] (sp_Splitter_perform K d) := by
  refine m.F_Splitter_perform.ok (k := 0) sc_Splitter_perform (fun vs H Q E h => ?_) (fun cdv A fr s H vs Q E hr h => ?_)
  · obtain ⟨B, l, s0, dx, x, y, p, k, rfl, L, hm, hk3, q⟩ := h
    rfl
  · obtain ⟨B, l, s0, dx, x, y, p, k, rfl, L, hm, hk3, q⟩ := h
    refine ⟨_, (pss_cons (ps_if (pt_cmpR op_eq (pv 2) pe_int (nomark _))
      (pss_one (ps_fld (pv 0) (pv 1) rfl))
      (pss_one (ps_if (pt_cmpR op_eq (pv 2) pe_int (nomark _))
      (pss_one (ps_if (pt_val (pe_fld (pv 0) rfl))
      (pss_one (ps_ret pe_str))
      pss_nil))
      (pss_one (ps_if (pt_cmpR op_eq (pv 2) pe_int (nomark _))
      (pss_one (ps_fld (pv 0) pe_bl rfl))
      (pss_one (ps_if (pt_cmpR op_eq (pe_fld (pv 0) rfl) (pv 1) (nomark _))
      (pss_one (ps_ret pe_str))
      (pss_one (ps_ret pe_str)))))))))
      (pss_one (ps_ret pe_non))), ?_⟩
    walk_at "vc"
    have same := putL_same L.nd hm
    have wn : ∀ {P Q : Prop}, (if wV x = .int (p : Int) then P else Q) ↔ (if x = some p then P else Q) := by
      intro P Q
      have : (wV x = .int (p : Int)) ↔ x = some p := by
        cases x with
        | none => simp [wV]
        | some z => simp only [wV, V.int.injEq, Option.some.injEq]; omega
      simp only [this]
    have sw : scal (wV x) (.int (p : Int)) = true := by cases x <;> rfl
    obtain rfl | rfl | rfl | rfl : k = 0 ∨ k = 1 ∨ k = 2 ∨ k = 3 := by omega
    · walk_at "ifs"
      refine StK.ofM L hm m.C_Splitter m.x_Splitter_writer (fs' := [("writer", .int p), ("closed", .bl y)]) (by walk_at "fs") fun H1 L => ?_
      exact q _ L
    · walk_at "ifs"
      refine FldK.of L hm m.C_Splitter m.x_Splitter_closed (v := .bl y) (by walk_at "fs") ?_
      walk_at "vc"
      rw [if_neg (by decide), if_neg (by decide), same] at q
      cases y with
      | true => exact q _ L
      | false => exact q _ L
    · walk_at "ifs"
      refine StK.ofM L hm m.C_Splitter m.x_Splitter_closed (fs' := [("writer", wV x), ("closed", .bl true)]) (by walk_at "fs") fun H1 L => ?_
      exact q _ L
    · walk_at "ifs"
      refine FldK.of L hm m.C_Splitter m.x_Splitter_writer (v := wV x) (by walk_at "fs") ?_
      refine ⟨sw, ?_⟩
      rw [if_neg (by decide), if_neg (by decide), same] at q
      rw [wn]
      split
      · rename_i c
        simp only [c] at q
        exact q _ L
      · rename_i c
        rw [if_neg (by omega), if_pos rfl, if_neg c] at q
        exact q _ L
/-! cut Walk__end_in_cell -/
def sp_Walk__end_in_cell (K : PySem.W.Frag) (d : Ad) : Sp := fun vs H Q _ => ∃ (B : Hp) (W : Wad) (g : Gs) (n m b p : Nat) (xs : List V) (cs : List (Cell × Addr × Addr)) (sch : List Nat) (rp : List V) (evs : List (List V)) (l : List (Addr × HO)) (r : Str),
  vs = [.ref W.w, .int p, .str r] ∧ WalkC d B H W g n xs cs sch rp evs m b l ∧ g.Ln n ∧ g.Ok p ∧ b ≤ 1000000 ∧ p < n ∧
  (r = "stop" → ∀ H', WalkC d B H' W { g with fin := g.fin.set p true } n xs cs sch rp evs m b l → Q (.int (nmC (g.at p))) H') ∧
  (r ≠ "stop" → ∀ B' H' xs', Same B B' → let c := if r = "right" then ((g.at p).1 + 1, (g.at p).2) else ((g.at p).1, (g.at p).2 + 1)
    WalkC d B' H' W { g with pos := g.pos.set p c, dn := g.dn.set p 0 } n xs' cs sch rp evs m (b + 1) l → Q (.int (nmC c)) H')
theorem ok_Walk__end_in_cell (m : Mo w K mg d) (sm : SM bs) (G_name_of : FnOk P w K mg bs CX0 4 d.a_name_of d.fd_name_of ["right", "down"] (sp_name_of K)) : FnOk P w K mg bs CX0 5 d.a_Walk__end_in_cell d.fd_Walk__end_in_cell ["self", "process", "result"] (sp_Walk__end_in_cell K d) := by
  refine m.F_Walk__end_in_cell.ok (k := 4) sc_Walk__end_in_cell (fun vs H Q E h => ?_) (fun cdv A fr s H vs Q E hr h => ?_)
  · obtain ⟨B, W, g, n, m0, M, p, xs, cs, sch, rp, evs, l, r, rfl, C, wf, ok, hm, hp, q1, q2⟩ := h
    rfl
  · obtain ⟨B, W, g, n, m0, M, p, xs, cs, sch, rp, evs, l, r, rfl, C, wf, ok, hm, hp, q1, q2⟩ := h
    refine ⟨_, (pss_cons (ps_asg (pe_ix ix_list (pe_fld (pv 0) rfl) (pv 1) (fun _ _ => rfl)) (show PG _ _ (gTup K 2 _) from pg_tup (by rfl) (pgs_cons (pg_name (i := 3) sc_Walk__end_in_cell.nd rfl (.inl rfl)) (pgs_cons (pg_name (i := 4) sc_Walk__end_in_cell.nd rfl (.inl rfl)) pgs_nil))))
      (pss_cons (ps_if (pt_cmpR op_eq (pv 2) pe_str (nomark _))
      (pss_cons (ps_asg (pe_call G_name_of (hr.mono (by decide)) (by rfl) m.g_name_of m.F_name_of.kp m.b_name_of .nil pass0 (pa_cons (pv 3) (pa_cons (pv 4) pa_nil))) (pg_sub (pe_fld (pv 0) rfl) (pv 1) set_list))
      (pss_one (ps_ret (pe_ix ix_list (pe_fld (pv 0) rfl) (pv 1) (fun _ _ => rfl)))))
      pss_nil)
      (pss_cons (ps_if (pt_cmpR op_eq (pv 2) pe_str (nomark _))
      (pss_one (ps_aug (i := 3) sc_Walk__end_in_cell.nd rfl (.inl rfl) pe_int ip_add))
      (pss_one (ps_aug (i := 4) sc_Walk__end_in_cell.nd rfl (.inl rfl) pe_int ip_add)))
      (pss_cons (ps_asg (pe_tup (pa_cons (pv 3) (pa_cons (pv 4) pa_nil))) (pg_sub (pe_fld (pv 0) rfl) (pv 1) set_list))
      (pss_cons (ps_asg pe_int (pg_sub (pe_fld (pv 0) rfl) (pv 1) set_list))
      (pss_one (ps_ret (pe_call G_name_of (hr.mono (by decide)) (by rfl) m.g_name_of m.F_name_of.kp m.b_name_of .nil pass0 (pa_cons (pv 3) (pa_cons (pv 4) pa_nil)))))))))), ?_⟩
    have L := C.led
    unfold walkL walkO at L
    obtain ⟨t, hx, ht⟩ := C.sp.spot wf hp
    have hg := Gs.at_get wf hp
    have hb0 := C.bd _ (List.mem_of_getElem? hg)
    have hbd := nm_bd hb0 hm
    walk_at "vc"
    refine FldK.of L (by walk_at "mem") m.C_Walk m.x_Walk_places (v := .ref W.pl) (by walk_at "fs") ?_
    walk_at "vc"
    refine IxLK.of (L.lstAt (by walk_at "mem")) (atI_nat' hx) ?_
    walk_at "vc"
    refine UnpK.of (.inl (.inl (L.sm _ _ ht))) rfl ?_
    unfold cellV
    walk_at "vc"
    by_cases hr : r = Str.ofString "stop"
    · rw [if_pos hr]
      refine ⟨_, _, rfl, hbd.1, hbd.2.1, hbd.2.2.1, hbd.2.2.2, ?_⟩
      have hl := Gs.names_len wf
      refine FldK.of L (by walk_at "mem") m.C_Walk m.x_Walk_names (v := .ref W.nl) (by walk_at "fs") ?_
      walk_at "vc"
      refine SetK.of L (by walk_at "mem") (ixN_nat (by rw [hl]; exact hp)) (by walk_at "put") fun H1 L => ?_
      refine FldK.of L (by walk_at "mem") m.C_Walk m.x_Walk_names (v := .ref W.nl) (by walk_at "fs") ?_
      walk_at "vc"
      refine IxLK.of (L.lstAt (by walk_at "mem")) (atI_nat' (List.getElem?_set_self (by rw [hl]; exact hp))) ?_
      refine q1 hr H1 ⟨C.sp, C.rt, C.nd, C.fr, C.ln, C.bd, C.rn, ?_⟩
      have e : Gs.names { g with fin := g.fin.set p true } = g.names.set p (.int (nmC (g.at p))) := names_stop hg (by rw [wf.lf]; exact hp)
      unfold walkL walkO
      rw [e]
      exact L
    · rw [if_neg hr]
      have fin : ∀ (c : Cell) (B2 H1 : Hp) (xs' : List V), c = (if r = Str.ofString "right" then ((g.at p).1 + 1, (g.at p).2) else ((g.at p).1, (g.at p).2 + 1)) → Same B B2 → Tups B2 xs' ((g.pos.set p c).map cellV) →
          Led B2 H1 ((W.dl, HO.lst (nv (g.dn.set p 0))) :: (W.pl, .lst xs') :: (walkO d W) :: (W.cl, .dT (csK cs)) :: (W.nl, .lst g.names) :: (W.sl, .lst (nv sch)) :: (W.rl, .lst rp) :: (cs.map (splE d g) ++ l)) → Q (.int (nmC c)) H1 := by
        intro c B2 H1 xs' hc s2 ht2 L
        have := q2 hr B2 H1 xs' s2
        dsimp only at this
        rw [← hc] at this
        have hcm : c.1 + c.2 ≤ M + 1 := by
          have := C.bd _ (List.mem_of_getElem? hg)
          rw [hc]
          split <;> (dsimp only; omega)
        refine this ⟨ht2, C.rt.mono s2, C.nd, C.fr, C.ln, fun c' hc' => ?_, C.rn, ?_⟩
        · rcases List.mem_or_eq_of_mem_set hc' with z | z
          · have := C.bd _ z; omega
          · rw [z]; exact hcm
        · unfold walkL
          rw [show Gs.names { g with pos := g.pos.set p c, dn := g.dn.set p 0 } = g.names from names_move ok]
          exact L.sel (.cons (.tl (.tl .hd)) (.cons (.tl (.tl .hd)) (.cons (.tl .hd) (.cons .hd .all))))
      by_cases hr2 : r = Str.ofString "right"
      · rw [if_pos hr2]
        rw [if_pos hr2] at fin
        refine NewK.of L fun t2 H1 L => ?_
        obtain ⟨B2, s2, ht2, L⟩ := L.sink
        refine FldK.of L (by walk_at "mem") m.C_Walk m.x_Walk_places (v := .ref W.pl) (by walk_at "fs") ?_
        walk_at "vc"
        refine SetK.of L (by walk_at "mem") (ixN_nat (List.getElem?_eq_some_iff.mp hx).1) (by walk_at "put") fun H2 L => ?_
        refine FldK.of L (by walk_at "mem") m.C_Walk m.x_Walk_done (v := .ref W.dl) (by walk_at "fs") ?_
        walk_at "vc"
        refine SetK.of L (by walk_at "mem") (ixN_nat (by rw [nv_len, wf.ld]; exact hp)) (by walk_at "put") fun H3 L => ?_
        rw [show (nv g.dn).set p (V.int 0) = nv (g.dn.set p 0) from nv_set _ _ 0] at L
        refine ⟨_, _, rfl, by omega, by omega, hbd.2.2.1, hbd.2.2.2, ?_⟩
        refine fin _ B2 H3 _ rfl s2 ?_ (L.sel (by unfold walkO; walk_at "sel"))
        rw [List.map_set]
        exact (C.sp.mono s2).set p ht2
      · rw [if_neg hr2]
        rw [if_neg hr2] at fin
        refine NewK.of L fun t2 H1 L => ?_
        obtain ⟨B2, s2, ht2, L⟩ := L.sink
        refine FldK.of L (by walk_at "mem") m.C_Walk m.x_Walk_places (v := .ref W.pl) (by walk_at "fs") ?_
        walk_at "vc"
        refine SetK.of L (by walk_at "mem") (ixN_nat (List.getElem?_eq_some_iff.mp hx).1) (by walk_at "put") fun H2 L => ?_
        refine FldK.of L (by walk_at "mem") m.C_Walk m.x_Walk_done (v := .ref W.dl) (by walk_at "fs") ?_
        walk_at "vc"
        refine SetK.of L (by walk_at "mem") (ixN_nat (by rw [nv_len, wf.ld]; exact hp)) (by walk_at "put") fun H3 L => ?_
        rw [show (nv g.dn).set p (V.int 0) = nv (g.dn.set p 0) from nv_set _ _ 0] at L
        refine ⟨_, _, rfl, hbd.1, hbd.2.1, by omega, by omega, ?_⟩
        refine fin _ B2 H3 _ rfl s2 ?_ (L.sel (by unfold walkO; walk_at "sel"))
        rw [List.map_set]
        exact (C.sp.mono s2).set p ht2
/-! cut Splitter___init__ -/
def sp_Splitter___init__ (K : PySem.W.Frag) (d : Ad) : Sp := fun vs H Q _ => ∃ (B : Hp) (s dxs : Addr) (l : List (Addr × HO)), vs = [.ref s] ∧ Led B H ((s, .ins d.c_Splitter dxs []) :: l) ∧ ∀ H', Led B H' ((s, .ins d.c_Splitter dxs [("writer", .non), ("closed", .bl false)]) :: l) → Q .non H'
theorem ok_Splitter___init__ (m : Mo w K mg d) (sm : SM bs) : FnOk P w K mg bs CX0 1 d.a_Splitter___init__ d.fd_Splitter___init__ ["self"] (sp_Splitter___init__ K d) := by
  refine m.F_Splitter___init__.ok (k := 0) sc_Splitter___init__ (fun vs H Q E h => ?_) (fun cdv A fr s H vs Q E hr h => ?_)
  · obtain ⟨B, s0, dxs, l, rfl, L, q⟩ := h
    rfl
  · obtain ⟨B, s0, dxs, l, rfl, L, q⟩ := h
    refine ⟨_, (pss_cons (ps_fld (pv 0) pe_non rfl)
      (pss_one (ps_fld (pv 0) pe_bl rfl))), ?_⟩
    walk_at "vc"
    refine StK.of L (by walk_at "mem") m.C_Splitter m.x_Splitter_writer (fs' := [("writer", .non)]) (by walk_at "fs") (by walk_at "put") fun H1 L => ?_
    refine StK.of L (by walk_at "mem") m.C_Splitter m.x_Splitter_closed (fs' := [("writer", .non), ("closed", .bl false)]) (by walk_at "fs") (by walk_at "put") fun H1 L => ?_
    exact q _ L
/-! cut Walk__splitter_at -/
def sp_Walk__splitter_at (K : PySem.W.Frag) (d : Ad) : Sp := fun vs H Q _ => ∃ (B : Hp) (W : Wad) (g : Gs) (n m b : Nat) (xs : List V) (cs : List (Cell × Addr × Addr)) (sch : List Nat) (rp : List V) (evs : List (List V)) (l : List (Addr × HO)) (t : Addr) (c : Cell),
  vs = [.ref W.w, .ref t] ∧ WalkC d B H W g n xs cs sch rp evs m b l ∧ B t = some (.tup (cellV c)) ∧ m ≤ 1000000 ∧ ∀ H' s dx cs', WalkC d B H' W g n xs cs' sch rp evs (m + 1) b l → (c, s, dx) ∈ cs' → Q (.ref s) H'
theorem ok_Walk__splitter_at (m : Mo w K mg d) (sm : SM bs) (G_Splitter___init__ : FnOk P w K mg bs CX0 1 d.a_Splitter___init__ d.fd_Splitter___init__ ["self"] (sp_Splitter___init__ K d)) : FnOk P w K mg bs CX0 3 d.a_Walk__splitter_at d.fd_Walk__splitter_at ["self", "place"] (sp_Walk__splitter_at K d) := by
  refine m.F_Walk__splitter_at.ok (k := 2) sc_Walk__splitter_at (fun vs H Q E h => ?_) (fun cdv A fr s H vs Q E hr h => ?_)
  · obtain ⟨B, W, g, n, M, bb, xs, cs, sch, rp, evs, l, t, c, rfl, C, ht, hm, q⟩ := h
    rfl
  · obtain ⟨B, W, g, n, M, bb, xs, cs, sch, rp, evs, l, t, c, rfl, C, ht, hm, q⟩ := h
    refine ⟨_, (pss_cons (ps_if (pt_cmp (pc_dnotin (Nat.lt_of_le_of_lt (Nat.add_le_add_left (by decide) _) hr.units) (pv 1) (pe_fld (pv 0) rfl)))
      (pss_one (ps_dput (Nat.lt_of_le_of_lt (Nat.add_le_add_left (by decide) _) hr.units) (pe_fld (pv 0) rfl) (pv 1) (pe_make0 m.K_Splitter G_Splitter___init__ (hr.mono (by decide)) (by rfl) m.g_Splitter m.b_Splitter___init__ .nil pass0) rfl))
      pss_nil)
      (pss_one (ps_ret (pe_dget (Nat.lt_of_le_of_lt (Nat.add_le_add_left (by decide) _) hr.units) (pe_fld (pv 0) rfl) (pv 1) (fun _ _ => rfl))))), ?_⟩
    have L := C.led
    unfold walkL walkO at L
    walk_at "vc"
    refine FldK.of L (by walk_at "mem") m.C_Walk m.x_Walk_cells (v := .ref W.cl) (by walk_at "fs") ?_
    walk_at "vc"
    refine KinK.t (k := keyC c) L (by walk_at "mem") (L.sm _ _ ht) ?_
    rcases csK_look c cs with ⟨s, dx, h1, h2⟩ | ⟨h1, h2⟩
    · rw [h2]
      walk_at "vc"
      refine FldK.of L (by walk_at "mem") m.C_Walk m.x_Walk_cells (v := .ref W.cl) (by walk_at "fs") ?_
      walk_at "vc"
      refine DGetK.t (k := keyC c) L (by walk_at "mem") (L.sm _ _ ht) h2 ?_
      exact q _ s dx cs ⟨C.sp, C.rt, C.nd, C.fr, by have := C.ln; omega, C.bd, by have := C.rn; omega, C.led⟩ h1
    · rw [h2]
      walk_at "vc"
      refine MkK.of L fun s dx H1 L => ?_
      refine ⟨B, s, dx, _, rfl, L, fun H2 L => ⟨rfl, ?_⟩⟩
      refine FldK.of L (by walk_at "mem") m.C_Walk m.x_Walk_cells (v := .ref W.cl) (by walk_at "fs") ?_
      walk_at "vc"
      refine DPutK.t (k := keyC c) L (by walk_at "mem") (L.sm _ _ ht) (Nat.lt_of_le_of_lt (m := 1000000) (by unfold csK; rw [List.length_map]; have := C.ln; omega) (by decide)) (by walk_at "put") fun H3 L => ?_
      refine FldK.of L (by walk_at "mem") m.C_Walk m.x_Walk_cells (v := .ref W.cl) (by walk_at "fs") ?_
      walk_at "vc"
      have e : putK (csK cs) (keyC c) (V.ref s) = csK (cs ++ [(c, s, dx)]) := by
        rw [putK_new _ h2]
        unfold csK
        rw [List.map_append]
        rfl
      rw [e] at L
      have e2 : valV (csK (cs ++ [(c, s, dx)])) (keyC c) = some (.ref s) := by
        rw [← e, valV_put, if_pos rfl]
      refine DGetK.t (k := keyC c) L (by walk_at "mem") (L.sm _ _ ht) e2 ?_
      obtain ⟨f1, f2⟩ := C.fr c h1
      refine q _ s dx (cs ++ [(c, s, dx)]) ⟨C.sp, C.rt, ?_, fun c2 hc => C.fr c2 fun z => hc (by rw [List.map_append]; exact List.mem_append_left _ z), by rw [List.length_append]; have := C.ln; simp only [List.length_cons, List.length_nil]; omega, C.bd, by have := C.rn; omega, ?_⟩ (List.mem_append_right _ List.mem_cons_self)
      · rw [List.map_append]
        refine List.nodup_append.mpr ⟨C.nd, List.nodup_cons.mpr ⟨List.not_mem_nil, List.nodup_nil⟩, fun a ha b hb z => h1 ?_⟩
        rw [List.mem_singleton.mp hb] at z
        exact (show a = c from z) ▸ ha
      · unfold walkL walkO
        rw [List.map_append]
        have e3 : splE d g (c, s, dx) = (s, .ins d.c_Splitter dx [("writer", .non), ("closed", .bl false)]) := by unfold splE; rw [f1, f2]; rfl
        show Led B H3 (_ :: _ :: _ :: _ :: _ :: _ :: _ :: (List.map (splE d g) cs ++ [splE d g (c, s, dx)] ++ l))
        rw [e3, List.append_assoc]
        exact L.perm (List.perm_middle (l₁ := _ :: _ :: _ :: _ :: _ :: _ :: _ :: List.map (splE d g) cs)).symm
/-! cut Walk_step -/
theorem spl_mem {d : Ad} {W : Wad} {g : Gs} {xs : List V} {cs : List (Cell × Addr × Addr)} {sch : List Nat} {rp : List V} {l : List (Addr × HO)} {e : Cell × Addr × Addr} (h : e ∈ cs) : splE d g e ∈ walkL d W g xs cs sch rp l := by
  unfold walkL
  exact .tail _ (.tail _ (.tail _ (.tail _ (.tail _ (.tail _ (.tail _ (List.mem_append_left _ (List.mem_map_of_mem h))))))))
theorem put_walk {d : Ad} {B H : Hp} {W : Wad} {g g' : Gs} {xs : List V} {cs : List (Cell × Addr × Addr)} {sch : List Nat} {rp : List V} {l : List (Addr × HO)} {c : Cell} {s dx : Addr} (L : Led B H (walkL d W g xs cs sch rp l)) (nd : (cs.map (·.1)).Nodup) (h : (c, s, dx) ∈ cs)
    (hc : ∀ c', c' ≠ c → g'.x c' = g.x c' ∧ g'.y c' = g.y c') (h1 : g'.dn = g.dn) (h2 : g'.names = g.names) : putL (walkL d W g xs cs sch rp l) s (splE d g' (c, s, dx)).2 = walkL d W g' xs cs sch rp l := by
  have LL : Led B H ((walkO d W :: (W.cl, .dT (csK cs)) :: (W.pl, .lst xs) :: (W.dl, .lst (nv g.dn)) :: (W.nl, .lst g.names) :: (W.sl, .lst (nv sch)) :: (W.rl, .lst rp) :: []) ++ (cs.map (splE d g) ++ l)) := L
  obtain ⟨n1, n2⟩ := Led.nd_mid LL
  have hs := n2 _ (List.mem_map_of_mem (f := splE d g) h)
  show putL ((walkO d W :: (W.cl, .dT (csK cs)) :: (W.pl, .lst xs) :: (W.dl, .lst (nv g.dn)) :: (W.nl, .lst g.names) :: (W.sl, .lst (nv sch)) :: (W.rl, .lst rp) :: []) ++ (cs.map (splE d g) ++ l)) s _ = _
  rw [putL_app, putL_app, putL_not (show s ∉ _ from hs.1), putL_not (show s ∉ l.map (·.1) from hs.2), put_spl nd n1 h hc]
  unfold walkL
  rw [h1, h2]
  rfl
def rsV : Rs → V
  | .non => .non
  | .right _ => .str "right"
  | .down _ => .str "down"
  | .stop _ => .str "stop"
theorem res_facts {g : Gs} {p : Nat} {r : Rs} (h : g.res p = r) : match r with
    | .non => True
    | .right c => g.dnAt p = 1 ∧ c = ((g.at p).1 + 1, (g.at p).2) ∧ True
    | .down c => g.dnAt p = 3 ∧ c = ((g.at p).1, (g.at p).2 + 1) ∧ True
    | .stop c => g.dnAt p = 3 ∧ c = g.at p ∧ True := by
  unfold Gs.res at h
  split at h
  · rename_i c; subst h; exact ⟨c.1, rfl, trivial⟩
  · split at h
    · rename_i c
      split at h
      · subst h; exact ⟨c, rfl, trivial⟩
      · subst h; exact ⟨c, rfl, trivial⟩
    · subst h; trivial
theorem Gs.Ln.dnset {g : Gs} {n : Nat} (wf : g.Ln n) (p k : Nat) : Gs.Ln { g with dn := g.dn.set p k } n := ⟨wf.lp, by show (g.dn.set p k).length = n; rw [List.length_set]; exact wf.ld, wf.lf⟩
theorem res_V (g : Gs) (p : Nat) : (if g.dnAt p = 1 ∧ g.y (g.at p) = true then V.str "right" else if g.dnAt p = 3 then (if g.x (g.at p) = some p then V.str "stop" else .str "down") else .non) = rsV (g.res p) := by
  unfold Gs.res
  split
  · rfl
  · split
    · split <;> rfl
    · rfl
def sp_Walk_step (K : PySem.W.Frag) (d : Ad) : Sp := fun vs H Q _ => ∃ (B : Hp) (W : Wad) (g : Gs) (n p : Nat) (sch : List Nat) (evs : List (List V)) (l : List (Addr × HO)), vs = [.ref W.w, .int p] ∧ WalkR d B H W g n sch evs l ∧ g.Ok p ∧ sch.length < 1000000 ∧
  ∀ B' H' v, Same B B' → WalkR d B' H' W (g.step p) n (sch ++ [p]) (evs ++ evT p (resT (g.res p))) l → RV B' v (resT (g.res p)) → Q v H'
theorem ok_Walk_step (m : Mo w K mg d) (sm : SM bs) (G_Splitter_perform : FnOk P w K mg bs CX0 1 d.a_Splitter_perform d.fd_Splitter_perform ["self", "process", "done"] (sp_Splitter_perform K d)) (G_Walk__end_in_cell : FnOk P w K mg bs CX0 5 d.a_Walk__end_in_cell d.fd_Walk__end_in_cell ["self", "process", "result"] (sp_Walk__end_in_cell K d)) (G_Walk__splitter_at : FnOk P w K mg bs CX0 3 d.a_Walk__splitter_at d.fd_Walk__splitter_at ["self", "place"] (sp_Walk__splitter_at K d)) : FnOk P w K mg bs CX0 6 d.a_Walk_step d.fd_Walk_step ["self", "process"] (sp_Walk_step K d) := by
  refine m.F_Walk_step.ok (k := 5) sc_Walk_step (fun vs H Q E h => ?_) (fun cdv A fr s H vs Q E hr h => ?_)
  · obtain ⟨B, W, g, n, p, sch, evs, l, rfl, ⟨wf, xs, cs, rp, C⟩, ok, hm, q⟩ := h
    rfl
  · obtain ⟨B, W, g, n, p, sch, evs, l, rfl, ⟨wf, xs, cs, rp, C⟩, ok, hm, q⟩ := h
    refine ⟨_, (pss_cons (ps_asg (pe_meth (pe_meth (pv 0) m.C_Walk m.M_Walk__splitter_at G_Walk__splitter_at (hr.mono (by decide)) m.b_Walk__splitter_at .nil pass0 (pa_cons (pe_ix ix_list (pe_fld (pv 0) rfl) (pv 1) (fun _ _ => rfl)) pa_nil)) m.C_Splitter m.M_Splitter_perform G_Splitter_perform (hr.mono (by decide)) m.b_Splitter_perform .nil pass0 (pa_cons (pv 1) (pa_cons (pe_ix ix_list (pe_fld (pv 0) rfl) (pv 1) (fun _ _ => rfl)) pa_nil))) (pg_name (i := 2) sc_Walk_step.nd rfl (.inl rfl)))
      (pss_cons (ps_expr (pe_bm PySem.F.plainAttrs_list PySem.F.slot_list_append PySem.F.type_list_append mt_append (pe_fld (pv 0) rfl) (pa_cons (pv 1) pa_nil)))
      (pss_cons (ps_augS (pe_fld (pv 0) rfl) (pv 1) pget_list pe_int ip_add set_list)
      (pss_cons (ps_if (pt_cmpR op_isN (pv 2) pe_non (nomark _))
      (pss_one (ps_ret pe_non))
      pss_nil)
      (pss_cons (ps_asg (pe_meth (pv 0) m.C_Walk m.M_Walk__end_in_cell G_Walk__end_in_cell (hr.mono (by decide)) m.b_Walk__end_in_cell .nil pass0 (pa_cons (pv 1) (pa_cons (pv 2) pa_nil))) (pg_name (i := 3) sc_Walk_step.nd rfl (.inl rfl)))
      (pss_cons (ps_expr (pe_bm PySem.F.plainAttrs_list PySem.F.slot_list_append PySem.F.type_list_append mt_append (pe_fld (pv 0) rfl) (pa_cons (pe_tup (pa_cons (pv 1) (pa_cons (pv 2) (pa_cons (pv 3) pa_nil)))) pa_nil)))
      (pss_one (ps_ret (pe_tup (pa_cons (pv 2) (pa_cons (pv 3) pa_nil))))))))))), ?_⟩
    have hp := ok.lt wf
    have L := C.led
    have hrn := C.rn
    unfold walkL walkO at L
    obtain ⟨t, hx, ht⟩ := C.sp.spot wf.toLn hp
    have hg := Gs.at_get wf.toLn hp
    have hk := Gs.dn_get wf.toLn hp
    have hk3 := wf.d3 p ok
    walk_at "vc"
    refine MtK.of L (by walk_at "mem") (by walk_at "fs") ?_
    refine FldK.of L (by walk_at "mem") m.C_Walk m.x_Walk_places (v := .ref W.pl) (by walk_at "fs") ?_
    walk_at "vc"
    refine IxLK.of (L.lstAt (by walk_at "mem")) (atI_nat' hx) ?_
    refine ⟨B, W, g, n, sch.length, sch.length, xs, cs, sch, rp, evs, l, t, g.at p, rfl, C, ht, by omega, fun H1 s dx cs C hcs => ?_⟩
    walk_at "vc"
    have L := C.led
    refine MtK.of (C := d.c_Splitter) L (spl_mem hcs) (by walk_at "fs") ?_
    have LL := L
    unfold walkL walkO at LL
    refine FldK.of LL (by walk_at "mem") m.C_Walk m.x_Walk_done (v := .ref W.dl) (by walk_at "fs") ?_
    walk_at "vc"
    refine IxLK.of (LL.lstAt (by walk_at "mem")) (nv_atI hk) ?_
    refine ⟨B, _, s, dx, g.x (g.at p), g.y (g.at p), p, g.dnAt p, rfl, L, spl_mem hcs, hk3, fun H2 L3 => ?_⟩
    rw [res_V]
    have key := fun (g1 : Gs) (e : (if g.dnAt p = 0 then some p else g.x (g.at p)) = g1.x (g.at p)) (e2 : (if g.dnAt p = 2 then true else g.y (g.at p)) = g1.y (g.at p)) (hc : ∀ c', c' ≠ g.at p → g1.x c' = g.x c' ∧ g1.y c' = g.y c') (h1 : g1.dn = g.dn) (h2 : g1.names = g.names) =>
      (show Led B H2 (walkL d W g1 xs cs sch rp l) by rw [← put_walk L C.nd hcs hc h1 h2]; unfold splE; rw [← e, ← e2]; exact L3)
    have fr1 := fun (g1 : Gs) (hc : ∀ c', c' ≠ g.at p → g1.x c' = g.x c' ∧ g1.y c' = g.y c') => (show ∀ c, c ∉ cs.map (·.1) → g1.x c = none ∧ g1.y c = false from fun c h => by
      have ne : c ≠ g.at p := fun z => h (by rw [z]; exact List.mem_map.mpr ⟨_, hcs, rfl⟩)
      rw [(hc c ne).1, (hc c ne).2]
      exact C.fr c h)
    have hb1 : sch.length < sizeLine := Nat.lt_of_lt_of_le hm (by decide)
    have hdl : p < g.dn.length := by rw [wf.ld]; exact hp
    have wf' := wf.step ok
    have bd1 : (∀ c ∈ (g.step p).pos, c.1 + c.2 ≤ sch.length + 1) → ∀ c ∈ (g.step p).pos, c.1 + c.2 ≤ (sch ++ [p]).length := fun h c hc => by rw [List.length_append]; exact h c hc
    have ls : (sch ++ [p]).length = sch.length + 1 := by rw [List.length_append]; rfl
    have go2 := fun (g1 : Gs) (L : Led B H2 (walkL d W g1 xs cs sch rp l)) (hdn : g1.dn = g.dn) (G : Hp → Prop) (k : ∀ H4, Led B H4 (walkL d W { g1 with dn := g.dn.set p (g.dnAt p + 1) } xs cs (sch ++ [p]) rp l) → G H4) =>
      (show FldK K W.w (Str.ofString "steps") H2 fun v => tyV K "list" v H2 ∧ rAppend v [V.int ↑p] H2 fun x_1 H1 => FldK K W.w (Str.ofString "done") H1 fun v => rIxL K v (V.int ↑p) H1 fun x_2 H3 => ∃ i, x_2 = V.int i ∧ rSetL v (V.int ↑p) (V.int (i + 1)) H3 fun H6 => G H6 by
      unfold walkL walkO at L
      rw [hdn] at L
      refine FldK.of L (by walk_at "mem") m.C_Walk m.x_Walk_steps (v := .ref W.sl) (by walk_at "fs") ?_
      walk_at "vc"
      refine ⟨tyL (L.lstAt (by walk_at "mem")), AppK.of L (by walk_at "mem") (by rw [nv_len]; exact hb1) (by walk_at "put") fun H3 L => ?_⟩
      rw [← nv_app] at L
      refine FldK.of L (by walk_at "mem") m.C_Walk m.x_Walk_done (v := .ref W.dl) (by walk_at "fs") ?_
      walk_at "vc"
      refine IxLK.of (L.lstAt (by walk_at "mem")) (nv_atI hk) ?_
      walk_at "vc"
      refine SetK.of L (by walk_at "mem") (ixN_nat (by rw [nv_len]; exact hdl)) (by walk_at "put") fun H4 L => ?_
      rw [nv_put] at L
      exact k H4 L)
    cases hr : g.res p with
    | non =>
      have e0 : g.step p = { g with dn := g.dn.set p (g.dnAt p + 1), x := if g.dnAt p = 0 then fset g.x (g.at p) (some p) else g.x, y := if g.dnAt p = 2 then fset g.y (g.at p) true else g.y } := by unfold Gs.step; rw [hr]
      have hc : ∀ c', c' ≠ g.at p → (g.step p).x c' = g.x c' ∧ (g.step p).y c' = g.y c' := fun c' h => by
        rw [e0]
        dsimp only
        constructor
        · split
          · unfold fset; rw [if_neg h]
          · rfl
        · split
          · unfold fset; rw [if_neg h]
          · rfl
      have LL := key { g with x := (g.step p).x, y := (g.step p).y } (by
        rw [e0]
        dsimp only
        split
        · unfold fset; rw [if_pos rfl]
        · rfl) (by
        rw [e0]
        dsimp only
        split
        · unfold fset; rw [if_pos rfl]
        · rfl) hc rfl rfl
      refine go2 _ LL rfl _ fun H4 L => ?_
      rw [if_pos (show rsV Rs.non = V.non from rfl)]
      rw [hr] at q
      refine q B H4 .non (Same.refl B) ⟨wf', xs, cs, rp, ⟨?_, ?_, C.nd, fr1 (g.step p) hc, by rw [ls]; exact C.ln, ?_, by rw [ls]; simpa [evT, resT] using C.rn, ?_⟩⟩ rfl
      · rw [e0]; exact C.sp
      · simpa [evT, resT] using C.rt
      · rw [e0, ls]; exact fun c hc => Nat.le_succ_of_le (C.bd c hc)
      · rw [e0] at L ⊢
        exact L
    | right c =>
      obtain ⟨hk1, he, hne⟩ := res_facts hr
      have ce : (if Str.ofString "right" = Str.ofString "right" then ((Gs.at { g with dn := g.dn.set p (g.dnAt p + 1) } p).1 + 1, (Gs.at { g with dn := g.dn.set p (g.dnAt p + 1) } p).2) else ((Gs.at { g with dn := g.dn.set p (g.dnAt p + 1) } p).1, (Gs.at { g with dn := g.dn.set p (g.dnAt p + 1) } p).2 + 1)) = c := by rw [if_pos rfl]; exact he.symm
      have LL := key g (by rw [if_neg (by omega)]) (by rw [if_neg (by omega)]) (fun c' h => ⟨rfl, rfl⟩) rfl rfl
      refine go2 _ LL rfl _ fun H4 L => ?_
      rw [if_neg (by intro z; cases z)]
      have LW := L
      unfold walkL walkO at LW
      refine MtK.of LW (by walk_at "mem") (by walk_at "fs") ?_
      have e0 : g.step p = { g with pos := g.pos.set p c, dn := g.dn.set p 0 } := by unfold Gs.step; rw [hr]
      refine ⟨B, W, { g with dn := g.dn.set p (g.dnAt p + 1) }, n, sch.length + 1, sch.length, p, xs, cs, sch ++ [p], rp, evs, l, _, rfl, ⟨C.sp, C.rt, C.nd, C.fr, C.ln, C.bd, C.rn, L⟩, wf.toLn.dnset p _, ok, by omega, hp, fun z => absurd z (by decide +kernel), fun _ B2 H5 xs' s2 C5 => ?_⟩
      rw [ce] at C5 ⊢
      have L5 := C5.led
      unfold walkL walkO at L5
      refine FldK.of L5 (by walk_at "mem") m.C_Walk m.x_Walk_reports (v := .ref W.rl) (by walk_at "fs") ?_
      walk_at "vc"
      refine ⟨tyL (L5.lstAt (by walk_at "mem")), NewK.of L5 fun t3 H6 L6 => ?_⟩
      obtain ⟨B3, s3, ht3, L6⟩ := L6.sink
      refine AppK.of L6 (by walk_at "mem") (Nat.lt_of_le_of_lt (m := 1000001) (by rw [C.rt.1]; have := C.rn; omega) (by decide)) (by walk_at "put") fun H7 L7 => ?_
      refine NewK.of L7 fun t4 H8 L8 => ?_
      obtain ⟨B4, s4, ht4, L8⟩ := L8.sink
      rw [hr] at q
      refine q B4 H8 (.ref t4) ((s2.trans s3).trans s4) ⟨wf', xs', cs, rp ++ [.ref t3], ⟨?_, ?_, C.nd, ?_, by rw [ls]; exact C.ln, ?_, ?_, ?_⟩⟩ ⟨t4, rfl, ht4⟩
      · rw [e0]; exact (C5.sp.mono s3).mono s4
      · exact ((C5.rt.mono s3).app ht3).mono s4
      · rw [e0]; exact C.fr
      · rw [e0, ls]; exact C5.bd
      · rw [List.length_append, ls]
        exact Nat.succ_le_succ hrn
      · rw [e0]
        have := L8
        rw [show (g.dn.set p (g.dnAt p + 1)).set p 0 = g.dn.set p 0 from List.set_set ..] at this
        exact this
    | down c =>
      obtain ⟨hk1, he, hne⟩ := res_facts hr
      have ce : (if Str.ofString "down" = Str.ofString "right" then ((Gs.at { g with dn := g.dn.set p (g.dnAt p + 1) } p).1 + 1, (Gs.at { g with dn := g.dn.set p (g.dnAt p + 1) } p).2) else ((Gs.at { g with dn := g.dn.set p (g.dnAt p + 1) } p).1, (Gs.at { g with dn := g.dn.set p (g.dnAt p + 1) } p).2 + 1)) = c := by rw [if_neg (by decide +kernel)]; exact he.symm
      have LL := key g (by rw [if_neg (by omega)]) (by rw [if_neg (by omega)]) (fun c' h => ⟨rfl, rfl⟩) rfl rfl
      refine go2 _ LL rfl _ fun H4 L => ?_
      rw [if_neg (by intro z; cases z)]
      have LW := L
      unfold walkL walkO at LW
      refine MtK.of LW (by walk_at "mem") (by walk_at "fs") ?_
      have e0 : g.step p = { g with pos := g.pos.set p c, dn := g.dn.set p 0 } := by unfold Gs.step; rw [hr]
      refine ⟨B, W, { g with dn := g.dn.set p (g.dnAt p + 1) }, n, sch.length + 1, sch.length, p, xs, cs, sch ++ [p], rp, evs, l, _, rfl, ⟨C.sp, C.rt, C.nd, C.fr, C.ln, C.bd, C.rn, L⟩, wf.toLn.dnset p _, ok, by omega, hp, fun z => absurd z (by decide +kernel), fun _ B2 H5 xs' s2 C5 => ?_⟩
      rw [ce] at C5 ⊢
      have L5 := C5.led
      unfold walkL walkO at L5
      refine FldK.of L5 (by walk_at "mem") m.C_Walk m.x_Walk_reports (v := .ref W.rl) (by walk_at "fs") ?_
      walk_at "vc"
      refine ⟨tyL (L5.lstAt (by walk_at "mem")), NewK.of L5 fun t3 H6 L6 => ?_⟩
      obtain ⟨B3, s3, ht3, L6⟩ := L6.sink
      refine AppK.of L6 (by walk_at "mem") (Nat.lt_of_le_of_lt (m := 1000001) (by rw [C.rt.1]; have := C.rn; omega) (by decide)) (by walk_at "put") fun H7 L7 => ?_
      refine NewK.of L7 fun t4 H8 L8 => ?_
      obtain ⟨B4, s4, ht4, L8⟩ := L8.sink
      rw [hr] at q
      refine q B4 H8 (.ref t4) ((s2.trans s3).trans s4) ⟨wf', xs', cs, rp ++ [.ref t3], ⟨?_, ?_, C.nd, ?_, by rw [ls]; exact C.ln, ?_, ?_, ?_⟩⟩ ⟨t4, rfl, ht4⟩
      · rw [e0]; exact (C5.sp.mono s3).mono s4
      · exact ((C5.rt.mono s3).app ht3).mono s4
      · rw [e0]; exact C.fr
      · rw [e0, ls]; exact C5.bd
      · rw [List.length_append, ls]
        exact Nat.succ_le_succ hrn
      · rw [e0]
        have := L8
        rw [show (g.dn.set p (g.dnAt p + 1)).set p 0 = g.dn.set p 0 from List.set_set ..] at this
        exact this
    | stop c =>
      obtain ⟨hk1, he, hne⟩ := res_facts hr
      have LL := key g (by rw [if_neg (by omega)]) (by rw [if_neg (by omega)]) (fun c' h => ⟨rfl, rfl⟩) rfl rfl
      refine go2 _ LL rfl _ fun H4 L => ?_
      rw [if_neg (by intro z; cases z)]
      have LW := L
      unfold walkL walkO at LW
      refine MtK.of LW (by walk_at "mem") (by walk_at "fs") ?_
      have e0 : g.step p = { g with fin := g.fin.set p true, dn := g.dn.set p 4 } := by unfold Gs.step; rw [hr]
      refine ⟨B, W, { g with dn := g.dn.set p (g.dnAt p + 1) }, n, sch.length + 1, sch.length, p, xs, cs, sch ++ [p], rp, evs, l, _, rfl, ⟨C.sp, C.rt, C.nd, C.fr, C.ln, C.bd, C.rn, L⟩, wf.toLn.dnset p _, ok, by omega, hp, fun _ H5 C5 => ?_, fun z => absurd rfl z⟩
      rw [show g.dnAt p + 1 = 4 by omega] at C5
      have ce : Gs.at { g with dn := g.dn.set p (g.dnAt p + 1) } p = c := he.symm
      rw [ce]
      have L5 := C5.led
      unfold walkL walkO at L5
      refine FldK.of L5 (by walk_at "mem") m.C_Walk m.x_Walk_reports (v := .ref W.rl) (by walk_at "fs") ?_
      walk_at "vc"
      refine ⟨tyL (L5.lstAt (by walk_at "mem")), NewK.of L5 fun t3 H6 L6 => ?_⟩
      obtain ⟨B3, s3, ht3, L6⟩ := L6.sink
      refine AppK.of L6 (by walk_at "mem") (Nat.lt_of_le_of_lt (m := 1000001) (by rw [C.rt.1]; have := C.rn; omega) (by decide)) (by walk_at "put") fun H7 L7 => ?_
      refine NewK.of L7 fun t4 H8 L8 => ?_
      obtain ⟨B4, s4, ht4, L8⟩ := L8.sink
      rw [hr] at q
      refine q B4 H8 (.ref t4) (s3.trans s4) ⟨wf', xs, cs, rp ++ [.ref t3], ⟨?_, ?_, C.nd, ?_, by rw [ls]; exact C.ln, ?_, ?_, ?_⟩⟩ ⟨t4, rfl, ht4⟩
      · rw [e0]; exact (C.sp.mono s3).mono s4
      · exact ((C.rt.mono s3).app ht3).mono s4
      · rw [e0]; exact C.fr
      · rw [e0, ls]; exact fun c hc => Nat.le_succ_of_le (C.bd c hc)
      · rw [List.length_append, ls]
        exact Nat.succ_le_succ hrn
      · rw [e0]
        exact L8
/-! cut Walk_can_step -/
def sp_Walk_can_step (K : PySem.W.Frag) (d : Ad) : Sp := fun vs H Q _ => ∃ (B : Hp) (W : Wad) (g : Gs) (n p : Nat) (sch : List Nat) (evs : List (List V)) (l : List (Addr × HO)), vs = [.ref W.w, .int p] ∧ WalkR d B H W g n sch evs l ∧ p < n ∧ Q (.bl (decide (g.fin[p]? = some false))) H
theorem ok_Walk_can_step (m : Mo w K mg d) (sm : SM bs) (G_is_integer_within : FnOk P w K mg bs CX0 2 d.a_is_integer_within d.fd_is_integer_within ["value", "least", "greatest"] (sp_is_integer_within K)) : FnOk P w K mg bs CX0 3 d.a_Walk_can_step d.fd_Walk_can_step ["self", "process"] (sp_Walk_can_step K d) := by
  refine m.F_Walk_can_step.ok (k := 2) sc_Walk_can_step (fun vs H Q E h => ?_) (fun cdv A fr s H vs Q E hr h => ?_)
  · obtain ⟨B, W, g, n, p, sch, evs, l, rfl, ⟨wf, xs, cs, rp, C⟩, hp, q⟩ := h
    rfl
  · obtain ⟨B, W, g, n, p, sch, evs, l, rfl, ⟨wf, xs, cs, rp, C⟩, hp, q⟩ := h
    refine ⟨_, (pss_one (ps_ret (pe_and (pe_call G_is_integer_within (hr.mono (by decide)) (by rfl) m.g_is_integer_within m.F_is_integer_within.kp m.b_is_integer_within .nil pass0 (pa_cons (pv 1) (pa_cons pe_int (pa_cons (pe_op op_sub (pe_callB cr_len (by rfl) m.n_len (by decide +kernel) (pa_cons (pe_fld (pv 0) rfl) pa_nil)) pe_int) pa_nil)))) (pe_one (pe_cmpR op_isN (pe_ix ix_list (pe_fld (pv 0) rfl) (pv 1) (fun _ _ => rfl)) pe_non (nomark _)))))), ?_⟩
    have L := C.led
    unfold walkL walkO at L
    walk_at "vc"
    refine FldK.of L (by walk_at "mem") m.C_Walk m.x_Walk_names (v := .ref W.nl) (by walk_at "fs") ?_
    walk_at "vc"
    refine LenK.ofL (L.lstAt (by walk_at "mem")) ?_
    rw [Gs.names_len wf.toLn]
    walk_at "vc"
    refine ⟨_, _, _, rfl, ?_⟩
    walk_at "vc"
    rw [decide_eq_true (show (0 : Int) ≤ p by omega), decide_eq_true (show (p : Int) ≤ (n : Int) - 1 by omega)]
    walk_at "vc"
    refine FldK.of L (by walk_at "mem") m.C_Walk m.x_Walk_names (v := .ref W.nl) (by walk_at "fs") ?_
    walk_at "vc"
    refine IxLK.of (L.lstAt (by walk_at "mem")) (atI_nat' (Gs.names_at wf.toLn hp)) ?_
    have hf : p < g.fin.length := by rw [wf.lf]; exact hp
    have e : decide ((if g.fin[p]? = some true then V.int (nmC (g.at p)) else V.non) = .non) = decide (g.fin[p]? = some false) := by
      rw [List.getElem?_eq_getElem hf]
      cases g.fin[p] <;> simp
    walk_at "vc"
    rw [e]
    exact q
/-! cut perform_schedule -/
def sp_perform_schedule (K : PySem.W.Frag) (d : Ad) : Sp := fun vs H Q _ => ∃ (B : Hp) (W : Wad) (g : Gs) (n : Nat) (sch0 sch : List Nat) (evs : List (List V)) (l : List (Addr × HO)) (a : Addr), vs = [.ref W.w, .ref a] ∧ WalkR d B H W g n sch0 evs l ∧ (∀ B' H', Same B B' → Led B' H' l → SqL K H' a (nv sch)) ∧ GVal g sch ∧ sch0.length + sch.length ≤ 1000000 ∧
  ∀ B' H', Same B B' → WalkR d B' H' W (g.run sch) n (sch0 ++ sch) (evs ++ evsOf g sch) l → Q .non H'
theorem ok_perform_schedule (m : Mo w K mg d) (sm : SM bs) (G_Walk_step : FnOk P w K mg bs CX0 6 d.a_Walk_step d.fd_Walk_step ["self", "process"] (sp_Walk_step K d)) (G_Walk_can_step : FnOk P w K mg bs CX0 3 d.a_Walk_can_step d.fd_Walk_can_step ["self", "process"] (sp_Walk_can_step K d)) : FnOk P w K mg bs CX0 7 d.a_perform_schedule d.fd_perform_schedule ["run", "schedule"] (sp_perform_schedule K d) := by
  refine m.F_perform_schedule.ok (k := 6) sc_perform_schedule (fun vs H Q E h => ?_) (fun cdv A fr s H vs Q E hr h => ?_)
  · obtain ⟨B, W, g, n, sch0, sch, evs, l, a, rfl, R, ha, hv, hm, q⟩ := h
    rfl
  · obtain ⟨B, W, g, n, sch0, sch, evs, l, a, rfl, R, ha, hv, hm, q⟩ := h
    refine ⟨_, (pss_cons (ps_if (pt_not (pt_val (pe_callB cr_is (by rfl) m.n_isinstance (by decide +kernel) (pa_cons (pv 1) (pa_cons (pe_bltn (v := .ty "list") (by rfl) m.n_list (by decide +kernel) rfl) pa_nil)))))
      (pss_one ps_never)
      pss_nil)
      (pss_one (ps_for PassesOwn.never rfl (pi_list (pv 1)) (pg_name (i := 2) sc_perform_schedule.nd rfl (.inl rfl))
      (pss_cons (ps_if (pt_not (pt_val (pe_meth (pv 0) m.C_Walk m.M_Walk_can_step G_Walk_can_step (hr.mono (by decide)) m.b_Walk_can_step .nil pass0 (pa_cons (pv 2) pa_nil))))
      (pss_one ps_never)
      pss_nil)
      (pss_one (ps_expr (pe_meth (pv 0) m.C_Walk m.M_Walk_step G_Walk_step (hr.mono (by decide)) m.b_Walk_step .nil pass0 (pa_cons (pv 2) pa_nil)))))))), ?_⟩
    have lk : ∀ {B1 H1 : Hp} {g1 : Gs} {s1 : List Nat} {e1 : List (List V)}, Same B B1 → WalkR d B1 H1 W g1 n s1 e1 l → SqL K H1 a (nv sch) := by
      rintro B1 H1 g1 s1 e1 s ⟨_, _, _, _, C⟩
      exact ha _ _ s (walk_tail C.led)
    walk_at "vc"
    refine IsK.lstL (b := true) (lk (Same.refl B) R) (by decide +kernel) ?_
    walk_at "vc"
    refine ⟨⟨_, lk (Same.refl B) R⟩, ?_⟩
    refine loop_list (xs := nv sch) (fun i σ H' => ∃ y B', σ = [some (.ref W.w), some (.ref a), y] ∧ Same B B' ∧ WalkR d B' H' W (g.run (sch.take i)) n (sch0 ++ sch.take i) (evs ++ evsOf g (sch.take i)) l) ⟨_, B, rfl, Same.refl B, by
      show WalkR d B H W g n (sch0 ++ []) (evs ++ []) l
      rw [List.append_nil, List.append_nil]
      exact R⟩ (fun i σ H' _ ⟨_, _, _, s, R⟩ => lk s R) (fun i x σ H' N hx h hN => ?_) (fun σ H' h => ?_)
    · obtain ⟨y, B', rfl, sB, R⟩ := h
      obtain ⟨p, hp, rfl⟩ := nv_at hx
      have ok := hv.at hp
      have wf := R.1
      have hpn := ok.lt wf
      have il : i < sch.length := (List.getElem?_eq_some_iff.mp hp).1
      have e1 : g.run (sch.take (i + 1)) = (g.run (sch.take i)).step p := grun_take hp
      have e2 : sch.take (i + 1) = sch.take i ++ [p] := by rw [List.take_add_one, hp]; rfl
      obtain ⟨_, xs, cs, rp, C⟩ := id R
      have L := C.led
      unfold walkL walkO at L
      walk_at "vc"
      refine MtK.of L (by walk_at "mem") (by walk_at "fs") ?_
      refine ⟨B', W, _, n, p, _, _, l, rfl, R, hpn, ?_⟩
      rw [decide_eq_true (show (g.run (sch.take i)).fin[p]? = some false from ok)]
      walk_at "vc"
      refine MtK.of L (by walk_at "mem") (by walk_at "fs") ?_
      refine ⟨B', W, _, n, p, _, _, l, rfl, R, ok, by rw [List.length_append, List.length_take]; omega, fun B2 H2 v s2 R2 _ => ?_⟩
      refine hN _ _ ⟨_, B2, rfl, sB.trans s2, ?_⟩
      rw [e1, e2, evsOf_app, ← List.append_assoc, ← List.append_assoc]
      exact R2
    · obtain ⟨y, B', rfl, sB, R⟩ := h
      walk_at "vc"
      rw [List.take_of_length_le (by rw [nv_len]; omega)] at R
      exact q B' H' sB R
/-! cut walk_after -/
def sp_walk_after (K : PySem.W.Frag) (d : Ad) : Sp := fun vs H Q _ => ∃ (B : Hp) (l : List (Addr × HO)) (n : Nat) (sch : List Nat) (a : Addr), vs = [.int n, .ref a] ∧ Led B H l ∧ 1 ≤ n ∧ n ≤ 40 ∧ (∀ B' H', Same B B' → Led B' H' l → SqL K H' a (nv sch)) ∧ GVal (Gs.init n) sch ∧ sch.length ≤ 1000000 ∧
  ∀ B' H' W, Same B B' → WalkR d B' H' W ((Gs.init n).run sch) n sch (evsOf (Gs.init n) sch) l → Q (.ref W.w) H'
theorem ok_walk_after (m : Mo w K mg d) (sm : SM bs) (G_check_count : FnOk P w K mg bs CX0 3 d.a_check_count d.fd_check_count ["count", "greatest"] (sp_check_count K)) (G_Walk___init__ : FnOk P w K mg bs CX0 1 d.a_Walk___init__ d.fd_Walk___init__ ["self", "count"] (sp_Walk___init__ K d)) (G_perform_schedule : FnOk P w K mg bs CX0 7 d.a_perform_schedule d.fd_perform_schedule ["run", "schedule"] (sp_perform_schedule K d)) : FnOk P w K mg bs CX0 8 d.a_walk_after d.fd_walk_after ["count", "schedule"] (sp_walk_after K d) := by
  obtain ⟨t_GREATEST_COUNT_splitters, h_GREATEST_COUNT_splitters⟩ := m.mg_GREATEST_COUNT_splitters
  refine m.F_walk_after.ok (k := 7) sc_walk_after (fun vs H Q E h => ?_) (fun cdv A fr s H vs Q E hr h => ?_)
  · obtain ⟨B, l, n, sch, a, rfl, L, h1, hn, ha, hv, hm, q⟩ := h
    rfl
  · obtain ⟨B, l, n, sch, a, rfl, L, h1, hn, ha, hv, hm, q⟩ := h
    refine ⟨_, (pss_cons (ps_expr (pe_call G_check_count (hr.mono (by decide)) (by rfl) m.g_check_count m.F_check_count.kp m.b_check_count .nil pass0 (pa_cons (pv 0) (pa_cons (pe_glob (v := .int (40)) rfl h_GREATEST_COUNT_splitters ⟨_, rfl⟩) pa_nil))))
      (pss_cons (ps_asg (pe_make m.K_Walk G_Walk___init__ (hr.mono (by decide)) (by rfl) m.g_Walk m.b_Walk___init__ .nil pass0 (pa_cons (pv 0) pa_nil)) (pg_name (i := 2) sc_walk_after.nd rfl (.inl rfl)))
      (pss_cons (ps_expr (pe_call G_perform_schedule (hr.mono (by decide)) (by rfl) m.g_perform_schedule m.F_perform_schedule.kp m.b_perform_schedule .nil pass0 (pa_cons (pv 2) (pa_cons (pv 1) pa_nil))))
      (pss_one (ps_ret (pv 2)))))), ?_⟩
    walk_at "vc"
    refine ⟨_, _, rfl, by omega, by omega, ?_⟩
    walk_at "vc"
    refine MkK.of L fun x dx H1 L => ?_
    refine ⟨B, x, dx, n, l, rfl, hn, L, fun B2 H2 W s2 hW R => ⟨rfl, ?_⟩⟩
    subst hW
    refine ⟨B2, W, _, n, [], sch, [], l, a, rfl, R, fun B' H' s L => ha B' H' (s2.trans s) L, hv, by simpa using hm, fun B3 H3 s3 R3 => ?_⟩
    walk_at "vc"
    exact q B3 H3 W (s2.trans s3) R3
/-! cut show_schedule -/
def sp_show_schedule (K : PySem.W.Frag) : Sp := fun vs H Q _ => ∃ (a : Addr) (sch : List Nat), vs = [.ref a] ∧ SqL K H a (nv sch) ∧ (∀ p ∈ sch, p < 100) ∧ sch.length ≤ 200000 ∧ ∀ H', Same H H' → Q (.str (rowT sch)) H'
theorem ok_show_schedule (m : Mo w K mg d) (sm : SM bs) : FnOk P w K mg bs CX0 1 d.a_show_schedule d.fd_show_schedule ["schedule"] (sp_show_schedule K) := by
  obtain ⟨t_EMPTY_SCHEDULE, h_EMPTY_SCHEDULE⟩ := m.mg_EMPTY_SCHEDULE
  refine m.F_show_schedule.ok (k := 0) sc_show_schedule (fun vs H Q E h => ?_) (fun cdv A fr s H vs Q E hr h => ?_)
  · obtain ⟨a, sch, rfl, hS, hb, hl, q⟩ := h
    rfl
  · obtain ⟨a, sch, rfl, hS, hb, hl, q⟩ := h
    refine ⟨_, (pss_cons (ps_if (pt_cmpR (op_eqL hr.units) (pv 0) (pe_lst pa_nil) (nomark _))
      (pss_one (ps_ret (pe_glob (v := .str "-") rfl h_EMPTY_SCHEDULE ⟨_, rfl⟩)))
      pss_nil)
      (pss_one (ps_ret (pe_bm PySem.F.plainAttrs_str PySem.F.slot_str_join PySem.F.type_str_join mt_joinS pe_str (pa_cons (pe_lc (own := [("process", 1)]) (by rfl) sc_show_schedule.nd (pi_list (pv 0)) (blkOk_by (own := [("process", 1)]) (N := ["schedule", "process"]) (sc := defScope s_show_schedule) (by decide +kernel)) (fun _ _ _ _ _ => by exact (pg_name (i := 1) sc_show_schedule.nd rfl (.inl rfl))) (fun _ _ _ _ _ => by exact pts_nil) (fun _ _ _ _ _ => by exact (pe_callTy (show CallR _ _ rStrI from cr_strI) (by rfl) m.n_str (by decide +kernel) (pa_cons (pv 1) pa_nil)))) pa_nil))))), ?_⟩
    walk_at "vc"
    refine NewK.of (Led.nil H) fun e0 H1 L => ?_
    refine EqL0 (L.seq hS) (L.lstAt (by walk_at "mem")) ?_
    by_cases h0 : sch = []
    · subst h0
      rw [show (nv []).isEmpty = true from rfl]
      walk_at "vc"
      exact q _ L.sm
    · rw [show (nv sch).isEmpty = false from by cases sch with | nil => exact (h0 rfl).elim | cons _ _ => rfl]
      walk_at "vc"
      refine ⟨⟨_, L.seq hS⟩, ?_⟩
      refine comp_list (xs := nv sch) (fun j z acc H' => acc = ((sch.take j).map nT).map V.str ∧ Led H H' [(z, .lst acc), (e0, .lst [])]) (fun z hz => ⟨rfl, L.new hz⟩) (fun j z acc H' h => h.2.seq hS) ?_ ?_
      · rintro z acc H2 ⟨rfl, L⟩
        rw [nv_len, List.take_of_length_le (Nat.le_refl _)] at L
        have hb2 : ∀ p ∈ sch, p < 10 ^ 40 := fun p hp => Nat.lt_trans (hb p hp) (by decide +kernel)
        have hsum : ((sch.map nT).map (·.length)).sum ≤ sch.length * 2 := by
          clear hS q h0 hl L
          induction sch with
          | nil => exact Nat.le_refl _
          | cons p r ih =>
            have h1 := nT_len (k := 2) (by decide) (show p < 10 ^ 2 from hb p List.mem_cons_self)
            have h2 := ih (fun p hp => hb p (List.mem_cons_of_mem _ hp)) (fun p hp => hb2 p (List.mem_cons_of_mem _ hp))
            simp only [List.map_cons, List.sum_cons, List.length_cons] at h2 ⊢
            omega
        walk_at "vc"
        refine ⟨sch.map nT, Or.inl (L.lstAt (by walk_at "mem")), ?_, ?_⟩
        · rw [List.length_map, show (Str.ofString ",").length = 1 from rfl]
          omega
        · rw [show Txt.join (Str.ofString ",") (sch.map nT) = rowT sch from (if_neg h0).symm]
          exact q _ L.sm
      · rintro j z acc H2 x N hx ⟨rfl, L⟩ hN
        obtain ⟨p, hp, rfl⟩ := nv_at hx
        have hpb := hb p (List.mem_of_getElem? hp)
        have hjl : j < sch.length := (List.getElem?_eq_some_iff.mp hp).1
        unfold TurnK
        walk_at "vc"
        refine ⟨Nat.lt_of_lt_of_le (PySem.Flt.log2_lt_of (k := 140) (by decide) (by rw [Int.natAbs_natCast]; exact Nat.lt_trans hpb (by decide +kernel))) (by decide), ?_⟩
        refine AppK.of L (by walk_at "mem") (Nat.lt_of_lt_of_le (m := 200001) (by rw [List.length_map, List.length_map, List.length_take]; omega) (by decide)) (by walk_at "put") fun H4 L => hN _ _ ⟨?_, L⟩
        rw [List.take_add_one, hp, List.map_append, List.map_append]
        rfl
/-! cut show_run -/
def sp_show_run (K : PySem.W.Frag) : Sp := fun vs H Q _ => ∃ (B : Hp) (l : List (Addr × HO)) (n : Nat) (sch : List Nat) (a : Addr), vs = [.int n, .ref a] ∧ Led B H l ∧ 1 ≤ n ∧ n ≤ 40 ∧ (∀ B' H', Same B B' → Led B' H' l → SqL K H' a (nv sch)) ∧ GVal (Gs.init n) sch ∧ sch.length ≤ 30000 ∧
  ∀ B' H', Same B B' → Led B' H' l → Q (.str (runT n sch)) H'
theorem ok_show_run (m : Mo w K mg d) (sm : SM bs) (G_walk_after : FnOk P w K mg bs CX0 8 d.a_walk_after d.fd_walk_after ["count", "schedule"] (sp_walk_after K d)) (G_show_schedule : FnOk P w K mg bs CX0 1 d.a_show_schedule d.fd_show_schedule ["schedule"] (sp_show_schedule K)) : FnOk P w K mg bs CX0 9 d.a_show_run d.fd_show_run ["count", "schedule"] (sp_show_run K) := by
  refine m.F_show_run.ok (k := 8) sc_show_run (fun vs H Q E h => ?_) (fun cdv A fr s H vs Q E hr h => ?_)
  · obtain ⟨B, l, n, sch, a, rfl, L, h1, hn, ha, hv, hl, q⟩ := h
    rfl
  · obtain ⟨B, l, n, sch, a, rfl, L, h1, hn, ha, hv, hl, q⟩ := h
    refine ⟨_, (pss_cons (ps_expr (pe_call G_walk_after (hr.mono (by decide)) (by rfl) m.g_walk_after m.F_walk_after.kp m.b_walk_after .nil pass0 (pa_cons (pv 0) (pa_cons (pv 1) pa_nil))))
      (pss_one (ps_ret (pe_joined (.cons (pe_fmt (pv 0)) (.cons pe_str (.cons (pe_fmt (pe_call G_show_schedule (hr.mono (by decide)) (by rfl) m.g_show_schedule m.F_show_schedule.kp m.b_show_schedule .nil pass0 (pa_cons (pv 1) pa_nil))) .nil))))))), ?_⟩
    have hs := gval_small hn hv
    walk_at "vc"
    refine ⟨B, l, n, sch, a, rfl, L, h1, hn, ha, hv, by omega, fun B1 H1 W s1 R => ?_⟩
    obtain ⟨wf, xs, cs, rp, C⟩ := R
    have L := walk_tail C.led
    walk_at "vc"
    refine FmtK.int (Nat.lt_trans (m := 2 ^ 40) (by omega) (by decide +kernel)) ?_
    have e0 : Str.ofString (toString (n : Int)) = nT n := rfl
    rw [e0]
    have hnl := nT_len (k := 2) (by decide) (show n < 10 ^ 2 by omega)
    have hrl := row_len hs hl
    refine JoK.of (by rw [show Str.empty.length = 0 from rfl]; omega) ?_
    refine JoK.of (by rw [strLen_append, show Str.empty.length = 0 from rfl, show (Str.ofString " ").length = 1 from rfl]; omega) ?_
    refine ⟨a, sch, rfl, ha _ _ s1 L, hs, by omega, fun H2 s2 => ?_⟩
    walk_at "vc"
    refine Or.inl ⟨rowT sch, rfl, Nat.le_trans (m := 700000) (by omega) (by decide), ?_⟩
    refine JoK.of (by rw [strLen_append, strLen_append, show Str.empty.length = 0 from rfl, show (Str.ofString " ").length = 1 from rfl]; omega) ?_
    have e : Str.empty ++ nT n ++ Str.ofString " " ++ rowT sch = runT n sch := run_cat (by
      rw [TL.tl_append, TL.tl_append, TL.tl_append, show TL.tl Str.empty = [] from rfl, sp1_tl, List.nil_append, List.append_assoc])
    rw [e]
    exact q B1 H2 s1 (L.same s2)
/-! cut Run_names_now -/
def sp_Run_names_now (K : PySem.W.Frag) (d : Ad) : Sp := fun vs H Q _ => ∃ (B : Hp) (R : Rad) (n : Nat) (sch mks : List Nat) (l : List (Addr × HO)), vs = [.ref R.r] ∧ RunR d B H R n sch mks l ∧ ∀ H' p, RunR d B H' R n sch mks ((p, .lst ((Gs.init n).run sch).names) :: l) → Q (.ref p) H'
theorem ok_Run_names_now (m : Mo w K mg d) (sm : SM bs) : FnOk P w K mg bs CX0 1 d.a_Run_names_now d.fd_Run_names_now ["self"] (sp_Run_names_now K d) := by
  refine m.F_Run_names_now.ok (k := 0) sc_Run_names_now (fun vs H Q E h => ?_) (fun cdv A fr s H vs Q E hr h => ?_)
  · obtain ⟨B, R, n, sch, mks, l, rfl, ⟨hv, W, wf, xs, cs, rp, C⟩, q⟩ := h
    rfl
  · obtain ⟨B, R, n, sch, mks, l, rfl, ⟨hv, W, wf, xs, cs, rp, C⟩, q⟩ := h
    refine ⟨_, (pss_one (ps_ret (pe_callTy cr_listOf (by rfl) m.n_list (by decide +kernel) (pa_cons (pe_fld (pe_fld (pv 0) rfl) rfl) pa_nil)))), ?_⟩
    have L := walk_front.mp C.led
    unfold runO at L
    walk_at "vc"
    refine FldK.of L (by walk_at "mem") m.C_Run m.x_Run__walk (v := .ref W.w) (by walk_at "fs") ?_
    walk_at "vc"
    have LW := C.led
    unfold walkL walkO at LW
    refine FldK.of LW (by walk_at "mem") m.C_Walk m.x_Walk_names (v := .ref W.nl) (by walk_at "fs") ?_
    walk_at "vc"
    refine ⟨((Gs.init n).run sch).names, Or.inl (LW.lstAt (by walk_at "mem")), NewK.of L fun p H1 L => ?_⟩
    refine q H1 p ⟨hv, W, wf, xs, cs, rp, ⟨C.sp, C.rt, C.nd, C.fr, C.ln, C.bd, C.rn, walk_front.mpr ?_⟩⟩
    unfold runO
    exact L.sel (.cons (.tl .hd) (.cons (.tl .hd) .all))
/-! cut Run_places_now -/
def placesV (g : Gs) : List (List V) := (g.pos.zip g.dn).map fun e => [.int (nmC e.1), .int (e.2 : Int)]
theorem placesV_len {g : Gs} {n : Nat} (wf : g.Ln n) : (placesV g).length = n := by unfold placesV; rw [List.length_map, List.length_zip, wf.lp, wf.ld]; omega
def sp_Run_places_now (K : PySem.W.Frag) (d : Ad) : Sp := fun vs H Q _ => ∃ (B : Hp) (R : Rad) (n : Nat) (sch mks : List Nat) (l : List (Addr × HO)), vs = [.ref R.r] ∧ RunR d B H R n sch mks l ∧ n ≤ 40 ∧ sch.length ≤ 1000000 ∧ ∀ B' H' p out, Same B B' → RunR d B' H' R n sch mks ((p, .lst out) :: l) → Tups B' out (placesV ((Gs.init n).run sch)) → Q (.ref p) H'
theorem ok_Run_places_now (m : Mo w K mg d) (sm : SM bs) (G_name_of : FnOk P w K mg bs CX0 4 d.a_name_of d.fd_name_of ["right", "down"] (sp_name_of K)) : FnOk P w K mg bs CX0 5 d.a_Run_places_now d.fd_Run_places_now ["self"] (sp_Run_places_now K d) := by
  refine m.F_Run_places_now.ok (k := 4) sc_Run_places_now (fun vs H Q E h => ?_) (fun cdv A fr s H vs Q E hr h => ?_)
  · obtain ⟨B, R, n, sch, mks, l, rfl, RR, hn, hm, q⟩ := h
    rfl
  · obtain ⟨B, R, n, sch, mks, l, rfl, RR, hn, hm, q⟩ := h
    refine ⟨_, (pss_cons (ps_asg (pe_fld (pv 0) rfl) (pg_name (i := 1) sc_Run_places_now.nd rfl (.inl rfl)))
      (pss_one (ps_ret (pe_lc (own := [("done", 2), ("right", 3), ("down", 4)]) (by rfl) sc_Run_places_now.nd (pi_zip (by rfl) m.n_zip (pa_cons (pe_fld (pv 1) rfl) (pa_cons (pe_fld (pv 1) rfl) pa_nil))) (blkOk_by (own := [("done", 2), ("right", 3), ("down", 4)]) (N := ["self", "walk", "done", "right", "down"]) (sc := defScope s_Run_places_now) (by decide +kernel)) (fun _ _ _ _ _ => by exact (show PG _ _ (gTup K 2 _) from pg_tup (by rfl) (pgs_cons (show PG _ _ (gTup K 2 _) from pg_tup (by rfl) (pgs_cons (pg_name (i := 3) sc_Run_places_now.nd rfl (.inl rfl)) (pgs_cons (pg_name (i := 4) sc_Run_places_now.nd rfl (.inl rfl)) pgs_nil))) (pgs_cons (pg_name (i := 2) sc_Run_places_now.nd rfl (.inl rfl)) pgs_nil)))) (fun _ _ _ _ _ => by exact pts_nil) (fun _ _ _ _ _ => by exact (pe_tup (pa_cons (pe_call G_name_of (hr.mono (by decide)) (by rfl) m.g_name_of m.F_name_of.kp m.b_name_of .nil pass0 (pa_cons (pv 3) (pa_cons (pv 4) pa_nil))) (pa_cons (pv 2) pa_nil)))))))), ?_⟩
    obtain ⟨hv, W, wf, xs, cs, rp, C⟩ := RR
    have L := walk_front.mp C.led
    unfold runO at L
    walk_at "vc"
    refine FldK.of L (by walk_at "mem") m.C_Run m.x_Run__walk (v := .ref W.w) (by walk_at "fs") ?_
    walk_at "vc"
    have LW := C.led
    unfold walkL walkO at LW
    refine FldK.of LW (by walk_at "mem") m.C_Walk m.x_Walk_places (v := .ref W.pl) (by walk_at "fs") ?_
    refine FldK.of LW (by walk_at "mem") m.C_Walk m.x_Walk_done (v := .ref W.dl) (by walk_at "fs") ?_
    refine ⟨_, rfl, _, rfl, ⟨xs, LW.lstAt (by walk_at "mem")⟩, ⟨_, LW.lstAt (xs := nv ((Gs.init n).run sch).dn) (by walk_at "mem")⟩, ?_⟩
    have hxl : xs.length = n := by rw [C.sp.1, List.length_map]; exact wf.lp
    have hpl := placesV_len wf.toLn
    have sq : ∀ {B' H' : Hp} {z : Addr} {o : HO}, Led B' H' ((z, o) :: (runO d R W :: (R.ml, .lst (nv mks)) :: l ++ walkL d W ((Gs.init n).run sch) xs cs sch rp [])) → SqL K H' W.pl xs ∧ SqL K H' W.dl (nv ((Gs.init n).run sch).dn) := fun L => by
      have LW := walk_front.mpr (L.sel (.skip .all))
      unfold walkL walkO at LW
      exact ⟨LW.lstAt (by walk_at "mem"), LW.lstAt (by walk_at "mem")⟩
    refine comp_zip (xs := xs) (ys := nv ((Gs.init n).run sch).dn) (by rw [nv_len, wf.ld]; exact hxl) (fun j z acc H' => ∃ B', Same B B' ∧ Tups B' acc ((placesV ((Gs.init n).run sch)).take j) ∧ Led B' H' ((z, .lst acc) :: (runO d R W :: (R.ml, .lst (nv mks)) :: l ++ walkL d W ((Gs.init n).run sch) xs cs sch rp []))) (fun z hz => ⟨B, Same.refl B, by rw [List.take_zero]; exact Tups.nil _, L.new hz⟩) (fun j z acc H' ⟨_, _, _, L⟩ => sq L) ?_ ?_
    · rintro z acc H2 ⟨B2, s2, ta, L⟩
      rw [List.take_of_length_le (by omega)] at ta
      refine q B2 H2 z acc s2 ⟨hv, W, wf, xs, cs, rp, ⟨C.sp.mono s2, C.rt.mono s2, C.nd, C.fr, C.ln, C.bd, C.rn, walk_front.mpr ?_⟩⟩ ta
      exact L.sel (.cons (.tl .hd) (.cons (.tl .hd) .all))
    · rintro j z acc H2 x y N hx hy ⟨B2, s2, ta, L⟩ hN
      have hj : j < n := by have := (List.getElem?_eq_some_iff.mp hx).1; omega
      obtain ⟨t, hx2, ht⟩ := C.sp.spot wf.toLn hj
      rw [hx] at hx2
      cases hx2
      obtain ⟨dj, hdj, rfl⟩ := nv_at hy
      have hb0 := C.bd _ (List.mem_of_getElem? (Gs.at_get wf.toLn hj))
      have hat : (placesV ((Gs.init n).run sch))[j]? = some [.int (nmC (((Gs.init n).run sch).at j)), .int (dj : Int)] := by
        unfold placesV
        rw [List.getElem?_map, (List.getElem?_zip_eq_some (z := (((Gs.init n).run sch).at j, dj))).mpr ⟨Gs.at_get wf.toLn hj, hdj⟩]
        rfl
      refine NewK.of L fun t2 H3 L => ?_
      unfold TurnK
      walk_at "vc"
      refine UnpK.of (L.tupAt (by walk_at "mem")) rfl ?_
      walk_at "vc"
      refine UnpK.of (.inl (.inl (L.sm _ _ (s2 _ _ ht)))) rfl ?_
      unfold cellV
      walk_at "vc"
      refine ⟨_, _, rfl, by omega, by omega, by omega, by omega, ?_⟩
      walk_at "vc"
      refine NewK.of L fun t3 H4 L => ?_
      obtain ⟨B3, s3, ht3, L⟩ := L.sink
      have hac : acc.length = j := by rw [ta.1, List.length_take]; omega
      refine AppK.of L (by walk_at "mem") (Nat.lt_of_lt_of_le (m := 100) (by omega) (by decide)) (by walk_at "put") fun H5 L => hN _ _ ⟨B3, s2.trans s3, ?_, L.sel (.skip .all)⟩
      rw [List.take_add_one, hat]
      exact (ta.mono s3).app ht3
/-! cut Run_process_count -/
def sp_Run_process_count (K : PySem.W.Frag) (d : Ad) : Sp := fun vs H Q _ => ∃ (B : Hp) (R : Rad) (n : Nat) (sch mks : List Nat) (l : List (Addr × HO)), vs = [.ref R.r] ∧ RunR d B H R n sch mks l ∧ Q (.int (n : Int)) H
theorem ok_Run_process_count (m : Mo w K mg d) (sm : SM bs) : FnOk P w K mg bs CX0 1 d.a_Run_process_count d.fd_Run_process_count ["self"] (sp_Run_process_count K d) := by
  refine m.F_Run_process_count.ok (k := 0) sc_Run_process_count (fun vs H Q E h => ?_) (fun cdv A fr s H vs Q E hr h => ?_)
  · obtain ⟨B, R, n, sch, mks, l, rfl, ⟨hv, W, wf, xs, cs, rp, C⟩, q⟩ := h
    rfl
  · obtain ⟨B, R, n, sch, mks, l, rfl, ⟨hv, W, wf, xs, cs, rp, C⟩, q⟩ := h
    refine ⟨_, (pss_one (ps_ret (pe_callB cr_len (by rfl) m.n_len (by decide +kernel) (pa_cons (pe_fld (pe_fld (pv 0) rfl) rfl) pa_nil)))), ?_⟩
    have L := walk_front.mp C.led
    unfold runO at L
    walk_at "vc"
    refine FldK.of L (by walk_at "mem") m.C_Run m.x_Run__walk (v := .ref W.w) (by walk_at "fs") ?_
    walk_at "vc"
    have LW := C.led
    unfold walkL walkO at LW
    refine FldK.of LW (by walk_at "mem") m.C_Walk m.x_Walk_names (v := .ref W.nl) (by walk_at "fs") ?_
    walk_at "vc"
    refine LenK.ofL (LW.lstAt (by walk_at "mem")) ?_
    rw [Gs.names_len wf.toLn]
    exact q
/-! cut Run_steps_done -/
def sp_Run_steps_done (K : PySem.W.Frag) (d : Ad) : Sp := fun vs H Q _ => ∃ (B : Hp) (R : Rad) (n : Nat) (sch mks : List Nat) (l : List (Addr × HO)), vs = [.ref R.r] ∧ RunR d B H R n sch mks l ∧ ∀ H' p, RunR d B H' R n sch mks ((p, .lst (nv sch)) :: l) → Q (.ref p) H'
theorem ok_Run_steps_done (m : Mo w K mg d) (sm : SM bs) : FnOk P w K mg bs CX0 1 d.a_Run_steps_done d.fd_Run_steps_done ["self"] (sp_Run_steps_done K d) := by
  refine m.F_Run_steps_done.ok (k := 0) sc_Run_steps_done (fun vs H Q E h => ?_) (fun cdv A fr s H vs Q E hr h => ?_)
  · obtain ⟨B, R, n, sch, mks, l, rfl, ⟨hv, W, wf, xs, cs, rp, C⟩, q⟩ := h
    rfl
  · obtain ⟨B, R, n, sch, mks, l, rfl, ⟨hv, W, wf, xs, cs, rp, C⟩, q⟩ := h
    refine ⟨_, (pss_one (ps_ret (pe_callTy cr_listOf (by rfl) m.n_list (by decide +kernel) (pa_cons (pe_fld (pe_fld (pv 0) rfl) rfl) pa_nil)))), ?_⟩
    have L := walk_front.mp C.led
    unfold runO at L
    walk_at "vc"
    refine FldK.of L (by walk_at "mem") m.C_Run m.x_Run__walk (v := .ref W.w) (by walk_at "fs") ?_
    walk_at "vc"
    have LW := C.led
    unfold walkL walkO at LW
    refine FldK.of LW (by walk_at "mem") m.C_Walk m.x_Walk_steps (v := .ref W.sl) (by walk_at "fs") ?_
    walk_at "vc"
    refine ⟨nv sch, Or.inl (LW.lstAt (by walk_at "mem")), NewK.of L fun p H1 L => ?_⟩
    refine q H1 p ⟨hv, W, wf, xs, cs, rp, ⟨C.sp, C.rt, C.nd, C.fr, C.ln, C.bd, C.rn, walk_front.mpr ?_⟩⟩
    unfold runO
    exact L.sel (.cons (.tl .hd) (.cons (.tl .hd) .all))
/-! cut Run__return_to -/
def sp_Run__return_to (K : PySem.W.Frag) (d : Ad) : Sp := fun vs H Q _ => ∃ (B : Hp) (R : Rad) (n : Nat) (sch mks : List Nat) (l : List (Addr × HO)) (k : Nat), vs = [.ref R.r, .int (k : Int)] ∧ RunR d B H R n sch mks l ∧ 1 ≤ n ∧ n ≤ 40 ∧ sch.length ≤ 1000000 ∧ ∀ B' H', Same B B' → RunR d B' H' R n (sch.take k) mks l → Q .non H'
theorem ok_Run__return_to (m : Mo w K mg d) (sm : SM bs) (G_walk_after : FnOk P w K mg bs CX0 8 d.a_walk_after d.fd_walk_after ["count", "schedule"] (sp_walk_after K d)) (G_Run_process_count : FnOk P w K mg bs CX0 1 d.a_Run_process_count d.fd_Run_process_count ["self"] (sp_Run_process_count K d)) : FnOk P w K mg bs CX0 9 d.a_Run__return_to d.fd_Run__return_to ["self", "mark"] (sp_Run__return_to K d) := by
  refine m.F_Run__return_to.ok (k := 8) sc_Run__return_to (fun vs H Q E h => ?_) (fun cdv A fr s H vs Q E hr h => ?_)
  · obtain ⟨B, R, n, sch, mks, l, k, rfl, RR, h1, hn, hm, q⟩ := h
    rfl
  · obtain ⟨B, R, n, sch, mks, l, k, rfl, RR, h1, hn, hm, q⟩ := h
    refine ⟨_, (pss_one (ps_if (pt_cmpR op_lt (pv 1) (pe_callB cr_len (by rfl) m.n_len (by decide +kernel) (pa_cons (pe_fld (pe_fld (pv 0) rfl) rfl) pa_nil)) (nomark _))
      (pss_one (ps_fld (pv 0) (pe_call G_walk_after (hr.mono (by decide)) (by rfl) m.g_walk_after m.F_walk_after.kp m.b_walk_after .nil pass0 (pa_cons (pe_prop (pv 0) m.C_Run m.P_Run_process_count G_Run_process_count (hr.mono (by decide)) m.b_Run_process_count .nil pass0 rfl) (pa_cons (pe_slice sl_list (pe_fld (pe_fld (pv 0) rfl) rfl) po_none (po_some (pv 1))) pa_nil))) rfl))
      pss_nil)), ?_⟩
    obtain ⟨hv, W, wf, xs, cs, rp, C⟩ := id RR
    have L := walk_front.mp C.led
    unfold runO at L
    walk_at "vc"
    refine FldK.of L (by walk_at "mem") m.C_Run m.x_Run__walk (v := .ref W.w) (by walk_at "fs") ?_
    walk_at "vc"
    have LW := C.led
    unfold walkL walkO at LW
    refine FldK.of LW (by walk_at "mem") m.C_Walk m.x_Walk_steps (v := .ref W.sl) (by walk_at "fs") ?_
    walk_at "vc"
    refine LenK.ofL (LW.lstAt (by walk_at "mem")) ?_
    rw [nv_len]
    split
    · rename_i hk
      refine PropK.of L (by walk_at "mem") ?_
      refine ⟨B, R, n, sch, mks, l, rfl, RR, ?_⟩
      refine FldK.of L (by walk_at "mem") m.C_Run m.x_Run__walk (v := .ref W.w) (by walk_at "fs") ?_
      walk_at "vc"
      refine FldK.of LW (by walk_at "mem") m.C_Walk m.x_Walk_steps (v := .ref W.sl) (by walk_at "fs") ?_
      walk_at "vc"
      refine ⟨nv sch, LW.lstAt (by walk_at "mem"), ?_⟩
      rw [cut_take (α := Nat), nv_take]
      refine NewK.of L fun sl H1 L => ?_
      refine ⟨B, (sl, .lst (nv (sch.take k))) :: (R.r, .ins d.c_Run R.dx [("_walk", .ref W.w), ("_marks", .ref R.ml)]) :: (R.ml, .lst (nv mks)) :: l, n, sch.take k, sl, rfl, L.subl (List.sublist_append_left _ _), h1, hn, fun B' H' s L => L.lstAt (List.Mem.head _), hv.take k, by rw [List.length_take]; omega, fun B2 H2 W2 s2 R2 => ?_⟩
      obtain ⟨wf2, xs2, cs2, rp2, C2⟩ := R2
      have L := walk_front.mp C2.led
      walk_at "vc"
      refine StK.of L (by walk_at "mem") m.C_Run m.x_Run__walk (fs' := [("_walk", .ref W2.w), ("_marks", .ref R.ml)]) (by walk_at "fs") (by walk_at "put") fun H3 L => ?_
      exact q B2 H3 s2 ⟨hv.take k, W2, wf2, xs2, cs2, rp2, ⟨C2.sp, C2.rt, C2.nd, C2.fr, C2.ln, C2.bd, C2.rn, walk_front.mpr (L.sel (.skip .all))⟩⟩
    · rename_i hk
      have e : sch.take k = sch := List.take_of_length_le (by omega)
      rw [e] at q
      exact q B H (Same.refl B) RR
/-! cut Run_undo -/
def sp_Run_undo (K : PySem.W.Frag) (d : Ad) : Sp := fun vs H Q _ => ∃ (B : Hp) (R : Rad) (n : Nat) (sch mks : List Nat) (k : Nat) (l : List (Addr × HO)), vs = [.ref R.r] ∧ RunR d B H R n sch (mks ++ [k]) l ∧ 1 ≤ n ∧ n ≤ 40 ∧ sch.length ≤ 1000000 ∧ mks.length ≤ 1000000 ∧ ∀ B' H', Same B B' → RunR d B' H' R n (sch.take k) mks l → Q .non H'
theorem ok_Run_undo (m : Mo w K mg d) (sm : SM bs) (G_Run__return_to : FnOk P w K mg bs CX0 9 d.a_Run__return_to d.fd_Run__return_to ["self", "mark"] (sp_Run__return_to K d)) : FnOk P w K mg bs CX0 10 d.a_Run_undo d.fd_Run_undo ["self"] (sp_Run_undo K d) := by
  refine m.F_Run_undo.ok (k := 9) sc_Run_undo (fun vs H Q E h => ?_) (fun cdv A fr s H vs Q E hr h => ?_)
  · obtain ⟨B, R, n, sch, mks, k, l, rfl, RR, h1, hn, hm, hml, q⟩ := h
    rfl
  · obtain ⟨B, R, n, sch, mks, k, l, rfl, RR, h1, hn, hm, hml, q⟩ := h
    refine ⟨_, (pss_cons (ps_if (pt_cmpR (op_eqL hr.units) (pe_fld (pv 0) rfl) (pe_lst pa_nil) (nomark _))
      (pss_one ps_never)
      pss_nil)
      (pss_one (ps_expr (pe_meth (pv 0) m.C_Run m.M_Run__return_to G_Run__return_to (hr.mono (by decide)) m.b_Run__return_to .nil pass0 (pa_cons (pe_bm0 PySem.F.plainAttrs_list PySem.F.slot_list_pop PySem.F.type_list_pop mt_pop (pe_fld (pv 0) rfl)) pa_nil))))), ?_⟩
    obtain ⟨W, xs, cs, rp, L, back⟩ := RR.split
    unfold runO at L
    walk_at "vc"
    refine FldK.of L (by walk_at "mem") m.C_Run m.x_Run__marks (v := .ref R.ml) (by walk_at "fs") ?_
    walk_at "vc"
    refine NewK.of L fun e0 H3 L => ?_
    refine EqL0 (L.lstAt (xs := nv (mks ++ [k])) (by walk_at "mem")) (L.lstAt (by walk_at "mem")) ?_
    rw [show (nv (mks ++ [k])).isEmpty = false from by rw [nv_app]; cases nv mks <;> rfl]
    walk_at "vc"
    refine MtK.of L (by walk_at "mem") (by walk_at "fs") ?_
    refine FldK.of L (by walk_at "mem") m.C_Run m.x_Run__marks (v := .ref R.ml) (by walk_at "fs") ?_
    refine ⟨tyL (L.lstAt (xs := nv (mks ++ [k])) (by walk_at "mem")), ?_⟩
    refine ⟨R.ml, nv (mks ++ [k]), .int (k : Int), rfl, rfl, L.at (by walk_at "mem"), by rw [nv_app, List.length_append]; simp, ?_⟩
    rw [show (nv (mks ++ [k])).dropLast = nv mks from by rw [nv_app, List.dropLast_concat]]
    have L := L.put (p := R.ml) (o' := .lst (nv mks)) (by walk_at "put")
    refine ⟨B, R, n, sch, mks, l, k, rfl, back _ _ mks (Same.refl B) (L.sel (.skip .all)), h1, hn, hm, fun B' H' s RR => q B' H' s RR⟩
/-! cut Run___init__ -/
def sp_Run___init__ (K : PySem.W.Frag) (d : Ad) : Sp := fun vs H Q _ => ∃ (B : Hp) (r dx : Addr) (n : Nat) (l : List (Addr × HO)), vs = [.ref r, .int n] ∧ 1 ≤ n ∧ n ≤ 40 ∧ Led B H ((r, .ins d.c_Run dx []) :: l) ∧ ∀ B' H' R, Same B B' → R.r = r → RunR d B' H' R n [] [] l → Q .non H'
theorem ok_Run___init__ (m : Mo w K mg d) (sm : SM bs) (G_walk_after : FnOk P w K mg bs CX0 8 d.a_walk_after d.fd_walk_after ["count", "schedule"] (sp_walk_after K d)) : FnOk P w K mg bs CX0 9 d.a_Run___init__ d.fd_Run___init__ ["self", "count"] (sp_Run___init__ K d) := by
  refine m.F_Run___init__.ok (k := 8) sc_Run___init__ (fun vs H Q E h => ?_) (fun cdv A fr s H vs Q E hr h => ?_)
  · obtain ⟨B, r0, dx, n, l, rfl, h1, hn, L, q⟩ := h
    rfl
  · obtain ⟨B, r0, dx, n, l, rfl, h1, hn, L, q⟩ := h
    refine ⟨_, (pss_cons (ps_fld (pv 0) (pe_call G_walk_after (hr.mono (by decide)) (by rfl) m.g_walk_after m.F_walk_after.kp m.b_walk_after .nil pass0 (pa_cons (pv 1) (pa_cons (pe_lst pa_nil) pa_nil))) rfl)
      (pss_one (ps_fld (pv 0) (pe_lst pa_nil) rfl))), ?_⟩
    walk_at "vc"
    refine NewK.of L fun e H1 L => ?_
    refine ⟨B, _, n, [], e, rfl, L, h1, hn, fun B' H' s L => L.lstAt (List.Mem.head _), trivial, by decide, fun B2 H2 W s2 R => ?_⟩
    obtain ⟨wf, xs, cs, rp, C⟩ := R
    have L := walk_front.mp C.led
    walk_at "vc"
    refine StK.of L (by walk_at "mem") m.C_Run m.x_Run__walk (fs' := [("_walk", .ref W.w)]) (by walk_at "fs") (by walk_at "put") fun H3 L => ?_
    refine NewK.of L fun mk H4 L => ?_
    refine StK.of L (by walk_at "mem") m.C_Run m.x_Run__marks (fs' := [("_walk", .ref W.w), ("_marks", .ref mk)]) (by walk_at "fs") (by walk_at "put") fun H5 L => ?_
    refine q B2 H5 ⟨r0, dx, mk⟩ s2 rfl ⟨trivial, W, wf, xs, cs, rp, ⟨C.sp, C.rt, C.nd, C.fr, C.ln, C.bd, C.rn, walk_front.mpr ?_⟩⟩
    exact L.sel (.cons (.tl (.tl .hd)) (.cons .hd (.skip .all)))
/-! cut Run_finish -/
/-- p, alone, has been first in its cell -/
def Gs.Own (g : Gs) (p : Nat) : Prop := g.dnAt p = 0 ∨ g.x (g.at p) = some p
instance (g : Gs) (p : Nat) : Decidable (g.Own p) := inferInstanceAs (Decidable (_ ∨ _))
/-- the closed cells lie within S, so p alone comes to an end -/
def Gs.Solo (g : Gs) (p S : Nat) : Prop := (g.Own p ∧ g.dnAt p = 3) ∨ ((∀ c, g.y c = true → c.1 + c.2 ≤ S) ∧ (¬ g.Own p → (g.at p).1 + (g.at p).2 ≤ S))
def Gs.soloM (g : Gs) (p S : Nat) : Nat := 4 * (S + 1 - (g.at p).1) + (4 - g.dnAt p) + if g.Own p then 0 else 8
theorem getD_setp {α : Type} {l : List α} {p : Nat} {v d : α} (h : p < l.length) : (l.set p v).getD p d = v := by
  rw [List.getD_eq_getElem?_getD, List.getElem?_set_self h]; rfl
theorem Gs.Solo.step {g : Gs} {n p S : Nat} (wf : g.Wf n) (ok : g.Ok p) (h : g.Solo p S) : ¬ (g.step p).Ok p ∨ ((g.step p).Ok p ∧ (g.step p).Solo p S ∧ (g.step p).soloM p S < g.soloM p S) := by
  have hp := ok.lt wf
  have h1 : p < g.pos.length := by rw [wf.lp]; exact hp
  have h2 : p < g.dn.length := by rw [wf.ld]; exact hp
  have h3 : p < g.fin.length := by rw [wf.lf]; exact hp
  have d3 := wf.d3 p ok
  by_cases a : g.dnAt p = 1 ∧ g.y (g.at p) = true
  · have er : g.res p = .right ((g.at p).1 + 1, (g.at p).2) := by unfold Gs.res; rw [if_pos a]
    have e0 : g.step p = { g with pos := g.pos.set p ((g.at p).1 + 1, (g.at p).2), dn := g.dn.set p 0 } := by unfold Gs.step; rw [er]
    have ea : (g.step p).at p = ((g.at p).1 + 1, (g.at p).2) := by rw [e0]; exact getD_setp h1
    have ed : (g.step p).dnAt p = 0 := by rw [e0]; exact getD_setp h2
    have ey : (g.step p).y = g.y := by rw [e0]
    have eo : (g.step p).Own p := Or.inl ed
    have hy : ∀ c, g.y c = true → c.1 + c.2 ≤ S := by rcases h with ⟨_, z⟩ | z
                                                      · omega
                                                      · exact z.1
    refine Or.inr ⟨by rw [e0]; exact ok, Or.inr ⟨by rw [ey]; exact hy, fun z => (z eo).elim⟩, ?_⟩
    have hc := hy _ a.2
    unfold Gs.soloM
    rw [if_pos eo, ea, ed]
    show 4 * (S + 1 - ((g.at p).1 + 1)) + (4 - 0) + 0 < _
    split <;> omega
  · by_cases b : g.dnAt p = 3
    · by_cases c : g.x (g.at p) = some p
      · have er : g.res p = .stop (g.at p) := by unfold Gs.res; rw [if_neg a, if_pos b, if_pos c]
        have e0 : g.step p = { g with fin := g.fin.set p true, dn := g.dn.set p 4 } := by unfold Gs.step; rw [er]
        refine Or.inl fun z => ?_
        rw [e0] at z
        have z : (g.fin.set p true)[p]? = some false := z
        rw [List.getElem?_set_self h3] at z
        cases z
      · have er : g.res p = .down ((g.at p).1, (g.at p).2 + 1) := by unfold Gs.res; rw [if_neg a, if_pos b, if_neg c]
        have e0 : g.step p = { g with pos := g.pos.set p ((g.at p).1, (g.at p).2 + 1), dn := g.dn.set p 0 } := by unfold Gs.step; rw [er]
        have ea : (g.step p).at p = ((g.at p).1, (g.at p).2 + 1) := by rw [e0]; exact getD_setp h1
        have ed : (g.step p).dnAt p = 0 := by rw [e0]; exact getD_setp h2
        have ey : (g.step p).y = g.y := by rw [e0]
        have eo : (g.step p).Own p := Or.inl ed
        have no : ¬ g.Own p := by rintro (z | z)
                                  · omega
                                  · exact c z
        have hy : ∀ c, g.y c = true → c.1 + c.2 ≤ S := by rcases h with ⟨z, _⟩ | z
                                                          · exact (no z).elim
                                                          · exact z.1
        refine Or.inr ⟨by rw [e0]; exact ok, Or.inr ⟨by rw [ey]; exact hy, fun z => (z eo).elim⟩, ?_⟩
        unfold Gs.soloM
        rw [if_pos eo, if_neg no, ea, ed]
        show 4 * (S + 1 - (g.at p).1) + (4 - 0) + 0 < _
        omega
    · have er : g.res p = .non := by unfold Gs.res; rw [if_neg a, if_neg b]
      have e0 : g.step p = { g with dn := g.dn.set p (g.dnAt p + 1), x := if g.dnAt p = 0 then fset g.x (g.at p) (some p) else g.x, y := if g.dnAt p = 2 then fset g.y (g.at p) true else g.y } := by unfold Gs.step; rw [er]
      have ea : (g.step p).at p = g.at p := by rw [e0]; rfl
      have ed : (g.step p).dnAt p = g.dnAt p + 1 := by rw [e0]; exact getD_setp h2
      have hh : (∀ c, g.y c = true → c.1 + c.2 ≤ S) ∧ (¬ g.Own p → (g.at p).1 + (g.at p).2 ≤ S) := by
        rcases h with ⟨_, z⟩ | z
        · exact (b z).elim
        · exact z
      have eo : (g.step p).Own p ↔ g.Own p := by
        unfold Gs.Own
        rw [ed, ea]
        rw [e0]
        by_cases k0 : g.dnAt p = 0
        · show _ ∨ (if g.dnAt p = 0 then fset g.x (g.at p) (some p) else g.x) (g.at p) = some p ↔ _
          rw [if_pos k0]
          exact ⟨fun _ => Or.inl k0, fun _ => Or.inr (if_pos rfl)⟩
        · show _ ∨ (if g.dnAt p = 0 then fset g.x (g.at p) (some p) else g.x) (g.at p) = some p ↔ _
          rw [if_neg k0]
          exact ⟨fun z => z.imp (fun z => by omega) id, fun z => z.imp (fun z => (k0 z).elim) id⟩
      have hM : (g.step p).soloM p S < g.soloM p S := by
        unfold Gs.soloM
        rw [ea, ed]
        by_cases o : g.Own p
        · rw [if_pos o, if_pos (eo.mpr o)]; omega
        · rw [if_neg o, if_neg (fun z => o (eo.mp z))]; omega
      refine Or.inr ⟨by rw [e0]; exact ok, ?_, hM⟩
      by_cases k2 : g.dnAt p = 2
      · by_cases o : g.Own p
        · exact Or.inl ⟨eo.mpr o, by rw [ed]; omega⟩
        · refine Or.inr ⟨fun c hc => ?_, fun _ => by rw [ea]; exact hh.2 o⟩
          rw [e0] at hc
          have hc : (if g.dnAt p = 2 then fset g.y (g.at p) true else g.y) c = true := hc
          rw [if_pos k2] at hc
          unfold fset at hc
          by_cases z : c = g.at p
          · rw [z]; exact hh.2 o
          · rw [if_neg z] at hc; exact hh.1 c hc
      · refine Or.inr ⟨fun c hc => ?_, fun z => by rw [ea]; exact hh.2 (fun w => z (eo.mpr w))⟩
        rw [e0] at hc
        have hc : (if g.dnAt p = 2 then fset g.y (g.at p) true else g.y) c = true := hc
        rw [if_neg k2] at hc
        exact hh.1 c hc
def FinI (d : Ad) (B : Hp) (R : Rad) (n : Nat) (sch mks : List Nat) (p S : Nat) (l : List (Addr × HO)) (mm : Nat) (σ : L2.St) (H' : Hp) : Prop := ∃ B' j, σ = [some (.ref R.r), some (.int (p : Int))] ∧ Same B B' ∧ RunR d B' H' R n (sch ++ List.replicate j p) (mks ++ [sch.length]) l ∧ (((Gs.init n).run (sch ++ List.replicate j p)).Ok p ∧ ((Gs.init n).run (sch ++ List.replicate j p)).Solo p S ∧ mm = ((Gs.init n).run (sch ++ List.replicate j p)).soloM p S + 1 ∨ ¬ ((Gs.init n).run (sch ++ List.replicate j p)).Ok p ∧ mm = 0) ∧ j + mm ≤ 4 * S + 17
def sp_Run_finish (K : PySem.W.Frag) (d : Ad) : Sp := fun vs H Q _ => ∃ (B : Hp) (R : Rad) (n : Nat) (sch mks : List Nat) (p S : Nat) (l : List (Addr × HO)), vs = [.ref R.r, .int (p : Int)] ∧ RunR d B H R n sch mks l ∧ ((Gs.init n).run sch).Ok p ∧ mks.length ≤ 100000 ∧ sch.length + 4 * S + 40 ≤ 1000000 ∧ (∀ c, ((Gs.init n).run sch).y c = true → c.1 + c.2 ≤ S) ∧ (((Gs.init n).run sch).at p).1 + (((Gs.init n).run sch).at p).2 ≤ S ∧
  ∀ B' H' j, Same B B' → j ≤ 4 * S + 17 → RunR d B' H' R n (sch ++ List.replicate j p) (mks ++ [sch.length]) l → ((Gs.init n).run (sch ++ List.replicate j p)).fin[p]? = some true → Q (.int (nmC (((Gs.init n).run (sch ++ List.replicate j p)).at p))) H'
theorem ok_Run_finish (m : Mo w K mg d) (sm : SM bs) (G_Walk_step : FnOk P w K mg bs CX0 6 d.a_Walk_step d.fd_Walk_step ["self", "process"] (sp_Walk_step K d)) (G_Walk_can_step : FnOk P w K mg bs CX0 3 d.a_Walk_can_step d.fd_Walk_can_step ["self", "process"] (sp_Walk_can_step K d)) : FnOk P w K mg bs CX0 7 d.a_Run_finish d.fd_Run_finish ["self", "process"] (sp_Run_finish K d) := by
  refine m.F_Run_finish.ok (k := 6) sc_Run_finish (fun vs H Q E h => ?_) (fun cdv A fr s H vs Q E hr h => ?_)
  · obtain ⟨B, R, n, sch, mks, p, S, l, rfl, RR, ok, hml, hm, hy, hc, q⟩ := h
    rfl
  · obtain ⟨B, R, n, sch, mks, p, S, l, rfl, RR, ok, hml, hm, hy, hc, q⟩ := h
    refine ⟨_, (pss_cons (ps_if (pt_not (pt_val (pe_meth (pe_fld (pv 0) rfl) m.C_Walk m.M_Walk_can_step G_Walk_can_step (hr.mono (by decide)) m.b_Walk_can_step .nil pass0 (pa_cons (pv 1) pa_nil))))
      (pss_one ps_never)
      pss_nil)
      (pss_cons (ps_expr (pe_bm PySem.F.plainAttrs_list PySem.F.slot_list_append PySem.F.type_list_append mt_append (pe_fld (pv 0) rfl) (pa_cons (pe_callB cr_len (by rfl) m.n_len (by decide +kernel) (pa_cons (pe_fld (pe_fld (pv 0) rfl) rfl) pa_nil)) pa_nil)))
      (pss_cons (ps_while PassesOwn.never (pt_val (pe_meth (pe_fld (pv 0) rfl) m.C_Walk m.M_Walk_can_step G_Walk_can_step (hr.mono (by decide)) m.b_Walk_can_step .nil pass0 (pa_cons (pv 1) pa_nil)))
      (pss_one (ps_expr (pe_meth (pe_fld (pv 0) rfl) m.C_Walk m.M_Walk_step G_Walk_step (hr.mono (by decide)) m.b_Walk_step .nil pass0 (pa_cons (pv 1) pa_nil)))))
      (pss_one (ps_ret (pe_ix ix_list (pe_fld (pe_fld (pv 0) rfl) rfl) (pv 1) (fun _ _ => rfl))))))), ?_⟩
    obtain ⟨hv, W, wf, xs, cs, rp, C⟩ := id RR
    have hpn := ok.lt wf
    have L := walk_front.mp C.led
    unfold runO at L
    have LW := C.led
    unfold walkL walkO at LW
    walk_at "vc"
    refine FldK.of L (by walk_at "mem") m.C_Run m.x_Run__walk (v := .ref W.w) (by walk_at "fs") ?_
    walk_at "vc"
    refine MtK.of LW (by walk_at "mem") (by walk_at "fs") ?_
    refine ⟨B, W, _, n, p, _, _, _, rfl, ⟨wf, xs, cs, rp, C⟩, hpn, ?_⟩
    rw [decide_eq_true (show ((Gs.init n).run sch).fin[p]? = some false from ok)]
    walk_at "vc"
    refine FldK.of L (by walk_at "mem") m.C_Run m.x_Run__marks (v := .ref R.ml) (by walk_at "fs") ?_
    refine ⟨tyL (L.lstAt (xs := nv mks) (by walk_at "mem")), ?_⟩
    refine FldK.of L (by walk_at "mem") m.C_Run m.x_Run__walk (v := .ref W.w) (by walk_at "fs") ?_
    walk_at "vc"
    refine FldK.of LW (by walk_at "mem") m.C_Walk m.x_Walk_steps (v := .ref W.sl) (by walk_at "fs") ?_
    walk_at "vc"
    refine LenK.ofL (LW.lstAt (by walk_at "mem")) ?_
    rw [nv_len]
    walk_at "vc"
    refine AppK.of L (xs := nv mks) (by walk_at "mem") (Nat.lt_of_lt_of_le (m := 1000000) (by rw [nv_len]; omega) (by decide)) (by walk_at "put") fun H1 L => ?_
    rw [← nv_app] at L
    have R1 : RunR d B H1 R n sch (mks ++ [sch.length]) l := ⟨hv, W, wf, xs, cs, rp, ⟨C.sp, C.rt, C.nd, C.fr, C.ln, C.bd, C.rn, walk_front.mpr L⟩⟩
    walk_at "vc"
    clear L LW
    refine ⟨FinI d B R n sch mks p S l, ⟨((Gs.init n).run sch).soloM p S + 1, B, 0, rfl, Same.refl B, by rw [List.replicate_zero, List.append_nil]; exact R1, by rw [List.replicate_zero, List.append_nil]; exact Or.inl ⟨ok, Or.inr ⟨hy, fun _ => hc⟩, rfl⟩, ?_⟩, ?_⟩
    · unfold Gs.soloM
      split <;> omega
    · rintro mm σ H2 ⟨B2, j, rfl, s2, RR2, hk, hj⟩
      obtain ⟨hv2, W2, WR2⟩ := id RR2
      obtain ⟨wf2, xs2, cs2, rp2, C2⟩ := id WR2
      have L := walk_front.mp C2.led
      unfold runO at L
      have LW := C2.led
      unfold walkL walkO at LW
      walk_at "vc"
      refine FldK.of L (by walk_at "mem") m.C_Run m.x_Run__walk (v := .ref W2.w) (by walk_at "fs") ?_
      walk_at "vc"
      refine MtK.of LW (by walk_at "mem") (by walk_at "fs") ?_
      refine ⟨B2, W2, _, n, p, _, _, _, rfl, WR2, hpn, ?_⟩
      rcases hk with ⟨ok2, so, rfl⟩ | ⟨no, rfl⟩
      · rw [decide_eq_true (show ((Gs.init n).run (sch ++ List.replicate j p)).fin[p]? = some false from ok2)]
        walk_at "vc"
        have e1 : sch ++ List.replicate (j + 1) p = sch ++ List.replicate j p ++ [p] := by rw [List.replicate_succ', List.append_assoc]
        refine ⟨fun σ H' => ∃ mm, mm < ((Gs.init n).run (sch ++ List.replicate j p)).soloM p S + 1 ∧ FinI d B R n sch mks p S l mm σ H', fun _ _ z => z, ?_⟩
        walk_at "vc"
        refine FldK.of L (by walk_at "mem") m.C_Run m.x_Run__walk (v := .ref W2.w) (by walk_at "fs") ?_
        walk_at "vc"
        refine MtK.of LW (by walk_at "mem") (by walk_at "fs") ?_
        refine ⟨B2, W2, _, n, p, _, _, _, rfl, WR2, ok2, by rw [List.length_append, List.length_replicate]; omega, fun B3 H3 v s3 WR3 _ => ?_⟩
        have R3 : RunR d B3 H3 R n (sch ++ List.replicate (j + 1) p) (mks ++ [sch.length]) l := by
          rw [e1]
          refine ⟨hv2.app ok2, W2, ?_⟩
          rw [grun_app, evsOf_app]
          exact WR3
        have eg : (Gs.init n).run (sch ++ List.replicate (j + 1) p) = ((Gs.init n).run (sch ++ List.replicate j p)).step p := by rw [e1, grun_app]
        rcases so.step wf2 ok2 with z | ⟨z1, z2, z3⟩
        · exact ⟨0, by omega, B3, j + 1, rfl, s2.trans s3, R3, Or.inr ⟨by rw [eg]; exact z, rfl⟩, by omega⟩
        · exact ⟨_, Nat.succ_lt_succ z3, B3, j + 1, rfl, s2.trans s3, R3, Or.inl ⟨by rw [eg]; exact z1, by rw [eg]; exact z2, by rw [eg]⟩, by omega⟩
      · rw [decide_eq_false (show ¬ ((Gs.init n).run (sch ++ List.replicate j p)).fin[p]? = some false from no)]
        walk_at "vc"
        have hfl : p < ((Gs.init n).run (sch ++ List.replicate j p)).fin.length := by rw [wf2.lf]; exact hpn
        have hf : ((Gs.init n).run (sch ++ List.replicate j p)).fin[p]? = some true := by
          cases hb : ((Gs.init n).run (sch ++ List.replicate j p)).fin[p]? with
          | none => rw [List.getElem?_eq_none_iff] at hb; omega
          | some b => cases b with
            | true => rfl
            | false => exact (no hb).elim
        have hna := Gs.names_at wf2.toLn hpn
        rw [if_pos hf] at hna
        refine FldK.of L (by walk_at "mem") m.C_Run m.x_Run__walk (v := .ref W2.w) (by walk_at "fs") ?_
        walk_at "vc"
        refine FldK.of LW (by walk_at "mem") m.C_Walk m.x_Walk_names (v := .ref W2.nl) (by walk_at "fs") ?_
        walk_at "vc"
        refine IxLK.of (LW.lstAt (xs := ((Gs.init n).run (sch ++ List.replicate j p)).names) (by walk_at "mem")) (by rw [atI_nat]; exact hna) ?_
        exact q B2 H2 j s2 (by omega) RR2 hf
/-! cut Run_play -/
def sp_Run_play (K : PySem.W.Frag) (d : Ad) : Sp := fun vs H Q _ => ∃ (B : Hp) (R : Rad) (n : Nat) (sch mks ps : List Nat) (l : List (Addr × HO)) (t : Addr), vs = [.ref R.r, .ref t] ∧ RunR d B H R n sch mks ((t, .tup (nv ps)) :: l) ∧ GVal ((Gs.init n).run sch) ps ∧ ps.length ≤ 40 ∧ mks.length ≤ 100000 ∧ sch.length + 40 ≤ 1000000 ∧
  ∀ B' H' p tv, Same B B' → RunR d B' H' R n (sch ++ ps) (if ps = [] then mks else mks ++ [sch.length]) ((p, .lst tv) :: l) → ToldR B' ((Gs.init n).run sch) ps tv → Q (.ref p) H'
theorem ok_Run_play (m : Mo w K mg d) (sm : SM bs) (G_Walk_step : FnOk P w K mg bs CX0 6 d.a_Walk_step d.fd_Walk_step ["self", "process"] (sp_Walk_step K d)) (G_Walk_can_step : FnOk P w K mg bs CX0 3 d.a_Walk_can_step d.fd_Walk_can_step ["self", "process"] (sp_Walk_can_step K d)) : FnR P w K mg bs CX0 7 d.a_Run_play (starSp 1 (sp_Run_play K d)) := by
  obtain ⟨oc, od, kV, doc, pm, an, cdv, ct, osl, hfd, lk, hcd⟩ := m.F_Run_play.ex
  rw [hfd] at lk
  refine StX.fn_star (ps := ["self"]) (pv := "processes") lk hcd sc_Run_play StX.cxUp_none (StX.bind_star1 (B := fun l => bindArgs _ ⟨l, []⟩) (fun _ => rfl) (fun _ _ _ => rfl)) (fun A fr s H vs Q E hr h => ?_)
  · obtain ⟨B, R, n, sch, mks, ps, l, t, rfl, ⟨hv, W, wf, xs, cs, rp, C⟩, hps, hpl, hml, hm, q⟩ := h
    refine nox_of ?_
    refine ⟨_, (pss_cons (ps_asg (pe_callB cr_len (by rfl) m.n_len (by decide +kernel) (pa_cons (pe_fld (pe_fld (pv 0) rfl) rfl) pa_nil)) (pg_name (i := 2) sc_Run_play.nd rfl (.inl rfl)))
      (pss_cons (ps_asg (pe_lst pa_nil) (pg_name (i := 3) sc_Run_play.nd rfl (.inl rfl)))
      (pss_cons (ps_for PassesOwn.never rfl (pi_tup (pv 1)) (pg_name (i := 4) sc_Run_play.nd rfl (.inl rfl))
      (pss_cons (ps_if (pt_not (pt_val (pe_meth (pe_fld (pv 0) rfl) m.C_Walk m.M_Walk_can_step G_Walk_can_step (hr.mono (by decide)) m.b_Walk_can_step .nil pass0 (pa_cons (pv 4) pa_nil))))
      (pss_cons ps_never
      (pss_one ps_never))
      pss_nil)
      (pss_one (ps_expr (pe_bm PySem.F.plainAttrs_list PySem.F.slot_list_append PySem.F.type_list_append mt_append (pv 3) (pa_cons (pe_meth (pe_fld (pv 0) rfl) m.C_Walk m.M_Walk_step G_Walk_step (hr.mono (by decide)) m.b_Walk_step .nil pass0 (pa_cons (pv 4) pa_nil)) pa_nil))))))
      (pss_cons (ps_if (pt_cmpR (op_neD hr.units) (pv 3) (pe_lst pa_nil) (nomark _))
      (pss_one (ps_expr (pe_bm PySem.F.plainAttrs_list PySem.F.slot_list_append PySem.F.type_list_append mt_append (pe_fld (pv 0) rfl) (pa_cons (pv 2) pa_nil))))
      pss_nil)
      (pss_one (ps_ret (pv 3))))))), ?_⟩
    have L := walk_front.mp C.led
    unfold runO at L
    walk_at "vc"
    refine FldK.of L (by walk_at "mem") m.C_Run m.x_Run__walk (v := .ref W.w) (by walk_at "fs") ?_
    walk_at "vc"
    have LW := C.led
    unfold walkL walkO at LW
    refine FldK.of LW (by walk_at "mem") m.C_Walk m.x_Walk_steps (v := .ref W.sl) (by walk_at "fs") ?_
    walk_at "vc"
    refine LenK.ofL (LW.lstAt (by walk_at "mem")) ?_
    rw [nv_len]
    walk_at "vc"
    refine NewK.of L fun tl H1 L => ?_
    obtain ⟨B1, s1, ht, L⟩ := L.sinkM (p := t) (o := .tup (nv ps)) (by walk_at "pick")
    have tq : ∀ {B' H' : Hp} {l' : List (Addr × HO)}, Same B1 B' → Led B' H' l' → SqT K H' t (nv ps) := fun s L => .inl (.inl (L.sm _ _ (s _ _ ht)))
    refine ⟨⟨_, tq (Same.refl B1) L⟩, ?_⟩
    have R0 : RunR d B1 H1 R n sch mks ((tl, .lst []) :: l) := ⟨hv, W, wf, xs, cs, rp, ⟨C.sp.mono s1, C.rt.mono s1, C.nd, C.fr, C.ln, C.bd, C.rn, walk_front.mpr (L.sel (.cons (.tl .hd) (.cons (.tl .hd) (.cons .hd .all))))⟩⟩
    clear L C LW
    refine loop_tup (xs := nv ps) (fun i σ H' => ∃ y B' tv, σ = [some (.ref R.r), some (.ref t), some (.int (sch.length : Int)), some (.ref tl), y] ∧ Same B1 B' ∧ RunR d B' H' R n (sch ++ ps.take i) mks ((tl, .lst tv) :: l) ∧ ToldR B' ((Gs.init n).run sch) (ps.take i) tv) ⟨_, B1, [], rfl, Same.refl B1, by rw [List.take_zero, List.append_nil]; exact R0, rfl⟩ (fun i σ H' _ ⟨_, _, _, _, s, ⟨_, _, _, _, _, _, C⟩, _⟩ => tq s C.led) (fun i x σ H2 N hx h hN => ?_) (fun σ H2 h => ?_)
    · obtain ⟨y, B2, tv, rfl, s2, RR, htd⟩ := h
      obtain ⟨p, hp, rfl⟩ := nv_at hx
      have ok := hps.at hp
      have il : i < ps.length := (List.getElem?_eq_some_iff.mp hp).1
      obtain ⟨hv2, W2, WR⟩ := RR
      have ok2 : ((Gs.init n).run (sch ++ ps.take i)).Ok p := by rw [grun_append]; exact ok
      have wf2 := WR.1
      have hpn := ok2.lt wf2
      obtain ⟨_, xs2, cs2, rp2, C2⟩ := id WR
      have L := walk_front.mp C2.led
      have LW := C2.led
      unfold runO at L
      unfold walkL walkO at LW
      walk_at "vc"
      refine FldK.of L (by walk_at "mem") m.C_Run m.x_Run__walk (v := .ref W2.w) (by walk_at "fs") ?_
      walk_at "vc"
      refine MtK.of LW (by walk_at "mem") (by walk_at "fs") ?_
      refine ⟨B2, W2, _, n, p, _, _, _, rfl, WR, hpn, ?_⟩
      rw [decide_eq_true (show ((Gs.init n).run (sch ++ ps.take i)).fin[p]? = some false from ok2)]
      walk_at "vc"
      refine ⟨tyL (L.lstAt (xs := tv) (by walk_at "mem")), ?_⟩
      refine FldK.of L (by walk_at "mem") m.C_Run m.x_Run__walk (v := .ref W2.w) (by walk_at "fs") ?_
      walk_at "vc"
      refine MtK.of LW (by walk_at "mem") (by walk_at "fs") ?_
      refine ⟨B2, W2, _, n, p, _, _, _, rfl, WR, ok2, by rw [List.length_append, List.length_take]; omega, fun B3 H3 v s3 WR3 hrv => ?_⟩
      obtain ⟨wf3, xs3, cs3, rp3, C3⟩ := WR3
      have L := walk_front.mp C3.led
      have htl := htd.len
      rw [List.length_take] at htl
      walk_at "vc"
      refine AppK.of L (by walk_at "mem") (Nat.lt_of_lt_of_le (m := 100) (by omega) (by decide)) (by walk_at "put") fun H4 L => ?_
      have e1 : ps.take (i + 1) = ps.take i ++ [p] := by rw [List.take_add_one, hp]; rfl
      refine hN _ _ ⟨_, B3, tv ++ [v], rfl, s2.trans s3, ?_, ?_⟩
      · rw [e1, ← List.append_assoc]
        refine ⟨hv2.app ok2, W2, ?_, xs3, cs3, rp3, ⟨?_, ?_, C3.nd, ?_, C3.ln, ?_, ?_, ?_⟩⟩
        · rw [grun_app]; exact wf3
        · rw [grun_app]; exact C3.sp
        · rw [evsOf_app]; exact C3.rt
        · rw [grun_app]; exact C3.fr
        · rw [grun_app]; exact C3.bd
        · rw [evsOf_app]; exact C3.rn
        · rw [grun_app]; exact walk_front.mpr L
      · rw [e1]
        rw [grun_append] at hrv
        exact (htd.mono s3).app hrv
    · obtain ⟨y, B2, tv, rfl, s2, RR, htd⟩ := h
      rw [List.take_of_length_le (by rw [nv_len]; omega)] at RR htd
      obtain ⟨hv2, W2, WR⟩ := RR
      obtain ⟨wf2, xs2, cs2, rp2, C2⟩ := id WR
      have L := walk_front.mp C2.led
      unfold runO at L
      have htl := htd.len
      obtain ⟨ds, hd1, hd2⟩ := htd.dp (K := K) (H := H2) L.sm
      walk_at "vc"
      refine NewK.of L fun e0 H3 L => ?_
      refine NeD.nil (k := 2) (L.lstAt (by walk_at "mem")) ((hd1 H3 L.sm)) hd2 (by decide) (L.lstAt (by walk_at "mem")) ?_
      have hde : ds.isEmpty = ps.isEmpty := by
        have h1 := dpAll_len (hd1 H3 L.sm)
        cases ps with
        | nil => rw [List.length_nil] at htl; rw [htl] at h1; cases ds with
          | nil => rfl
          | cons _ _ => cases h1
        | cons _ _ => rw [List.length_cons] at htl; rw [htl] at h1; cases ds with
          | nil => cases h1
          | cons _ _ => rfl
      rw [hde]
      walk_at "vc"
      by_cases hps0 : ps = []
      · rw [if_neg (by rw [hps0]; decide)]
        rw [if_pos hps0] at q
        exact q B2 _ tl tv (s1.trans s2) ⟨hv2, W2, wf2, xs2, cs2, rp2, ⟨C2.sp, C2.rt, C2.nd, C2.fr, C2.ln, C2.bd, C2.rn, walk_front.mpr (L.sel (.skip .all))⟩⟩ htd
      · rw [if_pos (by cases ps with | nil => exact (hps0 rfl).elim | cons _ _ => rfl)]
        rw [if_neg hps0] at q
        refine FldK.of L (by walk_at "mem") m.C_Run m.x_Run__marks (v := .ref R.ml) (by walk_at "fs") ?_
        walk_at "vc"
        refine ⟨tyL (L.lstAt (xs := nv mks) (by walk_at "mem")), ?_⟩
        refine AppK.of L (xs := nv mks) (by walk_at "mem") (Nat.lt_of_lt_of_le (m := 1000000) (by rw [nv_len]; omega) (by decide)) (by walk_at "put") fun H4 L => ?_
        rw [← nv_app] at L
        walk_at "vc"
        exact q B2 _ tl tv (s1.trans s2) ⟨hv2, W2, wf2, xs2, cs2, rp2, ⟨C2.sp, C2.rt, C2.nd, C2.fr, C2.ln, C2.bd, C2.rn, walk_front.mpr (L.sel (.skip .all))⟩⟩ htd
/-! cut Run_step -/
def sp_Run_step (K : PySem.W.Frag) (d : Ad) : Sp := fun vs H Q _ => ∃ (B : Hp) (R : Rad) (n : Nat) (sch mks : List Nat) (p : Nat) (l : List (Addr × HO)), vs = [.ref R.r, .int (p : Int)] ∧ RunR d B H R n sch mks l ∧ ((Gs.init n).run sch).Ok p ∧ mks.length ≤ 100000 ∧ sch.length + 40 ≤ 1000000 ∧
  ∀ B' H' v, Same B B' → RunR d B' H' R n (sch ++ [p]) (mks ++ [sch.length]) l → RV B' v (resT (((Gs.init n).run sch).res p)) → Q v H'
theorem ok_Run_step (m : Mo w K mg d) (sm : SM bs) (G_Run_play : FnR P w K mg bs CX0 7 d.a_Run_play (starSp 1 (sp_Run_play K d))) : FnOk P w K mg bs CX0 8 d.a_Run_step d.fd_Run_step ["self", "process"] (sp_Run_step K d) := by
  refine m.F_Run_step.ok (k := 7) sc_Run_step (fun vs H Q E h => ?_) (fun cdv A fr s H vs Q E hr h => ?_)
  · obtain ⟨B, R, n, sch, mks, p, l, rfl, RR, ok, hml, hm, q⟩ := h
    rfl
  · obtain ⟨B, R, n, sch, mks, p, l, rfl, RR, ok, hml, hm, q⟩ := h
    refine ⟨_, (pss_one (ps_ret (pe_ix ix_list (pe_methR (pv 0) m.C_Run m.M_Run_play G_Run_play (hr.mono (by decide)) pass0 (pa_cons (pv 1) pa_nil)) pe_int (fun _ _ => rfl)))), ?_⟩
    walk_at "vc"
    obtain ⟨W0, xs0, cs0, rp0, L, -⟩ := RR.split
    unfold runO at L
    refine MtK.of L (by walk_at "mem") (by walk_at "fs") ?_
    refine starSp.of [.ref R.r] [.int (p : Int)] rfl (Nat.le_trans (m := 1) (Nat.le_refl _) (by decide)) (RR.new fun t H1 RR => ?_)
    refine ⟨B, R, n, sch, mks, [p], l, t, rfl, RR, ⟨ok, trivial⟩, (by show 1 ≤ 40; decide), hml, hm, fun B' H' a tv s RR ht => ?_⟩
    obtain ⟨v, ws, rfl, hv, hw⟩ := ht
    obtain rfl : ws = [] := hw
    obtain ⟨W1, xs1, cs1, rp1, L1, -⟩ := RR.split
    walk_at "vc"
    refine IxLK.of (L1.lstAt (xs := [v]) (by walk_at "mem")) (v := v) rfl ?_
    exact q _ _ _ s (RR.sub (List.sublist_cons_self _ _)) hv
/-! cut Run___len__ -/
def sp_Run___len__ (K : PySem.W.Frag) (d : Ad) : Sp := fun vs H Q _ => ∃ (B : Hp) (R : Rad) (n : Nat) (sch mks : List Nat) (l : List (Addr × HO)), vs = [.ref R.r] ∧ RunR d B H R n sch mks l ∧ Q (.int (sch.length : Int)) H
theorem ok_Run___len__ (m : Mo w K mg d) (sm : SM bs) : FnOk P w K mg bs CX0 1 d.a_Run___len__ d.fd_Run___len__ ["self"] (sp_Run___len__ K d) := by
  refine m.F_Run___len__.ok (k := 0) sc_Run___len__ (fun vs H Q E h => ?_) (fun cdv A fr s H vs Q E hr h => ?_)
  · obtain ⟨B, R, n, sch, mks, l, rfl, ⟨hv, W, wf, xs, cs, rp, C⟩, q⟩ := h
    rfl
  · obtain ⟨B, R, n, sch, mks, l, rfl, ⟨hv, W, wf, xs, cs, rp, C⟩, q⟩ := h
    refine ⟨_, (pss_one (ps_ret (pe_callB cr_len (by rfl) m.n_len (by decide +kernel) (pa_cons (pe_fld (pe_fld (pv 0) rfl) rfl) pa_nil)))), ?_⟩
    have L := walk_front.mp C.led
    unfold runO at L
    walk_at "vc"
    refine FldK.of L (by walk_at "mem") m.C_Run m.x_Run__walk (v := .ref W.w) (by walk_at "fs") ?_
    walk_at "vc"
    have LW := C.led
    unfold walkL walkO at LW
    refine FldK.of LW (by walk_at "mem") m.C_Walk m.x_Walk_steps (v := .ref W.sl) (by walk_at "fs") ?_
    walk_at "vc"
    refine LenK.ofL (LW.lstAt (by walk_at "mem")) ?_
    rw [nv_len]
    exact q
/-! cut Desk___init__ -/
/-! ### words of the desk -/
theorem kw_run_step : (Str.ofString "run" == Str.ofString "step") = false := by decide +kernel
theorem kw_run_finish : (Str.ofString "run" == Str.ofString "finish") = false := by decide +kernel
theorem kw_run_undo : (Str.ofString "run" == Str.ofString "undo") = false := by decide +kernel
theorem kw_run_names : (Str.ofString "run" == Str.ofString "names") = false := by decide +kernel
theorem kw_run_places : (Str.ofString "run" == Str.ofString "places") = false := by decide +kernel
theorem kw_run_text : (Str.ofString "run" == Str.ofString "text") = false := by decide +kernel
theorem kw_run_possible : (Str.ofString "run" == Str.ofString "possible") = false := by decide +kernel
theorem kw_run_stuck : (Str.ofString "run" == Str.ofString "stuck") = false := by decide +kernel
theorem kw_run_least : (Str.ofString "run" == Str.ofString "least") = false := by decide +kernel
theorem kw_run_plan : (Str.ofString "run" == Str.ofString "plan") = false := by decide +kernel
theorem kv_run : (Str.ofString "run" = Str.ofString "run") = True := by exact eq_true rfl
theorem kw_step_step : (Str.ofString "step" == Str.ofString "step") = true := by decide +kernel
theorem kw_step_finish : (Str.ofString "step" == Str.ofString "finish") = false := by decide +kernel
theorem kw_step_undo : (Str.ofString "step" == Str.ofString "undo") = false := by decide +kernel
theorem kw_step_names : (Str.ofString "step" == Str.ofString "names") = false := by decide +kernel
theorem kw_step_places : (Str.ofString "step" == Str.ofString "places") = false := by decide +kernel
theorem kw_step_text : (Str.ofString "step" == Str.ofString "text") = false := by decide +kernel
theorem kw_step_possible : (Str.ofString "step" == Str.ofString "possible") = false := by decide +kernel
theorem kw_step_stuck : (Str.ofString "step" == Str.ofString "stuck") = false := by decide +kernel
theorem kw_step_least : (Str.ofString "step" == Str.ofString "least") = false := by decide +kernel
theorem kw_step_plan : (Str.ofString "step" == Str.ofString "plan") = false := by decide +kernel
theorem kv_step : (Str.ofString "step" = Str.ofString "run") = False := by exact eq_false (by decide +kernel)
theorem kw_finish_step : (Str.ofString "finish" == Str.ofString "step") = false := by decide +kernel
theorem kw_finish_finish : (Str.ofString "finish" == Str.ofString "finish") = true := by decide +kernel
theorem kw_finish_undo : (Str.ofString "finish" == Str.ofString "undo") = false := by decide +kernel
theorem kw_finish_names : (Str.ofString "finish" == Str.ofString "names") = false := by decide +kernel
theorem kw_finish_places : (Str.ofString "finish" == Str.ofString "places") = false := by decide +kernel
theorem kw_finish_text : (Str.ofString "finish" == Str.ofString "text") = false := by decide +kernel
theorem kw_finish_possible : (Str.ofString "finish" == Str.ofString "possible") = false := by decide +kernel
theorem kw_finish_stuck : (Str.ofString "finish" == Str.ofString "stuck") = false := by decide +kernel
theorem kw_finish_least : (Str.ofString "finish" == Str.ofString "least") = false := by decide +kernel
theorem kw_finish_plan : (Str.ofString "finish" == Str.ofString "plan") = false := by decide +kernel
theorem kv_finish : (Str.ofString "finish" = Str.ofString "run") = False := by exact eq_false (by decide +kernel)
theorem kw_undo_step : (Str.ofString "undo" == Str.ofString "step") = false := by decide +kernel
theorem kw_undo_finish : (Str.ofString "undo" == Str.ofString "finish") = false := by decide +kernel
theorem kw_undo_undo : (Str.ofString "undo" == Str.ofString "undo") = true := by decide +kernel
theorem kw_undo_names : (Str.ofString "undo" == Str.ofString "names") = false := by decide +kernel
theorem kw_undo_places : (Str.ofString "undo" == Str.ofString "places") = false := by decide +kernel
theorem kw_undo_text : (Str.ofString "undo" == Str.ofString "text") = false := by decide +kernel
theorem kw_undo_possible : (Str.ofString "undo" == Str.ofString "possible") = false := by decide +kernel
theorem kw_undo_stuck : (Str.ofString "undo" == Str.ofString "stuck") = false := by decide +kernel
theorem kw_undo_least : (Str.ofString "undo" == Str.ofString "least") = false := by decide +kernel
theorem kw_undo_plan : (Str.ofString "undo" == Str.ofString "plan") = false := by decide +kernel
theorem kv_undo : (Str.ofString "undo" = Str.ofString "run") = False := by exact eq_false (by decide +kernel)
theorem kw_names_step : (Str.ofString "names" == Str.ofString "step") = false := by decide +kernel
theorem kw_names_finish : (Str.ofString "names" == Str.ofString "finish") = false := by decide +kernel
theorem kw_names_undo : (Str.ofString "names" == Str.ofString "undo") = false := by decide +kernel
theorem kw_names_names : (Str.ofString "names" == Str.ofString "names") = true := by decide +kernel
theorem kw_names_places : (Str.ofString "names" == Str.ofString "places") = false := by decide +kernel
theorem kw_names_text : (Str.ofString "names" == Str.ofString "text") = false := by decide +kernel
theorem kw_names_possible : (Str.ofString "names" == Str.ofString "possible") = false := by decide +kernel
theorem kw_names_stuck : (Str.ofString "names" == Str.ofString "stuck") = false := by decide +kernel
theorem kw_names_least : (Str.ofString "names" == Str.ofString "least") = false := by decide +kernel
theorem kw_names_plan : (Str.ofString "names" == Str.ofString "plan") = false := by decide +kernel
theorem kv_names : (Str.ofString "names" = Str.ofString "run") = False := by exact eq_false (by decide +kernel)
theorem kw_places_step : (Str.ofString "places" == Str.ofString "step") = false := by decide +kernel
theorem kw_places_finish : (Str.ofString "places" == Str.ofString "finish") = false := by decide +kernel
theorem kw_places_undo : (Str.ofString "places" == Str.ofString "undo") = false := by decide +kernel
theorem kw_places_names : (Str.ofString "places" == Str.ofString "names") = false := by decide +kernel
theorem kw_places_places : (Str.ofString "places" == Str.ofString "places") = true := by decide +kernel
theorem kw_places_text : (Str.ofString "places" == Str.ofString "text") = false := by decide +kernel
theorem kw_places_possible : (Str.ofString "places" == Str.ofString "possible") = false := by decide +kernel
theorem kw_places_stuck : (Str.ofString "places" == Str.ofString "stuck") = false := by decide +kernel
theorem kw_places_least : (Str.ofString "places" == Str.ofString "least") = false := by decide +kernel
theorem kw_places_plan : (Str.ofString "places" == Str.ofString "plan") = false := by decide +kernel
theorem kv_places : (Str.ofString "places" = Str.ofString "run") = False := by exact eq_false (by decide +kernel)
theorem kw_text_step : (Str.ofString "text" == Str.ofString "step") = false := by decide +kernel
theorem kw_text_finish : (Str.ofString "text" == Str.ofString "finish") = false := by decide +kernel
theorem kw_text_undo : (Str.ofString "text" == Str.ofString "undo") = false := by decide +kernel
theorem kw_text_names : (Str.ofString "text" == Str.ofString "names") = false := by decide +kernel
theorem kw_text_places : (Str.ofString "text" == Str.ofString "places") = false := by decide +kernel
theorem kw_text_text : (Str.ofString "text" == Str.ofString "text") = true := by decide +kernel
theorem kw_text_possible : (Str.ofString "text" == Str.ofString "possible") = false := by decide +kernel
theorem kw_text_stuck : (Str.ofString "text" == Str.ofString "stuck") = false := by decide +kernel
theorem kw_text_least : (Str.ofString "text" == Str.ofString "least") = false := by decide +kernel
theorem kw_text_plan : (Str.ofString "text" == Str.ofString "plan") = false := by decide +kernel
theorem kv_text : (Str.ofString "text" = Str.ofString "run") = False := by exact eq_false (by decide +kernel)
theorem roww_ne {z w t : Str} (h : (32 : Nat) ∉ TL.tl z) : ((w ++ (" " : Str) ++ t) == z) = false := by
  rw [beq_eq_false_iff_ne]
  intro e
  apply h
  rw [← e, TL.tl_append, TL.tl_append]
  exact List.mem_append_left _ (List.mem_append_right _ (by decide))
theorem nosp_undo : (32 : Nat) ∉ TL.tl (Str.ofString "undo") := by decide +kernel
theorem nosp_names : (32 : Nat) ∉ TL.tl (Str.ofString "names") := by decide +kernel
theorem nosp_places : (32 : Nat) ∉ TL.tl (Str.ofString "places") := by decide +kernel
theorem nosp_text : (32 : Nat) ∉ TL.tl (Str.ofString "text") := by decide +kernel
theorem nosp_run : (32 : Nat) ∉ TL.tl (Str.ofString "run") := by decide +kernel
theorem nosp_step : (32 : Nat) ∉ TL.tl (Str.ofString "step") := by decide +kernel
theorem nosp_finish : (32 : Nat) ∉ TL.tl (Str.ofString "finish") := by decide +kernel
theorem row_plain {w t : Str} {a b c e : Addr} : List.lookup (w ++ (" " : Str) ++ t) [(Str.ofString "undo", a), (Str.ofString "names", b), (Str.ofString "places", c), (Str.ofString "text", e)] = none := by
  simp only [List.lookup, roww_ne nosp_undo, roww_ne nosp_names, roww_ne nosp_places, roww_ne nosp_text]
theorem part_row {w : Str} (h : (32 : Nat) ∉ TL.tl w) (t : Str) : Txt.partition (w ++ (" " : Str) ++ t) " " = (w, (" " : Str), t) := TL.partition_app (y := " ") (s := 32) (S := []) (by decide +kernel) h
structure Dad where
  r : Addr
  dx : Addr
def deskO (d : Ad) (D : Dad) (v : V) : Addr × HO := (D.r, .ins d.c_Desk D.dx [("_run", v)])
def sp_Desk___init__ (K : PySem.W.Frag) (d : Ad) : Sp := fun vs H Q _ => ∃ (B : Hp) (D : Dad) (l : List (Addr × HO)), vs = [.ref D.r] ∧ Led B H ((D.r, .ins d.c_Desk D.dx []) :: l) ∧ ∀ H', Led B H' (deskO d D .non :: l) → Q .non H'
theorem ok_Desk___init__ (m : Mo w K mg d) (sm : SM bs) : FnOk P w K mg bs CX0 1 d.a_Desk___init__ d.fd_Desk___init__ ["self"] (sp_Desk___init__ K d) := by
  refine m.F_Desk___init__.ok (k := 0) sc_Desk___init__ (fun vs H Q E h => ?_) (fun cdv A fr s H vs Q E hr h => ?_)
  · obtain ⟨B, D, l, rfl, L, q⟩ := h
    rfl
  · obtain ⟨B, D, l, rfl, L, q⟩ := h
    refine ⟨_, (pss_one (ps_fld (pv 0) pe_non rfl)), ?_⟩
    walk_at "vc"
    refine StK.of L (by walk_at "mem") m.C_Desk m.x_Desk__run (fs' := [("_run", .non)]) (by walk_at "fs") (by walk_at "put") fun H3 L => ?_
    exact q H3 L
/-! cut read_number -/
def sp_read_number (K : PySem.W.Frag) : Sp := fun vs H Q _ => ∃ (k m : Nat), vs = [.str (nT k), .int m] ∧ 0 < m ∧ m ≤ 100 ∧ k < 10 ^ m ∧ Q (.int (k : Int)) H
theorem ok_read_number (m : Mo w K mg d) (sm : SM bs) : FnOk P w K mg bs CX0 1 d.a_read_number d.fd_read_number ["word", "most_digits"] (sp_read_number K) := by
  refine m.F_read_number.ok (k := 0) sc_read_number (fun vs H Q E h => ?_) (fun cdv A fr s H vs Q E hr h => ?_)
  · obtain ⟨k, mm, rfl, h0, h1, hm, q⟩ := h
    rfl
  · obtain ⟨k, mm, rfl, h0, h1, hm, q⟩ := h
    refine ⟨_, (pss_cons (ps_if (PW.pt (pw_or (pt_cmpR op_gt (pe_callB cr_lenS (by rfl) m.n_len (by decide +kernel) (pa_cons (pv 0) pa_nil)) (pv 1) (nomark _)) (pw_or (pt_not (pt_val (pe_bm0 PySem.F.plainAttrs_str PySem.F.slot_str_isascii PySem.F.type_str_isascii mt_asciiS (pv 0)))) (pw_or1 (pt_not (pt_val (pe_bm0 PySem.F.plainAttrs_str PySem.F.slot_str_isdigit PySem.F.type_str_isdigit mt_digitS (pv 0))))))))
      (pss_one ps_never)
      pss_nil)
      (pss_cons (ps_if (PW.pt (pw_and (pt_cmpR op_eq (pe_ix ix_str (pv 0) pe_int (fun _ _ => rfl)) pe_str (nomark _)) (pw_and1 (pt_cmpR op_ne (pv 0) pe_str (nomark _)))))
      (pss_one ps_never)
      pss_nil)
      (pss_one (ps_ret (pe_callTy cr_intS (by rfl) m.n_int (by decide +kernel) (pa_cons (pv 0) pa_nil)))))), ?_⟩
    have hl := nT_len (k := mm) h0 hm
    walk_at "vc"
    refine ⟨Nat.le_trans hl (Nat.le_trans h1 (by decide)), ?_⟩
    rw [if_neg (by omega), isascii_nT, if_neg (by decide), isdigit_nT, if_neg (by decide)]
    walk_at "vc"
    obtain ⟨c, r, hc⟩ : ∃ c r, TL.numL k = c :: r := by
      cases hq : TL.numL k with
      | nil => exact absurd hq (TL.numL_ne k)
      | cons c r => exact ⟨c, r, rfl⟩
    have hcs : (nT k).cps.toList = c :: r := (nT_tl k).trans hc
    refine ⟨Nat.le_trans hl (Nat.le_trans h1 (by decide)), c, by rw [hcs]; unfold atI ixN; rw [if_pos (by decide), if_pos (by simp only [List.length_cons]; omega)]; rfl, ?_⟩
    walk_at "vc"
    have hfin : IntSK (nT k) fun n => Q (.int n) H := ⟨(k : Int), nT_int (Nat.lt_of_lt_of_le hm (Nat.pow_le_pow_right (by decide) (by omega))), by omega, q⟩
    split
    · rename_i e
      have hk0 : k = 0 := nT_head k (by
        rw [hc]
        have : (⟨#[c]⟩ : Str) = Str.ofString "0" := e
        have h2 := congrArg TL.tl this
        rw [show TL.tl (⟨#[c]⟩ : Str) = [c] from rfl, show TL.tl (Str.ofString "0") = [48] by rfl] at h2
        rw [List.head?_cons, (List.cons.inj h2).1])
      subst hk0
      rw [show decide (nT 0 = Str.ofString "0") = true by decide +kernel, if_neg (by decide)]
      exact hfin
    · exact hfin
/-! cut read_argument -/
def sp_read_argument (K : PySem.W.Frag) (d : Ad) : Sp := fun vs H Q _ => ∃ (wd : Str) (k : Nat), vs = [.str wd, .str (nT k)] ∧ (wd = "run" ∨ wd = "step" ∨ wd = "finish") ∧ k < 10 ^ 9 ∧ Q (.int (k : Int)) H
theorem ok_read_argument (m : Mo w K mg d) (sm : SM bs) (G_read_number : FnOk P w K mg bs CX0 1 d.a_read_number d.fd_read_number ["word", "most_digits"] (sp_read_number K)) : FnOk P w K mg bs CX0 2 d.a_read_argument d.fd_read_argument ["word", "rest"] (sp_read_argument K d) := by
  obtain ⟨t_MOST_DIGITS_desk, h_MOST_DIGITS_desk⟩ := m.mg_MOST_DIGITS_desk
  refine m.F_read_argument.ok (k := 1) sc_read_argument (fun vs H Q E h => ?_) (fun cdv A fr s H vs Q E hr h => ?_)
  · obtain ⟨wd, k, rfl, hw, hk, q⟩ := h
    rfl
  · obtain ⟨wd, k, rfl, hw, hk, q⟩ := h
    refine ⟨_, (pss_cons (ps_if (PW.pt (pw_or (pt_cmpR op_eq (pv 0) pe_str (nomark _)) (pw_or1 (pt_cmpR (op_inKd m.kd_PROCESS_ACTIONS) (pv 0) (pe_glob (v := .ref d.k_PROCESS_ACTIONS) rfl m.mgd_PROCESS_ACTIONS rfl) rfl))))
      (pss_one (ps_ret (pe_call G_read_number (hr.mono (by decide)) (by rfl) m.g_read_number m.F_read_number.kp m.b_read_number .nil pass0 (pa_cons (pv 1) (pa_cons (pe_glob (v := .int (9)) rfl h_MOST_DIGITS_desk ⟨_, rfl⟩) pa_nil)))))
      pss_nil)
      (pss_cons (ps_if (pt_cmpR (op_inKd m.kd_QUESTIONS) (pv 0) (pe_glob (v := .ref d.k_QUESTIONS) rfl m.mgd_QUESTIONS rfl) rfl)
      (pss_one ps_never)
      pss_nil)
      (pss_one ps_never))), ?_⟩
    rcases hw with rfl | rfl | rfl
    · walk_at "vc"
      exact ⟨k, 9, rfl, by decide, by decide, hk, q⟩
    · walk_at "vc"
      try simp only [kw_run_step, kw_run_finish, kw_run_undo, kw_run_names, kw_run_places, kw_run_text, kw_run_possible, kw_run_stuck, kw_run_least, kw_run_plan, kv_run, kw_step_step, kw_step_finish, kw_step_undo, kw_step_names, kw_step_places, kw_step_text, kw_step_possible, kw_step_stuck, kw_step_least, kw_step_plan, kv_step, kw_finish_step, kw_finish_finish, kw_finish_undo, kw_finish_names, kw_finish_places, kw_finish_text, kw_finish_possible, kw_finish_stuck, kw_finish_least, kw_finish_plan, kv_finish, kw_undo_step, kw_undo_finish, kw_undo_undo, kw_undo_names, kw_undo_places, kw_undo_text, kw_undo_possible, kw_undo_stuck, kw_undo_least, kw_undo_plan, kv_undo, kw_names_step, kw_names_finish, kw_names_undo, kw_names_names, kw_names_places, kw_names_text, kw_names_possible, kw_names_stuck, kw_names_least, kw_names_plan, kv_names, kw_places_step, kw_places_finish, kw_places_undo, kw_places_names, kw_places_places, kw_places_text, kw_places_possible, kw_places_stuck, kw_places_least, kw_places_plan, kv_places, kw_text_step, kw_text_finish, kw_text_undo, kw_text_names, kw_text_places, kw_text_text, kw_text_possible, kw_text_stuck, kw_text_least, kw_text_plan, kv_text, Option.isSome_some, Option.isSome_none, if_true, if_false, Bool.false_eq_true, reduceIte]
      exact ⟨k, 9, rfl, by decide, by decide, hk, q⟩
    · walk_at "vc"
      try simp only [kw_run_step, kw_run_finish, kw_run_undo, kw_run_names, kw_run_places, kw_run_text, kw_run_possible, kw_run_stuck, kw_run_least, kw_run_plan, kv_run, kw_step_step, kw_step_finish, kw_step_undo, kw_step_names, kw_step_places, kw_step_text, kw_step_possible, kw_step_stuck, kw_step_least, kw_step_plan, kv_step, kw_finish_step, kw_finish_finish, kw_finish_undo, kw_finish_names, kw_finish_places, kw_finish_text, kw_finish_possible, kw_finish_stuck, kw_finish_least, kw_finish_plan, kv_finish, kw_undo_step, kw_undo_finish, kw_undo_undo, kw_undo_names, kw_undo_places, kw_undo_text, kw_undo_possible, kw_undo_stuck, kw_undo_least, kw_undo_plan, kv_undo, kw_names_step, kw_names_finish, kw_names_undo, kw_names_names, kw_names_places, kw_names_text, kw_names_possible, kw_names_stuck, kw_names_least, kw_names_plan, kv_names, kw_places_step, kw_places_finish, kw_places_undo, kw_places_names, kw_places_places, kw_places_text, kw_places_possible, kw_places_stuck, kw_places_least, kw_places_plan, kv_places, kw_text_step, kw_text_finish, kw_text_undo, kw_text_names, kw_text_places, kw_text_text, kw_text_possible, kw_text_stuck, kw_text_least, kw_text_plan, kv_text, Option.isSome_some, Option.isSome_none, if_true, if_false, Bool.false_eq_true, reduceIte]
      exact ⟨k, 9, rfl, by decide, by decide, hk, q⟩
/-! cut read_command -/
def argV : Option Nat → V
  | none => .non
  | some k => .int (k : Int)
def rowS (wd : Str) : Option Nat → Str
  | none => wd
  | some k => wd ++ (" " : Str) ++ nT k
def CmdOk (wd : Str) : Option Nat → Prop
  | none => wd = "undo" ∨ wd = "names" ∨ wd = "places" ∨ wd = "text"
  | some k => (wd = "run" ∨ wd = "step" ∨ wd = "finish") ∧ k < 10 ^ 9
def sp_read_command (K : PySem.W.Frag) (d : Ad) : Sp := fun vs H Q _ => ∃ (wd : Str) (o : Option Nat), vs = [.str (rowS wd o)] ∧ CmdOk wd o ∧ ∀ t B' H', Same H B' → B' t = some (.tup [.str wd, argV o]) → Led B' H' [] → Q (.ref t) H'
theorem ok_read_command (m : Mo w K mg d) (sm : SM bs) (G_read_argument : FnOk P w K mg bs CX0 2 d.a_read_argument d.fd_read_argument ["word", "rest"] (sp_read_argument K d)) : FnOk P w K mg bs CX0 3 d.a_read_command d.fd_read_command ["row"] (sp_read_command K d) := by
  refine m.F_read_command.ok (k := 2) sc_read_command (fun vs H Q E h => ?_) (fun cdv A fr s H vs Q E hr h => ?_)
  · obtain ⟨wd, o, rfl, hc, q⟩ := h
    rfl
  · obtain ⟨wd, o, rfl, hc, q⟩ := h
    refine ⟨_, (pss_cons (ps_if (pt_not (pt_val (pe_callB cr_is (by rfl) m.n_isinstance (by decide +kernel) (pa_cons (pv 0) (pa_cons (pe_bltn (v := .ty "str") (by rfl) m.n_str (by decide +kernel) rfl) pa_nil)))))
      (pss_one ps_never)
      pss_nil)
      (pss_cons (ps_if (pt_cmpR (op_inKd m.kd_PLAIN_ACTIONS) (pv 0) (pe_glob (v := .ref d.k_PLAIN_ACTIONS) rfl m.mgd_PLAIN_ACTIONS rfl) rfl)
      (pss_one (ps_ret (pe_tup (pa_cons (pv 0) (pa_cons pe_non pa_nil)))))
      pss_nil)
      (pss_cons (ps_asg (pe_bm PySem.F.plainAttrs_str PySem.F.slot_str_partition PySem.F.type_str_partition mt_partS (pv 0) (pa_cons pe_str pa_nil)) (show PG _ _ (gTup K 3 _) from pg_tup (by rfl) (pgs_cons (pg_name (i := 1) sc_read_command.nd rfl (.inl rfl)) (pgs_cons (pg_name (i := 2) sc_read_command.nd rfl (.inl rfl)) (pgs_cons (pg_name (i := 3) sc_read_command.nd rfl (.inl rfl)) pgs_nil)))))
      (pss_one (ps_try_thru0 (pss_one (ps_ret (pe_tup (pa_cons (pv 1) (pa_cons (pe_call G_read_argument (hr.mono (by decide)) (by rfl) m.g_read_argument m.F_read_argument.kp m.b_read_argument .nil pass0 (pa_cons (pv 1) (pa_cons (pv 3) pa_nil))) pa_nil)))))))))), ?_⟩
    cases o with
    | none =>
      have hc : wd = "undo" ∨ wd = "names" ∨ wd = "places" ∨ wd = "text" := hc
      show _
      unfold rowS
      rcases hc with rfl | rfl | rfl | rfl
      · walk_at "vc"
        try simp only [kw_run_step, kw_run_finish, kw_run_undo, kw_run_names, kw_run_places, kw_run_text, kw_run_possible, kw_run_stuck, kw_run_least, kw_run_plan, kv_run, kw_step_step, kw_step_finish, kw_step_undo, kw_step_names, kw_step_places, kw_step_text, kw_step_possible, kw_step_stuck, kw_step_least, kw_step_plan, kv_step, kw_finish_step, kw_finish_finish, kw_finish_undo, kw_finish_names, kw_finish_places, kw_finish_text, kw_finish_possible, kw_finish_stuck, kw_finish_least, kw_finish_plan, kv_finish, kw_undo_step, kw_undo_finish, kw_undo_undo, kw_undo_names, kw_undo_places, kw_undo_text, kw_undo_possible, kw_undo_stuck, kw_undo_least, kw_undo_plan, kv_undo, kw_names_step, kw_names_finish, kw_names_undo, kw_names_names, kw_names_places, kw_names_text, kw_names_possible, kw_names_stuck, kw_names_least, kw_names_plan, kv_names, kw_places_step, kw_places_finish, kw_places_undo, kw_places_names, kw_places_places, kw_places_text, kw_places_possible, kw_places_stuck, kw_places_least, kw_places_plan, kv_places, kw_text_step, kw_text_finish, kw_text_undo, kw_text_names, kw_text_places, kw_text_text, kw_text_possible, kw_text_stuck, kw_text_least, kw_text_plan, kv_text, Option.isSome_some, Option.isSome_none, if_true, if_false, Bool.false_eq_true, reduceIte]
        exact NewK.of (Led.nil H) fun t H1 L => (L.sink).elim fun B1 z => q t B1 H1 z.1 z.2.1 z.2.2
      · walk_at "vc"
        try simp only [kw_run_step, kw_run_finish, kw_run_undo, kw_run_names, kw_run_places, kw_run_text, kw_run_possible, kw_run_stuck, kw_run_least, kw_run_plan, kv_run, kw_step_step, kw_step_finish, kw_step_undo, kw_step_names, kw_step_places, kw_step_text, kw_step_possible, kw_step_stuck, kw_step_least, kw_step_plan, kv_step, kw_finish_step, kw_finish_finish, kw_finish_undo, kw_finish_names, kw_finish_places, kw_finish_text, kw_finish_possible, kw_finish_stuck, kw_finish_least, kw_finish_plan, kv_finish, kw_undo_step, kw_undo_finish, kw_undo_undo, kw_undo_names, kw_undo_places, kw_undo_text, kw_undo_possible, kw_undo_stuck, kw_undo_least, kw_undo_plan, kv_undo, kw_names_step, kw_names_finish, kw_names_undo, kw_names_names, kw_names_places, kw_names_text, kw_names_possible, kw_names_stuck, kw_names_least, kw_names_plan, kv_names, kw_places_step, kw_places_finish, kw_places_undo, kw_places_names, kw_places_places, kw_places_text, kw_places_possible, kw_places_stuck, kw_places_least, kw_places_plan, kv_places, kw_text_step, kw_text_finish, kw_text_undo, kw_text_names, kw_text_places, kw_text_text, kw_text_possible, kw_text_stuck, kw_text_least, kw_text_plan, kv_text, Option.isSome_some, Option.isSome_none, if_true, if_false, Bool.false_eq_true, reduceIte]
        exact NewK.of (Led.nil H) fun t H1 L => (L.sink).elim fun B1 z => q t B1 H1 z.1 z.2.1 z.2.2
      · walk_at "vc"
        try simp only [kw_run_step, kw_run_finish, kw_run_undo, kw_run_names, kw_run_places, kw_run_text, kw_run_possible, kw_run_stuck, kw_run_least, kw_run_plan, kv_run, kw_step_step, kw_step_finish, kw_step_undo, kw_step_names, kw_step_places, kw_step_text, kw_step_possible, kw_step_stuck, kw_step_least, kw_step_plan, kv_step, kw_finish_step, kw_finish_finish, kw_finish_undo, kw_finish_names, kw_finish_places, kw_finish_text, kw_finish_possible, kw_finish_stuck, kw_finish_least, kw_finish_plan, kv_finish, kw_undo_step, kw_undo_finish, kw_undo_undo, kw_undo_names, kw_undo_places, kw_undo_text, kw_undo_possible, kw_undo_stuck, kw_undo_least, kw_undo_plan, kv_undo, kw_names_step, kw_names_finish, kw_names_undo, kw_names_names, kw_names_places, kw_names_text, kw_names_possible, kw_names_stuck, kw_names_least, kw_names_plan, kv_names, kw_places_step, kw_places_finish, kw_places_undo, kw_places_names, kw_places_places, kw_places_text, kw_places_possible, kw_places_stuck, kw_places_least, kw_places_plan, kv_places, kw_text_step, kw_text_finish, kw_text_undo, kw_text_names, kw_text_places, kw_text_text, kw_text_possible, kw_text_stuck, kw_text_least, kw_text_plan, kv_text, Option.isSome_some, Option.isSome_none, if_true, if_false, Bool.false_eq_true, reduceIte]
        exact NewK.of (Led.nil H) fun t H1 L => (L.sink).elim fun B1 z => q t B1 H1 z.1 z.2.1 z.2.2
      · walk_at "vc"
        try simp only [kw_run_step, kw_run_finish, kw_run_undo, kw_run_names, kw_run_places, kw_run_text, kw_run_possible, kw_run_stuck, kw_run_least, kw_run_plan, kv_run, kw_step_step, kw_step_finish, kw_step_undo, kw_step_names, kw_step_places, kw_step_text, kw_step_possible, kw_step_stuck, kw_step_least, kw_step_plan, kv_step, kw_finish_step, kw_finish_finish, kw_finish_undo, kw_finish_names, kw_finish_places, kw_finish_text, kw_finish_possible, kw_finish_stuck, kw_finish_least, kw_finish_plan, kv_finish, kw_undo_step, kw_undo_finish, kw_undo_undo, kw_undo_names, kw_undo_places, kw_undo_text, kw_undo_possible, kw_undo_stuck, kw_undo_least, kw_undo_plan, kv_undo, kw_names_step, kw_names_finish, kw_names_undo, kw_names_names, kw_names_places, kw_names_text, kw_names_possible, kw_names_stuck, kw_names_least, kw_names_plan, kv_names, kw_places_step, kw_places_finish, kw_places_undo, kw_places_names, kw_places_places, kw_places_text, kw_places_possible, kw_places_stuck, kw_places_least, kw_places_plan, kv_places, kw_text_step, kw_text_finish, kw_text_undo, kw_text_names, kw_text_places, kw_text_text, kw_text_possible, kw_text_stuck, kw_text_least, kw_text_plan, kv_text, Option.isSome_some, Option.isSome_none, if_true, if_false, Bool.false_eq_true, reduceIte]
        exact NewK.of (Led.nil H) fun t H1 L => (L.sink).elim fun B1 z => q t B1 H1 z.1 z.2.1 z.2.2
    | some k =>
      obtain ⟨hw, hk⟩ : (wd = "run" ∨ wd = "step" ∨ wd = "finish") ∧ k < 10 ^ 9 := hc
      unfold rowS
      have hns : (32 : Nat) ∉ TL.tl wd := by
        rcases hw with rfl | rfl | rfl
        · exact nosp_run
        · exact nosp_step
        · exact nosp_finish
      have hlen : (wd ++ (" " : Str) ++ nT k).length ≤ 100 := by
        have h1 := nT_len (k := 9) (by decide) hk
        rw [Str.length_append, Str.length_append]
        have : wd.length ≤ 10 := by rcases hw with rfl | rfl | rfl <;> decide +kernel
        have : (" " : Str).length = 1 := rfl
        omega
      walk_at "v2"
      rw [s_seq, s_ifS]
      simp only [t_test, e_op, e_var, e_c, List.getElem?_cons_zero, Option.some.injEq, exists_eq_left', x_inKd, row_plain, Option.isSome_none, V.bl.injEq, Bool.false_eq_true, if_false, s_next]
      walk_at "v2"
      refine ⟨by decide, Nat.le_trans hlen (by decide), NewK.of (Led.nil H) fun t1 H1 L => ?_⟩
      obtain ⟨B1, s1, ht1, L⟩ := L.sink
      rw [part_row hns] at ht1
      refine UnpK.of (.inl (.inl (L.sm _ _ ht1))) rfl ?_
      walk_at "v1"
      refine ⟨wd, k, rfl, hw, hk, ?_⟩
      refine NewK.of L fun t2 H2 L => ?_
      obtain ⟨B2, s2, ht2, L⟩ := L.sink
      exact q t2 B2 H2 (s1.trans s2) ht2 L
/-! cut show_or -/
def numV : Option Nat → V
  | none => .non
  | some k => .int (k : Int)
def numT (e : Str) : Option Nat → Str
  | none => e
  | some k => nT k
def sp_show_or (K : PySem.W.Frag) : Sp := fun vs H Q _ => ∃ (o : Option Nat) (e : Str), vs = [numV o, .str e] ∧ (∀ k, o = some k → k < 2 ^ 100) ∧ Q (.str (numT e o)) H
theorem ok_show_or (m : Mo w K mg d) (sm : SM bs) : FnOk P w K mg bs CX0 1 d.a_show_or d.fd_show_or ["number", "otherwise"] (sp_show_or K) := by
  refine m.F_show_or.ok (k := 0) sc_show_or (fun vs H Q E h => ?_) (fun cdv A fr s H vs Q E hr h => ?_)
  · obtain ⟨o, e, rfl, hb, q⟩ := h
    rfl
  · obtain ⟨o, e, rfl, hb, q⟩ := h
    refine ⟨_, (pss_cons (ps_if (pt_cmpR op_isN (pv 0) pe_non (nomark _))
      (pss_one (ps_ret (pv 1)))
      pss_nil)
      (pss_one (ps_ret (pe_callTy cr_strI (by rfl) m.n_str (by decide +kernel) (pa_cons (pv 0) pa_nil))))), ?_⟩
    cases o with
    | none =>
      unfold numV
      walk_at "vc"
      exact q
    | some k =>
      unfold numV
      walk_at "vc"
      exact ⟨Nat.lt_of_lt_of_le (PySem.Flt.log2_lt_of (k := 100) (by decide) (by rw [Int.natAbs_natCast]; exact hb k rfl)) (by decide), q⟩
/-! cut names -/
def nmS : V → Str
  | .int i => Str.ofString (toString i)
  | _ => "-"
def namesT (g : Gs) : Str := Txt.join " " (g.names.map nmS)
def placesT (g : Gs) : Str := Txt.join " " (g.pos.map fun c => Str.ofString (toString (nmC c)))
theorem nmC_nn (c : Cell) : 0 ≤ nmC c := by
  unfold nmC
  have : (0 : Int) ≤ ((c.1 : Int) + (c.2 : Int)) * ((c.1 : Int) + (c.2 : Int) + 1) := Int.mul_nonneg (by omega) (by omega)
  omega
theorem nmC_lt {c : Cell} {b : Nat} (h : c.1 + c.2 ≤ b) (hb : b ≤ 10 ^ 7) : nmC c < 10 ^ 15 := by
  unfold nmC
  have h1 : ((c.1 : Int) + (c.2 : Int)) * ((c.1 : Int) + (c.2 : Int) + 1) ≤ 10 ^ 7 * (10 ^ 7 + 1) := Int.mul_le_mul (by omega) (by omega) (by omega) (by omega)
  omega
theorem sI_nat {i : Int} (h : 0 ≤ i) : Str.ofString (toString i) = nT i.toNat := by unfold nT; rw [Int.toNat_of_nonneg h]
theorem sI_len {i : Int} (h0 : 0 ≤ i) (h : i < 10 ^ 15) : (Str.ofString (toString i)).length ≤ 15 := by
  rw [sI_nat h0]
  exact nT_len (k := 15) (by decide) (by omega)
theorem sum_le_len {l : List Str} {b : Nat} (h : ∀ x ∈ l, x.length ≤ b) : (l.map (·.length)).sum ≤ l.length * b := by
  induction l with
  | nil => exact Nat.zero_le _
  | cons x r ih =>
    have h1 := h x List.mem_cons_self
    have h2 := ih fun y hy => h y (List.mem_cons_of_mem _ hy)
    rw [List.map_cons, List.sum_cons, List.length_cons, Nat.succ_mul]
    omega
/-- the names are none, or small numbers -/
theorem names_of {g : Gs} {n b : Nat} (wf : g.Ln n) (hb : ∀ c ∈ g.pos, c.1 + c.2 ≤ b) (hb2 : b ≤ 10 ^ 7) : ∀ x ∈ g.names, ∃ o : Option Nat, x = numV o ∧ nmS x = numT "-" o ∧ ∀ k, o = some k → k < 10 ^ 15 := fun x hx => by
  obtain ⟨i, hi, e⟩ := List.mem_iff_getElem.mp hx
  have hin : i < n := by rw [← Gs.names_len wf]; exact hi
  have h := Gs.names_at (p := i) wf hin
  rw [List.getElem?_eq_getElem hi, e] at h
  have h := Option.some.inj h
  by_cases c : g.fin[i]? = some true
  · rw [if_pos c] at h
    have h0 := nmC_nn (g.at i)
    have hp : g.at i ∈ g.pos := by
      unfold Gs.at
      rw [List.getD_eq_getElem?_getD, List.getElem?_eq_getElem (by rw [wf.lp]; exact hin)]
      exact List.getElem_mem _
    have h1 := nmC_lt (hb _ hp) hb2
    refine ⟨some (nmC (g.at i)).toNat, ?_, ?_, fun k hk => by cases hk; omega⟩
    · rw [h]
      show V.int _ = V.int (((nmC (g.at i)).toNat : Nat) : Int)
      rw [Int.toNat_of_nonneg h0]
    · rw [h]
      exact sI_nat h0
  · rw [if_neg c] at h
    exact ⟨none, h, by rw [h]; rfl, fun k hk => by cases hk⟩
theorem numT_len {o : Option Nat} (hb : ∀ k, o = some k → k < 10 ^ 15) : (numT "-" o).length ≤ 20 := by
  cases o with
  | none => decide +kernel
  | some k => exact Nat.le_trans (nT_len (k := 15) (by decide) (hb k rfl)) (by decide)
theorem RunR.newAt {d : Ad} {B H : Hp} {R : Rad} {n : Nat} {sch mks : List Nat} {l : List (Addr × HO)} {p : Addr} {o : HO} (h : RunR d B H R n sch mks l) (hp : H p = none) : RunR d B (upd H p o) R n sch mks ((p, o) :: l) := by
  obtain ⟨rest, L, back⟩ := h.front
  exact back B _ ((p, o) :: l) (Same.refl B) (L.new hp)
theorem RunR.appK {d : Ad} {B H : Hp} {R : Rad} {n : Nat} {sch mks : List Nat} {l : List (Addr × HO)} {p : Addr} {xs : List V} {v : V} {G : Hp → Prop} (h : RunR d B H R n sch mks ((p, .lst xs) :: l)) (hl : xs.length < sizeLine) (k : ∀ H1, RunR d B H1 R n sch mks ((p, .lst (xs ++ [v])) :: l) → G H1) : AppK p v H G := by
  obtain ⟨rest, L, back⟩ := h.front
  have L : Led B H ((p, .lst xs) :: (l ++ rest)) := L
  exact AppK.of L (.head _) hl .hd fun H1 L => k H1 (back B H1 ((p, .lst (xs ++ [v])) :: l) (Same.refl B) L)
def sp_names (K : PySem.W.Frag) (d : Ad) : Sp := fun vs H Q _ => ∃ (B : Hp) (R : Rad) (n : Nat) (sch mks : List Nat) (l : List (Addr × HO)), vs = [.ref R.r] ∧ RunR d B H R n sch mks l ∧ n ≤ 40 ∧ sch.length ≤ 10 ^ 6 ∧ ∀ H', RunR d B H' R n sch mks l → Q (.str (namesT ((Gs.init n).run sch))) H'
theorem ok_names (m : Mo w K mg d) (sm : SM bs) (G_Run_names_now : FnOk P w K mg bs CX0 1 d.a_Run_names_now d.fd_Run_names_now ["self"] (sp_Run_names_now K d)) (G_show_or : FnOk P w K mg bs CX0 1 d.a_show_or d.fd_show_or ["number", "otherwise"] (sp_show_or K)) : FnOk P w K mg bs CX0 3 d.a_names d.fd_names ["run"] (sp_names K d) := by
  obtain ⟨t_NOTHING, h_NOTHING⟩ := m.mg_NOTHING
  refine m.F_names.ok (k := 2) sc_names (fun vs H Q E h => ?_) (fun cdv A fr s H vs Q E hr h => ?_)
  · obtain ⟨B, R, n, sch, mks, l, rfl, RR, hn, hm, q⟩ := h
    rfl
  · obtain ⟨B, R, n, sch, mks, l, rfl, RR, hn, hm, q⟩ := h
    refine ⟨_, (pss_one (ps_ret (pe_bm PySem.F.plainAttrs_str PySem.F.slot_str_join PySem.F.type_str_join mt_joinS pe_str (pa_cons (pe_lc (own := [("name", 1)]) (by rfl) sc_names.nd (pi_list (pe_prop (pv 0) m.C_Run m.P_Run_names_now G_Run_names_now (hr.mono (by decide)) m.b_Run_names_now .nil pass0 rfl)) (blkOk_by (own := [("name", 1)]) (N := ["run", "name"]) (sc := defScope s_names) (by decide +kernel)) (fun _ _ _ _ _ => by exact (pg_name (i := 1) sc_names.nd rfl (.inl rfl))) (fun _ _ _ _ _ => by exact pts_nil) (fun _ _ _ _ _ => by exact (pe_call G_show_or (hr.mono (by decide)) (by rfl) m.g_show_or m.F_show_or.kp m.b_show_or .nil pass0 (pa_cons (pv 1) (pa_cons (pe_glob (v := .str "-") rfl h_NOTHING ⟨_, rfl⟩) pa_nil))))) pa_nil)))), ?_⟩
    obtain ⟨W0, xs0, cs0, rp0, F0, L0⟩ := RunR.view.mp RR
    have wf := F0.2.1.toLn
    have hno := names_of wf F0.2.2.bd (by omega)
    have hnl := Gs.names_len wf
    walk_at "vc"
    obtain ⟨fs, e1⟩ := RR.at
    refine ⟨R.dx, fs, e1, B, R, n, sch, mks, l, rfl, RR, fun H1 p RR => ?_⟩
    refine ⟨p, rfl, ⟨_, RR.led.lstAt (.head _)⟩, ?_⟩
    refine comp_list (xs := ((Gs.init n).run sch).names) (fun j z acc H' => acc = ((((Gs.init n).run sch).names.take j).map nmS).map V.str ∧ RunR d B H' R n sch mks ((z, .lst acc) :: (p, .lst ((Gs.init n).run sch).names) :: l)) (fun z hz => ⟨rfl, RR.newAt hz⟩) (fun j z acc H' h => h.2.led.lstAt (.tail _ (.head _))) ?_ ?_
    · rintro z acc H2 ⟨rfl, RR⟩
      rw [List.take_length] at RR
      refine x_joinS.mpr ⟨((Gs.init n).run sch).names.map nmS, .inl (RR.led.lstAt (.head _)), ?_, ?_⟩
      · have := sum_le_len (l := ((Gs.init n).run sch).names.map nmS) (b := 20) (fun x hx => by
          obtain ⟨y, hy, rfl⟩ := List.mem_map.mp hx
          obtain ⟨o, _, e, hb⟩ := hno y hy
          rw [e]
          exact numT_len hb)
        rw [List.length_map, hnl] at this ⊢
        have e1 : (" " : Str).length = 1 := rfl
        rw [e1]
        omega
      · exact q _ (RR.sub (List.sublist_append_right [_, _] l))
    · rintro j z acc H2 x N hx ⟨rfl, RR⟩ hN
      obtain ⟨o, e1, e2, hb⟩ := hno x (List.mem_of_getElem? hx)
      have hj : j < n := by rw [← hnl]; exact (List.getElem?_eq_some_iff.mp hx).1
      unfold TurnK
      walk_at "v1"
      rw [e1]
      refine ⟨o, "-", rfl, fun k hk => Nat.lt_trans (hb k hk) (by decide), ?_⟩
      rw [← e2]
      refine RR.appK (Nat.lt_of_le_of_lt (m := 100) (by rw [List.length_map, List.length_map, List.length_take]; omega) (by decide)) fun H3 RR => hN _ _ ⟨?_, RR⟩
      rw [List.take_add_one, hx, List.map_append, List.map_append]
      rfl
/-! cut places -/
def sp_places (K : PySem.W.Frag) (d : Ad) : Sp := fun vs H Q _ => ∃ (B : Hp) (R : Rad) (n : Nat) (sch mks : List Nat) (l : List (Addr × HO)), vs = [.ref R.r] ∧ RunR d B H R n sch mks l ∧ n ≤ 40 ∧ sch.length ≤ 10 ^ 6 ∧ ∀ B' H', Same B B' → RunR d B' H' R n sch mks l → Q (.str (placesT ((Gs.init n).run sch))) H'
theorem ok_places (m : Mo w K mg d) (sm : SM bs) (G_Run_places_now : FnOk P w K mg bs CX0 5 d.a_Run_places_now d.fd_Run_places_now ["self"] (sp_Run_places_now K d)) : FnOk P w K mg bs CX0 7 d.a_places d.fd_places ["run"] (sp_places K d) := by
  refine m.F_places.ok (k := 6) sc_places (fun vs H Q E h => ?_) (fun cdv A fr s H vs Q E hr h => ?_)
  · obtain ⟨B, R, n, sch, mks, l, rfl, RR, hn, hm, q⟩ := h
    rfl
  · obtain ⟨B, R, n, sch, mks, l, rfl, RR, hn, hm, q⟩ := h
    refine ⟨_, (pss_one (ps_ret (pe_bm PySem.F.plainAttrs_str PySem.F.slot_str_join PySem.F.type_str_join mt_joinS pe_str (pa_cons (pe_lc (own := [("name", 1), ("done", 2)]) (by rfl) sc_places.nd (pi_list (pe_prop (pv 0) m.C_Run m.P_Run_places_now G_Run_places_now (hr.mono (by decide)) m.b_Run_places_now .nil pass0 rfl)) (blkOk_by (own := [("name", 1), ("done", 2)]) (N := ["run", "name", "done"]) (sc := defScope s_places) (by decide +kernel)) (fun _ _ _ _ _ => by exact (show PG _ _ (gTup K 2 _) from pg_tup (by rfl) (pgs_cons (pg_name (i := 1) sc_places.nd rfl (.inl rfl)) (pgs_cons (pg_name (i := 2) sc_places.nd rfl (.inl rfl)) pgs_nil)))) (fun _ _ _ _ _ => by exact pts_nil) (fun _ _ _ _ _ => by exact (pe_callTy (show CallR _ _ rStrI from cr_strI) (by rfl) m.n_str (by decide +kernel) (pa_cons (pv 1) pa_nil)))) pa_nil)))), ?_⟩
    obtain ⟨W0, xs0, cs0, rp0, F0, L0⟩ := RunR.view.mp RR
    have wf := F0.2.1.toLn
    have hbd := F0.2.2.bd
    walk_at "vc"
    obtain ⟨fs, e1⟩ := RR.at
    refine ⟨R.dx, fs, e1, B, R, n, sch, mks, l, rfl, RR, hn, by omega, fun B1 H1 p out s1 RR ht => ?_⟩
    have hol : out.length = n := by rw [ht.1, placesV_len wf]
    have hpl : ((Gs.init n).run sch).pos.length = n := wf.lp
    refine ⟨p, rfl, ⟨_, RR.led.lstAt (.head _)⟩, ?_⟩
    refine comp_list (xs := out) (fun j z acc H' => acc = ((((Gs.init n).run sch).pos.take j).map fun c => Str.ofString (toString (nmC c))).map V.str ∧ RunR d B1 H' R n sch mks ((z, .lst acc) :: (p, .lst out) :: l)) (fun z hz => ⟨rfl, RR.newAt hz⟩) (fun j z acc H' h => h.2.led.lstAt (.tail _ (.head _))) ?_ ?_
    · rintro z acc H2 ⟨rfl, RR⟩
      rw [hol, List.take_of_length_le (Nat.le_of_eq hpl)] at RR
      refine x_joinS.mpr ⟨((Gs.init n).run sch).pos.map fun c => Str.ofString (toString (nmC c)), .inl (RR.led.lstAt (.head _)), ?_, ?_⟩
      · have := sum_le_len (l := ((Gs.init n).run sch).pos.map fun c => Str.ofString (toString (nmC c))) (b := 15) (fun x hx => by
          obtain ⟨y, hy, rfl⟩ := List.mem_map.mp hx
          exact sI_len (nmC_nn y) (nmC_lt (hbd y hy) (by omega)))
        rw [List.length_map, hpl] at this ⊢
        have e1 : (" " : Str).length = 1 := rfl
        rw [e1]
        omega
      · exact q B1 _ s1 (RR.sub (List.sublist_append_right [_, _] l))
    · rintro j z acc H2 x N hx ⟨rfl, RR⟩ hN
      have hj : j < n := by rw [← hol]; exact (List.getElem?_eq_some_iff.mp hx).1
      obtain ⟨c, hc⟩ : ∃ c, ((Gs.init n).run sch).pos[j]? = some c := ⟨_, List.getElem?_eq_getElem (by omega)⟩
      obtain ⟨k, hk⟩ : ∃ c, ((Gs.init n).run sch).dn[j]? = some c := ⟨_, List.getElem?_eq_getElem (by rw [wf.ld]; omega)⟩
      have hz : (((Gs.init n).run sch).pos.zip ((Gs.init n).run sch).dn)[j]? = some (c, k) := List.getElem?_zip_eq_some.mpr ⟨hc, hk⟩
      obtain ⟨t, et, htt⟩ := ht.2 j [.int (nmC c), .int (k : Int)] (by unfold placesV; rw [List.getElem?_map, hz]; rfl)
      rw [hx] at et
      cases et
      have hcb := hbd c (List.mem_of_getElem? hc)
      have n0 := nmC_nn c
      have n1 := nmC_lt hcb (by omega)
      unfold TurnK
      walk_at "v1"
      refine UnpK.of (.inl (.inl (RR.led.sm _ _ htt))) rfl ?_
      walk_at "v1"
      refine ⟨Nat.lt_of_lt_of_le (PySem.Flt.log2_lt_of (k := 60) (by decide) (by omega)) (by decide), ?_⟩
      refine RR.appK (Nat.lt_of_le_of_lt (m := 100) (by rw [List.length_map, List.length_map, List.length_take]; omega) (by decide)) fun H3 RR => hN _ _ ⟨?_, RR⟩
      rw [List.take_add_one, hc, List.map_append, List.map_append]
      rfl
/-! cut text -/
def sp_text (K : PySem.W.Frag) (d : Ad) : Sp := fun vs H Q _ => ∃ (B : Hp) (R : Rad) (n : Nat) (sch mks : List Nat) (l : List (Addr × HO)), vs = [.ref R.r] ∧ RunR d B H R n sch mks l ∧ 1 ≤ n ∧ n ≤ 40 ∧ sch.length ≤ 30000 ∧ ∀ B' H', Same B B' → RunR d B' H' R n sch mks l → Q (.str (runT n sch)) H'
theorem ok_text (m : Mo w K mg d) (sm : SM bs) (G_show_run : FnOk P w K mg bs CX0 9 d.a_show_run d.fd_show_run ["count", "schedule"] (sp_show_run K)) (G_Run_process_count : FnOk P w K mg bs CX0 1 d.a_Run_process_count d.fd_Run_process_count ["self"] (sp_Run_process_count K d)) (G_Run_steps_done : FnOk P w K mg bs CX0 1 d.a_Run_steps_done d.fd_Run_steps_done ["self"] (sp_Run_steps_done K d)) : FnOk P w K mg bs CX0 10 d.a_text d.fd_text ["run"] (sp_text K d) := by
  refine m.F_text.ok (k := 9) sc_text (fun vs H Q E h => ?_) (fun cdv A fr s H vs Q E hr h => ?_)
  · obtain ⟨B, R, n, sch, mks, l, rfl, RR, h1, hn, hm, q⟩ := h
    rfl
  · obtain ⟨B, R, n, sch, mks, l, rfl, RR, h1, hn, hm, q⟩ := h
    refine ⟨_, (pss_one (ps_ret (pe_call G_show_run (hr.mono (by decide)) (by rfl) m.g_show_run m.F_show_run.kp m.b_show_run .nil pass0 (pa_cons (pe_prop (pv 0) m.C_Run m.P_Run_process_count G_Run_process_count (hr.mono (by decide)) m.b_Run_process_count .nil pass0 rfl) (pa_cons (pe_prop (pv 0) m.C_Run m.P_Run_steps_done G_Run_steps_done (hr.mono (by decide)) m.b_Run_steps_done .nil pass0 rfl) pa_nil))))), ?_⟩
    walk_at "vc"
    obtain ⟨fs, e1⟩ := RR.at
    refine ⟨R.dx, fs, e1, B, R, n, sch, mks, l, rfl, RR, ?_⟩
    refine ⟨R.dx, fs, e1, B, R, n, sch, mks, l, rfl, RR, fun H1 p RR => ?_⟩
    obtain ⟨rest, L, back⟩ := RR.front
    refine ⟨B, _, n, sch, p, rfl, L, h1, hn, fun B' H' s L => L.lstAt (.head _), RR.1, hm, fun B' H' s L => ?_⟩
    exact q B' H' s ((back B' H' _ s L).sub (List.sublist_cons_self _ _))
/-! cut undo -/
def sp_undo (K : PySem.W.Frag) (d : Ad) : Sp := fun vs H Q _ => ∃ (B : Hp) (R : Rad) (n : Nat) (sch mks : List Nat) (k : Nat) (l : List (Addr × HO)), vs = [.ref R.r] ∧ RunR d B H R n sch (mks ++ [k]) l ∧ 1 ≤ n ∧ n ≤ 40 ∧ sch.length ≤ 1000000 ∧ mks.length ≤ 1000000 ∧ ∀ B' H', Same B B' → RunR d B' H' R n (sch.take k) mks l → Q (.str "ok") H'
theorem ok_undo (m : Mo w K mg d) (sm : SM bs) (G_Run_undo : FnOk P w K mg bs CX0 10 d.a_Run_undo d.fd_Run_undo ["self"] (sp_Run_undo K d)) : FnOk P w K mg bs CX0 11 d.a_undo d.fd_undo ["run"] (sp_undo K d) := by
  obtain ⟨t_DONE, h_DONE⟩ := m.mg_DONE
  refine m.F_undo.ok (k := 10) sc_undo (fun vs H Q E h => ?_) (fun cdv A fr s H vs Q E hr h => ?_)
  · obtain ⟨B, R, n, sch, mks, k, l, rfl, RR, h1, hn, hm, hml, q⟩ := h
    rfl
  · obtain ⟨B, R, n, sch, mks, k, l, rfl, RR, h1, hn, hm, hml, q⟩ := h
    refine ⟨_, (pss_cons (ps_expr (pe_meth0 (pv 0) m.C_Run m.M_Run_undo G_Run_undo (hr.mono (by decide)) m.b_Run_undo .nil pass0))
      (pss_one (ps_ret (pe_glob (v := .str "ok") rfl h_DONE ⟨_, rfl⟩)))), ?_⟩
    walk_at "vc"
    obtain ⟨w0, e1⟩ := RR.at2
    refine ⟨R.dx, _, e1, by walk_at "fs", ?_⟩
    refine ⟨B, R, n, sch, mks, k, l, rfl, RR, h1, hn, hm, hml, fun B' H' s RR => ?_⟩
    exact q B' H' s RR
/-! cut finish -/
def sp_finish (K : PySem.W.Frag) (d : Ad) : Sp := fun vs H Q _ => ∃ (B : Hp) (R : Rad) (n : Nat) (sch mks : List Nat) (p S : Nat) (l : List (Addr × HO)), vs = [.ref R.r, .int (p : Int)] ∧ RunR d B H R n sch mks l ∧ ((Gs.init n).run sch).Ok p ∧ mks.length ≤ 100000 ∧ sch.length + 4 * S + 40 ≤ 1000000 ∧ (∀ c, ((Gs.init n).run sch).y c = true → c.1 + c.2 ≤ S) ∧ (((Gs.init n).run sch).at p).1 + (((Gs.init n).run sch).at p).2 ≤ S ∧
  ∀ B' H' j, Same B B' → j ≤ 4 * S + 17 → RunR d B' H' R n (sch ++ List.replicate j p) (mks ++ [sch.length]) l → ((Gs.init n).run (sch ++ List.replicate j p)).fin[p]? = some true → Q (.str (Str.ofString (toString (nmC (((Gs.init n).run (sch ++ List.replicate j p)).at p))))) H'
theorem ok_finish (m : Mo w K mg d) (sm : SM bs) (G_Run_finish : FnOk P w K mg bs CX0 7 d.a_Run_finish d.fd_Run_finish ["self", "process"] (sp_Run_finish K d)) : FnOk P w K mg bs CX0 8 d.a_finish d.fd_finish ["run", "process"] (sp_finish K d) := by
  refine m.F_finish.ok (k := 7) sc_finish (fun vs H Q E h => ?_) (fun cdv A fr s H vs Q E hr h => ?_)
  · obtain ⟨B, R, n, sch, mks, p, S, l, rfl, RR, ok, hml, hm, hy, hc, q⟩ := h
    rfl
  · obtain ⟨B, R, n, sch, mks, p, S, l, rfl, RR, ok, hml, hm, hy, hc, q⟩ := h
    refine ⟨_, (pss_one (ps_ret (pe_callTy cr_strI (by rfl) m.n_str (by decide +kernel) (pa_cons (pe_meth (pv 0) m.C_Run m.M_Run_finish G_Run_finish (hr.mono (by decide)) m.b_Run_finish .nil pass0 (pa_cons (pv 1) pa_nil)) pa_nil)))), ?_⟩
    walk_at "vc"
    obtain ⟨w0, e1⟩ := RR.at2
    refine ⟨R.dx, _, e1, by walk_at "fs", ?_⟩
    refine ⟨B, R, n, sch, mks, p, S, l, rfl, RR, ok, hml, hm, hy, hc, fun B' H' j s hj RR hf => ?_⟩
    obtain ⟨W0, xs0, cs0, rp0, F0, L0⟩ := RunR.view.mp RR
    have hp : ((Gs.init n).run (sch ++ List.replicate j p)).at p ∈ ((Gs.init n).run (sch ++ List.replicate j p)).pos := by
      unfold Gs.at
      have hpn : p < n := by rw [← F0.2.1.toLn.lf]; exact (List.getElem?_eq_some_iff.mp hf).1
      rw [List.getD_eq_getElem?_getD, List.getElem?_eq_getElem (by rw [F0.2.1.toLn.lp]; exact hpn)]
      exact List.getElem_mem _
    have hb := F0.2.2.bd _ hp
    have n0 := nmC_nn (((Gs.init n).run (sch ++ List.replicate j p)).at p)
    have n1 := nmC_lt hb (by rw [List.length_append, List.length_replicate]; omega)
    refine x_strI.mpr ⟨Nat.lt_of_lt_of_le (PySem.Flt.log2_lt_of (k := 60) (by decide) (by omega)) (by decide), ?_⟩
    exact q B' H' j s hj RR hf
/-! cut step -/
def stT : Option (Str × Int) → Str
  | none => "-"
  | some (s, i) => s ++ (" " : Str) ++ Str.ofString (toString i)
theorem res_small {n p : Nat} {sch : List Nat} {st : Str} {i : Int} (hb : ∀ c ∈ ((Gs.init n).run sch).pos, c.1 + c.2 ≤ sch.length) (ok : ((Gs.init n).run sch).Ok p) (wf : ((Gs.init n).run sch).Ln n) (hm : sch.length ≤ 10 ^ 6) (h : resT (((Gs.init n).run sch).res p) = some (st, i)) : st.length ≤ 10 ∧ 0 ≤ i ∧ i < 10 ^ 15 := by
  have hpn : p < n := by rw [← wf.lf]; exact (List.getElem?_eq_some_iff.mp (show ((Gs.init n).run sch).fin[p]? = some false from ok)).1
  have hp : ((Gs.init n).run sch).at p ∈ ((Gs.init n).run sch).pos := by
    unfold Gs.at
    rw [List.getD_eq_getElem?_getD, List.getElem?_eq_getElem (by rw [wf.lp]; exact hpn)]
    exact List.getElem_mem _
  have hc := hb _ hp
  unfold Gs.res at h
  split at h
  · cases h; exact ⟨by decide +kernel, nmC_nn _, nmC_lt (b := sch.length + 1) (by first | omega | (dsimp only; omega)) (by omega)⟩
  · split at h
    · split at h
      · cases h; exact ⟨by decide +kernel, nmC_nn _, nmC_lt (b := sch.length + 1) (by first | omega | (dsimp only; omega)) (by omega)⟩
      · cases h; exact ⟨by decide +kernel, nmC_nn _, nmC_lt (b := sch.length + 1) (by first | omega | (dsimp only; omega)) (by omega)⟩
    · cases h
def sp_step (K : PySem.W.Frag) (d : Ad) : Sp := fun vs H Q _ => ∃ (B : Hp) (R : Rad) (n : Nat) (sch mks : List Nat) (p : Nat) (l : List (Addr × HO)), vs = [.ref R.r, .int (p : Int)] ∧ RunR d B H R n sch mks l ∧ ((Gs.init n).run sch).Ok p ∧ mks.length ≤ 100000 ∧ sch.length + 40 ≤ 1000000 ∧
  ∀ B' H', Same B B' → RunR d B' H' R n (sch ++ [p]) (mks ++ [sch.length]) l → Q (.str (stT (resT (((Gs.init n).run sch).res p)))) H'
theorem ok_step (m : Mo w K mg d) (sm : SM bs) (G_Run_step : FnOk P w K mg bs CX0 8 d.a_Run_step d.fd_Run_step ["self", "process"] (sp_Run_step K d)) : FnOk P w K mg bs CX0 9 d.a_step d.fd_step ["run", "process"] (sp_step K d) := by
  obtain ⟨t_NOTHING, h_NOTHING⟩ := m.mg_NOTHING
  refine m.F_step.ok (k := 8) sc_step (fun vs H Q E h => ?_) (fun cdv A fr s H vs Q E hr h => ?_)
  · obtain ⟨B, R, n, sch, mks, p, l, rfl, RR, ok, hml, hm, q⟩ := h
    rfl
  · obtain ⟨B, R, n, sch, mks, p, l, rfl, RR, ok, hml, hm, q⟩ := h
    refine ⟨_, (pss_cons (ps_asg (pe_meth (pv 0) m.C_Run m.M_Run_step G_Run_step (hr.mono (by decide)) m.b_Run_step .nil pass0 (pa_cons (pv 1) pa_nil)) (pg_name (i := 2) sc_step.nd rfl (.inl rfl)))
      (pss_cons (ps_if (pt_cmpR op_isN (pv 2) pe_non (nomark _))
      (pss_one (ps_ret (pe_glob (v := .str "-") rfl h_NOTHING ⟨_, rfl⟩)))
      pss_nil)
      (pss_cons (ps_asg (pv 2) (show PG _ _ (gTup K 2 _) from pg_tup (by rfl) (pgs_cons (pg_name (i := 3) sc_step.nd rfl (.inl rfl)) (pgs_cons (pg_name (i := 4) sc_step.nd rfl (.inl rfl)) pgs_nil))))
      (pss_one (ps_ret (pe_joined (.cons (pe_fmt (pv 3)) (.cons pe_str (.cons (pe_fmt (pv 4)) .nil))))))))), ?_⟩
    obtain ⟨W0, xs0, cs0, rp0, F0, L0⟩ := RunR.view.mp RR
    have RR0 : GVal (Gs.init n) sch ∧ ((Gs.init n).run sch).Wf n ∧ ∀ c ∈ ((Gs.init n).run sch).pos, c.1 + c.2 ≤ sch.length := ⟨F0.1, F0.2.1, F0.2.2.bd⟩
    obtain ⟨_, RR0⟩ := RR0
    walk_at "v2"
    obtain ⟨w0, e1⟩ := RR.at2
    refine ⟨R.dx, _, e1, by walk_at "fs", ?_⟩
    refine ⟨B, R, n, sch, mks, p, l, rfl, RR, ok, hml, hm, fun B' H' v s RR hv => ?_⟩
    cases hr : resT (((Gs.init n).run sch).res p) with
    | none =>
      rw [hr] at hv
      rw [show v = .non from hv]
      walk_at "vc"
      have q := q B' H' s RR
      rw [hr] at q
      exact q
    | some e =>
      obtain ⟨st, i⟩ := e
      rw [hr] at hv
      obtain ⟨t, rfl, ht⟩ := hv
      walk_at "vc"
      refine UnpK.of (.inl (.inl (RR.led.sm _ _ ht))) rfl ?_
      obtain ⟨hsl, i0, i1⟩ := res_small (sch := sch) RR0.2 ok RR0.1.toLn (by omega) hr
      have hil := sI_len i0 i1
      walk_at "vc"
      refine .inl ⟨st, rfl, Nat.le_trans hsl (by decide), ?_⟩
      refine JoK.of (by rw [show Str.empty.length = 0 from rfl]; omega) ?_
      refine JoK.of (by rw [Str.length_append, show Str.empty.length = 0 from rfl]; have : (" " : Str).length = 1 := rfl; omega) ?_
      walk_at "vc"
      refine FmtK.int (Nat.lt_of_lt_of_le (m := 2 ^ 60) (by omega) (Nat.pow_le_pow_right (by decide) (by decide))) ?_
      refine JoK.of (by rw [Str.length_append, Str.length_append, show Str.empty.length = 0 from rfl]; have : (" " : Str).length = 1 := rfl; have : (Str.ofString (toString i)).length ≤ 15 := hil; omega) ?_
      have q := q B' H' s RR
      rw [hr] at q
      rw [Str.empty_append]
      exact q
/-! cut Desk_execute -/
def ExRun (d : Ad) (D : Dad) (row : Str) (H : Hp) (Q : VK) : Prop := ∃ (B : Hp) (l : List (Addr × HO)) (v : V) (k : Nat), row = rowS "run" (some k) ∧ 1 ≤ k ∧ k ≤ 40 ∧ Led B H (deskO d D v :: l) ∧ ∀ B' H' R, Same B B' → RunR d B' H' R k [] [] (deskO d D (.ref R.r) :: l) → Q (.str "ok") H'
def ExStep (d : Ad) (D : Dad) (row : Str) (H : Hp) (Q : VK) : Prop := ∃ (B : Hp) (R : Rad) (n : Nat) (sch mks : List Nat) (p : Nat) (l : List (Addr × HO)), row = rowS "step" (some p) ∧ RunR d B H R n sch mks (deskO d D (.ref R.r) :: l) ∧ p < 10 ^ 9 ∧ ((Gs.init n).run sch).Ok p ∧ mks.length ≤ 100000 ∧ sch.length + 40 ≤ 1000000 ∧
  ∀ B' H', Same B B' → RunR d B' H' R n (sch ++ [p]) (mks ++ [sch.length]) (deskO d D (.ref R.r) :: l) → Q (.str (stT (resT (((Gs.init n).run sch).res p)))) H'
def ExFin (d : Ad) (D : Dad) (row : Str) (H : Hp) (Q : VK) : Prop := ∃ (B : Hp) (R : Rad) (n : Nat) (sch mks : List Nat) (p S : Nat) (l : List (Addr × HO)), row = rowS "finish" (some p) ∧ RunR d B H R n sch mks (deskO d D (.ref R.r) :: l) ∧ p < 10 ^ 9 ∧ ((Gs.init n).run sch).Ok p ∧ mks.length ≤ 100000 ∧ sch.length + 4 * S + 40 ≤ 1000000 ∧ (∀ c, ((Gs.init n).run sch).y c = true → c.1 + c.2 ≤ S) ∧ (((Gs.init n).run sch).at p).1 + (((Gs.init n).run sch).at p).2 ≤ S ∧
  ∀ B' H' j, Same B B' → j ≤ 4 * S + 17 → RunR d B' H' R n (sch ++ List.replicate j p) (mks ++ [sch.length]) (deskO d D (.ref R.r) :: l) → ((Gs.init n).run (sch ++ List.replicate j p)).fin[p]? = some true → Q (.str (Str.ofString (toString (nmC (((Gs.init n).run (sch ++ List.replicate j p)).at p))))) H'
def ExUndo (d : Ad) (D : Dad) (row : Str) (H : Hp) (Q : VK) : Prop := ∃ (B : Hp) (R : Rad) (n : Nat) (sch mks : List Nat) (k : Nat) (l : List (Addr × HO)), row = "undo" ∧ RunR d B H R n sch (mks ++ [k]) (deskO d D (.ref R.r) :: l) ∧ 1 ≤ n ∧ n ≤ 40 ∧ sch.length ≤ 1000000 ∧ mks.length ≤ 1000000 ∧ ∀ B' H', Same B B' → RunR d B' H' R n (sch.take k) mks (deskO d D (.ref R.r) :: l) → Q (.str "ok") H'
def ExTell (d : Ad) (D : Dad) (row : Str) (H : Hp) (Q : VK) : Prop := ∃ (B : Hp) (R : Rad) (n : Nat) (sch mks : List Nat) (l : List (Addr × HO)), (row = "names" ∨ row = "places" ∨ row = "text") ∧ RunR d B H R n sch mks (deskO d D (.ref R.r) :: l) ∧ 1 ≤ n ∧ n ≤ 40 ∧ sch.length ≤ 30000 ∧
  ∀ B' H', Same B B' → RunR d B' H' R n sch mks (deskO d D (.ref R.r) :: l) → Q (.str (if row = "names" then namesT ((Gs.init n).run sch) else if row = "places" then placesT ((Gs.init n).run sch) else runT n sch)) H'
def sp_Desk_execute (K : PySem.W.Frag) (d : Ad) : Sp := fun vs H Q _ => ∃ (D : Dad) (row : Str), vs = [.ref D.r, .str row] ∧ (ExRun d D row H Q ∨ ExStep d D row H Q ∨ ExFin d D row H Q ∨ ExUndo d D row H Q ∨ ExTell d D row H Q)
theorem RunR.overL {d : Ad} {B H B1 H1 : Hp} {R : Rad} {n : Nat} {sch mks : List Nat} {l : List (Addr × HO)} (h : RunR d B H R n sch mks l) (s : Same H B1) (L1 : Led B1 H1 []) : ∃ B2, Same B B2 ∧ RunR d B2 H1 R n sch mks l := by
  obtain ⟨rest, L, back⟩ := h.front
  obtain ⟨B2, s2, L2, _⟩ := L.over s L1
  exact ⟨B2, s2, back B2 H1 l s2 L2⟩
theorem ok_Desk_execute (m : Mo w K mg d) (sm : SM bs) (G_Run___init__ : FnOk P w K mg bs CX0 9 d.a_Run___init__ d.fd_Run___init__ ["self", "count"] (sp_Run___init__ K d)) (G_read_command : FnOk P w K mg bs CX0 3 d.a_read_command d.fd_read_command ["row"] (sp_read_command K d)) (G_names : FnOk P w K mg bs CX0 3 d.a_names d.fd_names ["run"] (sp_names K d)) (G_places : FnOk P w K mg bs CX0 7 d.a_places d.fd_places ["run"] (sp_places K d)) (G_text : FnOk P w K mg bs CX0 10 d.a_text d.fd_text ["run"] (sp_text K d)) (G_undo : FnOk P w K mg bs CX0 11 d.a_undo d.fd_undo ["run"] (sp_undo K d)) (G_finish : FnOk P w K mg bs CX0 8 d.a_finish d.fd_finish ["run", "process"] (sp_finish K d)) (G_step : FnOk P w K mg bs CX0 9 d.a_step d.fd_step ["run", "process"] (sp_step K d)) : FnOk P w K mg bs CX0 12 d.a_Desk_execute d.fd_Desk_execute ["self", "row"] (sp_Desk_execute K d) := by
  obtain ⟨t_DONE, h_DONE⟩ := m.mg_DONE
  refine m.F_Desk_execute.ok (k := 11) sc_Desk_execute (fun vs H Q E h => ?_) (fun cdv A fr s H vs Q E hr h => ?_)
  · obtain ⟨D, row, rfl, hc⟩ := h
    rfl
  · obtain ⟨D, row, rfl, hc⟩ := h
    refine ⟨_, (pss_cons (ps_asg (pe_call G_read_command (hr.mono (by decide)) (by rfl) m.g_read_command m.F_read_command.kp m.b_read_command .nil pass0 (pa_cons (pv 1) pa_nil)) (show PG _ _ (gTup K 2 _) from pg_tup (by rfl) (pgs_cons (pg_name (i := 2) sc_Desk_execute.nd rfl (.inl rfl)) (pgs_cons (pg_name (i := 3) sc_Desk_execute.nd rfl (.inl rfl)) pgs_nil))))
      (pss_cons (ps_if (pt_cmpR (op_inKd m.kd_QUESTIONS) (pv 2) (pe_glob (v := .ref d.k_QUESTIONS) rfl m.mgd_QUESTIONS rfl) rfl)
      (pss_cons ps_never
      (pss_one ps_never))
      pss_nil)
      (pss_cons (ps_if (pt_cmpR op_eq (pv 2) pe_str (nomark _))
      (pss_cons (ps_fld (pv 0) (pe_make m.K_Run G_Run___init__ (hr.mono (by decide)) (by rfl) m.g_Run m.b_Run___init__ .nil pass0 (pa_cons (pv 3) pa_nil)) rfl)
      (pss_one (ps_ret (pe_glob (v := .str "ok") rfl h_DONE ⟨_, rfl⟩))))
      pss_nil)
      (pss_cons (ps_if (pt_cmpR op_isN (pe_fld (pv 0) rfl) pe_non (nomark _))
      (pss_one ps_never)
      pss_nil)
      (pss_cons (ps_if (pt_cmpR (op_inKd m.kd_PROCESS_ACTIONS) (pv 2) (pe_glob (v := .ref d.k_PROCESS_ACTIONS) rfl m.mgd_PROCESS_ACTIONS rfl) rfl)
      (pss_cons (ps_asg (pe_ix (ix_kd m.kd_PROCESS_ACTIONS) (pe_glob (v := .ref d.k_PROCESS_ACTIONS) rfl m.mgd_PROCESS_ACTIONS rfl) (pv 2) (fun _ _ => rfl)) (pg_name (i := 5) sc_Desk_execute.nd rfl (.inl rfl)))
      (pss_one (ps_ret (pe_callX (i := 5) (k := 9) (cs := [(d.a_finish, sp_finish K d), (d.a_step, sp_step K d)]) (by intro q hq; simp only [List.mem_cons, List.not_mem_nil, or_false] at hq; (rcases hq with rfl | rfl) <;> first | exact ⟨⟨_, _, G_finish.mono (by decide), m.F_finish.kp, m.b_finish⟩⟩ | exact ⟨⟨_, _, G_step.mono (by decide), m.F_step.kp, m.b_step⟩⟩) (hr.mono (by decide)) rfl (by first | exact .inl rfl | exact .inr rfl | rfl | decide) (pa_cons (pe_fld (pv 0) rfl) (pa_cons (pv 3) pa_nil))))))
      pss_nil)
      (pss_cons (ps_asg (pe_ix (ix_kd m.kd_PLAIN_ACTIONS) (pe_glob (v := .ref d.k_PLAIN_ACTIONS) rfl m.mgd_PLAIN_ACTIONS rfl) (pv 2) (fun _ _ => rfl)) (pg_name (i := 6) sc_Desk_execute.nd rfl (.inl rfl)))
      (pss_one (ps_ret (pe_callX (i := 6) (k := 11) (cs := [(d.a_names, sp_names K d), (d.a_places, sp_places K d), (d.a_text, sp_text K d), (d.a_undo, sp_undo K d)]) (by intro q hq; simp only [List.mem_cons, List.not_mem_nil, or_false] at hq; (rcases hq with rfl | rfl | rfl | rfl) <;> first | exact ⟨⟨_, _, G_names.mono (by decide), m.F_names.kp, m.b_names⟩⟩ | exact ⟨⟨_, _, G_places.mono (by decide), m.F_places.kp, m.b_places⟩⟩ | exact ⟨⟨_, _, G_text.mono (by decide), m.F_text.kp, m.b_text⟩⟩ | exact ⟨⟨_, _, G_undo.mono (by decide), m.F_undo.kp, m.b_undo⟩⟩) (hr.mono (by decide)) rfl (by first | exact .inl rfl | exact .inr rfl | rfl | decide) (pa_cons (pe_fld (pv 0) rfl) pa_nil)))))))))), ?_⟩
    rcases hc with ⟨B, l, v, k, rfl, h1, h40, L, q⟩ | ⟨B, R, n, sch, mks, p, l, rfl, RR, hp9, ok, hml, hm, q⟩ | ⟨B, R, n, sch, mks, p, S, l, rfl, RR, hp9, ok, hml, hm, hy, hc, q⟩ | ⟨B, R, n, sch, mks, k, l, rfl, RR, h1, hn, hm, hml, q⟩ | ⟨B, R, n, sch, mks, l, hrow, RR, h1, hn, hm, q⟩
    · walk_at "v2"
      refine ⟨"run", some k, rfl, ⟨.inl rfl, by omega⟩, fun t B1 H1 s1 ht1 L1 => ?_⟩
      walk_at "v1"
      refine UnpK.of (.inl (.inl (L1.sm _ _ ht1))) rfl ?_
      obtain ⟨B2, s2, L, _⟩ := L.over s1 L1
      unfold argV
      walk_at "v1"
      walk_at "v2"
      try simp only [kw_run_step, kw_run_finish, kw_run_undo, kw_run_names, kw_run_places, kw_run_text, kw_run_possible, kw_run_stuck, kw_run_least, kw_run_plan, kv_run, kw_step_step, kw_step_finish, kw_step_undo, kw_step_names, kw_step_places, kw_step_text, kw_step_possible, kw_step_stuck, kw_step_least, kw_step_plan, kv_step, kw_finish_step, kw_finish_finish, kw_finish_undo, kw_finish_names, kw_finish_places, kw_finish_text, kw_finish_possible, kw_finish_stuck, kw_finish_least, kw_finish_plan, kv_finish, kw_undo_step, kw_undo_finish, kw_undo_undo, kw_undo_names, kw_undo_places, kw_undo_text, kw_undo_possible, kw_undo_stuck, kw_undo_least, kw_undo_plan, kv_undo, kw_names_step, kw_names_finish, kw_names_undo, kw_names_names, kw_names_places, kw_names_text, kw_names_possible, kw_names_stuck, kw_names_least, kw_names_plan, kv_names, kw_places_step, kw_places_finish, kw_places_undo, kw_places_names, kw_places_places, kw_places_text, kw_places_possible, kw_places_stuck, kw_places_least, kw_places_plan, kv_places, kw_text_step, kw_text_finish, kw_text_undo, kw_text_names, kw_text_places, kw_text_text, kw_text_possible, kw_text_stuck, kw_text_least, kw_text_plan, kv_text, Option.isSome_some, Option.isSome_none, if_true, if_false, Bool.false_eq_true, reduceIte]
      walk_at "v2"
      walk_at "v2"
      unfold deskO at L
      refine MkK.of L fun x dx H8 L => ?_
      refine ⟨B2, x, dx, k, _, rfl, h1, h40, L, fun B9 H9 R s9 hR RR => ⟨rfl, ?_⟩⟩
      obtain ⟨rest, L, back⟩ := RR.front
      refine StK.of L (by walk_at "mem") m.C_Desk m.x_Desk__run (fs' := [("_run", .ref x)]) (by walk_at "fs") (by walk_at "put") fun H3 L => ?_
      walk_at "vc"
      refine q B9 H3 R (s2.trans s9) (back B9 H3 (deskO d D (.ref R.r) :: l) (Same.refl _) ?_)
      unfold deskO
      rw [hR]
      exact L
    · walk_at "v2"
      refine ⟨"step", some p, rfl, ⟨.inr (.inl rfl), hp9⟩, fun t B1 H1 s1 ht1 L1 => ?_⟩
      walk_at "v1"
      refine UnpK.of (.inl (.inl (L1.sm _ _ ht1))) rfl ?_
      obtain ⟨B2, s2, RR⟩ := RR.overL s1 L1
      unfold argV
      walk_at "v1"
      walk_at "v2"
      try simp only [kw_run_step, kw_run_finish, kw_run_undo, kw_run_names, kw_run_places, kw_run_text, kw_run_possible, kw_run_stuck, kw_run_least, kw_run_plan, kv_run, kw_step_step, kw_step_finish, kw_step_undo, kw_step_names, kw_step_places, kw_step_text, kw_step_possible, kw_step_stuck, kw_step_least, kw_step_plan, kv_step, kw_finish_step, kw_finish_finish, kw_finish_undo, kw_finish_names, kw_finish_places, kw_finish_text, kw_finish_possible, kw_finish_stuck, kw_finish_least, kw_finish_plan, kv_finish, kw_undo_step, kw_undo_finish, kw_undo_undo, kw_undo_names, kw_undo_places, kw_undo_text, kw_undo_possible, kw_undo_stuck, kw_undo_least, kw_undo_plan, kv_undo, kw_names_step, kw_names_finish, kw_names_undo, kw_names_names, kw_names_places, kw_names_text, kw_names_possible, kw_names_stuck, kw_names_least, kw_names_plan, kv_names, kw_places_step, kw_places_finish, kw_places_undo, kw_places_names, kw_places_places, kw_places_text, kw_places_possible, kw_places_stuck, kw_places_least, kw_places_plan, kv_places, kw_text_step, kw_text_finish, kw_text_undo, kw_text_names, kw_text_places, kw_text_text, kw_text_possible, kw_text_stuck, kw_text_least, kw_text_plan, kv_text, Option.isSome_some, Option.isSome_none, if_true, if_false, Bool.false_eq_true, reduceIte]
      walk_at "v2"
      try simp only [kw_run_step, kw_run_finish, kw_run_undo, kw_run_names, kw_run_places, kw_run_text, kw_run_possible, kw_run_stuck, kw_run_least, kw_run_plan, kv_run, kw_step_step, kw_step_finish, kw_step_undo, kw_step_names, kw_step_places, kw_step_text, kw_step_possible, kw_step_stuck, kw_step_least, kw_step_plan, kv_step, kw_finish_step, kw_finish_finish, kw_finish_undo, kw_finish_names, kw_finish_places, kw_finish_text, kw_finish_possible, kw_finish_stuck, kw_finish_least, kw_finish_plan, kv_finish, kw_undo_step, kw_undo_finish, kw_undo_undo, kw_undo_names, kw_undo_places, kw_undo_text, kw_undo_possible, kw_undo_stuck, kw_undo_least, kw_undo_plan, kv_undo, kw_names_step, kw_names_finish, kw_names_undo, kw_names_names, kw_names_places, kw_names_text, kw_names_possible, kw_names_stuck, kw_names_least, kw_names_plan, kv_names, kw_places_step, kw_places_finish, kw_places_undo, kw_places_names, kw_places_places, kw_places_text, kw_places_possible, kw_places_stuck, kw_places_least, kw_places_plan, kv_places, kw_text_step, kw_text_finish, kw_text_undo, kw_text_names, kw_text_places, kw_text_text, kw_text_possible, kw_text_stuck, kw_text_least, kw_text_plan, kv_text, Option.isSome_some, Option.isSome_none, if_true, if_false, Bool.false_eq_true, reduceIte]
      have LD := RR.led
      unfold deskO at LD
      walk_at "v2"
      refine FldK.of LD (.head _) m.C_Desk m.x_Desk__run (v := .ref R.r) (by walk_at "fs") ?_
      walk_at "v2"
      try simp only [kw_run_step, kw_run_finish, kw_run_undo, kw_run_names, kw_run_places, kw_run_text, kw_run_possible, kw_run_stuck, kw_run_least, kw_run_plan, kv_run, kw_step_step, kw_step_finish, kw_step_undo, kw_step_names, kw_step_places, kw_step_text, kw_step_possible, kw_step_stuck, kw_step_least, kw_step_plan, kv_step, kw_finish_step, kw_finish_finish, kw_finish_undo, kw_finish_names, kw_finish_places, kw_finish_text, kw_finish_possible, kw_finish_stuck, kw_finish_least, kw_finish_plan, kv_finish, kw_undo_step, kw_undo_finish, kw_undo_undo, kw_undo_names, kw_undo_places, kw_undo_text, kw_undo_possible, kw_undo_stuck, kw_undo_least, kw_undo_plan, kv_undo, kw_names_step, kw_names_finish, kw_names_undo, kw_names_names, kw_names_places, kw_names_text, kw_names_possible, kw_names_stuck, kw_names_least, kw_names_plan, kv_names, kw_places_step, kw_places_finish, kw_places_undo, kw_places_names, kw_places_places, kw_places_text, kw_places_possible, kw_places_stuck, kw_places_least, kw_places_plan, kv_places, kw_text_step, kw_text_finish, kw_text_undo, kw_text_names, kw_text_places, kw_text_text, kw_text_possible, kw_text_stuck, kw_text_least, kw_text_plan, kv_text, Option.isSome_some, Option.isSome_none, if_true, if_false, Bool.false_eq_true, reduceIte]
      walk_at "v2"
      try simp only [kw_run_step, kw_run_finish, kw_run_undo, kw_run_names, kw_run_places, kw_run_text, kw_run_possible, kw_run_stuck, kw_run_least, kw_run_plan, kv_run, kw_step_step, kw_step_finish, kw_step_undo, kw_step_names, kw_step_places, kw_step_text, kw_step_possible, kw_step_stuck, kw_step_least, kw_step_plan, kv_step, kw_finish_step, kw_finish_finish, kw_finish_undo, kw_finish_names, kw_finish_places, kw_finish_text, kw_finish_possible, kw_finish_stuck, kw_finish_least, kw_finish_plan, kv_finish, kw_undo_step, kw_undo_finish, kw_undo_undo, kw_undo_names, kw_undo_places, kw_undo_text, kw_undo_possible, kw_undo_stuck, kw_undo_least, kw_undo_plan, kv_undo, kw_names_step, kw_names_finish, kw_names_undo, kw_names_names, kw_names_places, kw_names_text, kw_names_possible, kw_names_stuck, kw_names_least, kw_names_plan, kv_names, kw_places_step, kw_places_finish, kw_places_undo, kw_places_names, kw_places_places, kw_places_text, kw_places_possible, kw_places_stuck, kw_places_least, kw_places_plan, kv_places, kw_text_step, kw_text_finish, kw_text_undo, kw_text_names, kw_text_places, kw_text_text, kw_text_possible, kw_text_stuck, kw_text_least, kw_text_plan, kv_text, Option.isSome_some, Option.isSome_none, if_true, if_false, Bool.false_eq_true, reduceIte]
      refine ⟨d.a_step, by simp only [List.lookup, kw_finish_step, kw_step_step], ?_⟩
      walk_at "v1"
      refine e_callX (f := d.a_step) (sp := sp_step K d) rfl (by walk_at "mem") ?_
      walk_at "v1"
      refine FldK.of LD (.head _) m.C_Desk m.x_Desk__run (v := .ref R.r) (by walk_at "fs") ?_
      exact ⟨B2, R, n, sch, mks, p, _, rfl, RR, ok, hml, hm, fun B' H' s RR => q B' H' (s2.trans s) RR⟩
    · walk_at "v2"
      refine ⟨"finish", some p, rfl, ⟨.inr (.inr rfl), hp9⟩, fun t B1 H1 s1 ht1 L1 => ?_⟩
      walk_at "v1"
      refine UnpK.of (.inl (.inl (L1.sm _ _ ht1))) rfl ?_
      obtain ⟨B2, s2, RR⟩ := RR.overL s1 L1
      unfold argV
      walk_at "v1"
      walk_at "v2"
      try simp only [kw_run_step, kw_run_finish, kw_run_undo, kw_run_names, kw_run_places, kw_run_text, kw_run_possible, kw_run_stuck, kw_run_least, kw_run_plan, kv_run, kw_step_step, kw_step_finish, kw_step_undo, kw_step_names, kw_step_places, kw_step_text, kw_step_possible, kw_step_stuck, kw_step_least, kw_step_plan, kv_step, kw_finish_step, kw_finish_finish, kw_finish_undo, kw_finish_names, kw_finish_places, kw_finish_text, kw_finish_possible, kw_finish_stuck, kw_finish_least, kw_finish_plan, kv_finish, kw_undo_step, kw_undo_finish, kw_undo_undo, kw_undo_names, kw_undo_places, kw_undo_text, kw_undo_possible, kw_undo_stuck, kw_undo_least, kw_undo_plan, kv_undo, kw_names_step, kw_names_finish, kw_names_undo, kw_names_names, kw_names_places, kw_names_text, kw_names_possible, kw_names_stuck, kw_names_least, kw_names_plan, kv_names, kw_places_step, kw_places_finish, kw_places_undo, kw_places_names, kw_places_places, kw_places_text, kw_places_possible, kw_places_stuck, kw_places_least, kw_places_plan, kv_places, kw_text_step, kw_text_finish, kw_text_undo, kw_text_names, kw_text_places, kw_text_text, kw_text_possible, kw_text_stuck, kw_text_least, kw_text_plan, kv_text, Option.isSome_some, Option.isSome_none, if_true, if_false, Bool.false_eq_true, reduceIte]
      walk_at "v2"
      try simp only [kw_run_step, kw_run_finish, kw_run_undo, kw_run_names, kw_run_places, kw_run_text, kw_run_possible, kw_run_stuck, kw_run_least, kw_run_plan, kv_run, kw_step_step, kw_step_finish, kw_step_undo, kw_step_names, kw_step_places, kw_step_text, kw_step_possible, kw_step_stuck, kw_step_least, kw_step_plan, kv_step, kw_finish_step, kw_finish_finish, kw_finish_undo, kw_finish_names, kw_finish_places, kw_finish_text, kw_finish_possible, kw_finish_stuck, kw_finish_least, kw_finish_plan, kv_finish, kw_undo_step, kw_undo_finish, kw_undo_undo, kw_undo_names, kw_undo_places, kw_undo_text, kw_undo_possible, kw_undo_stuck, kw_undo_least, kw_undo_plan, kv_undo, kw_names_step, kw_names_finish, kw_names_undo, kw_names_names, kw_names_places, kw_names_text, kw_names_possible, kw_names_stuck, kw_names_least, kw_names_plan, kv_names, kw_places_step, kw_places_finish, kw_places_undo, kw_places_names, kw_places_places, kw_places_text, kw_places_possible, kw_places_stuck, kw_places_least, kw_places_plan, kv_places, kw_text_step, kw_text_finish, kw_text_undo, kw_text_names, kw_text_places, kw_text_text, kw_text_possible, kw_text_stuck, kw_text_least, kw_text_plan, kv_text, Option.isSome_some, Option.isSome_none, if_true, if_false, Bool.false_eq_true, reduceIte]
      have LD := RR.led
      unfold deskO at LD
      walk_at "v2"
      refine FldK.of LD (.head _) m.C_Desk m.x_Desk__run (v := .ref R.r) (by walk_at "fs") ?_
      walk_at "v2"
      try simp only [kw_run_step, kw_run_finish, kw_run_undo, kw_run_names, kw_run_places, kw_run_text, kw_run_possible, kw_run_stuck, kw_run_least, kw_run_plan, kv_run, kw_step_step, kw_step_finish, kw_step_undo, kw_step_names, kw_step_places, kw_step_text, kw_step_possible, kw_step_stuck, kw_step_least, kw_step_plan, kv_step, kw_finish_step, kw_finish_finish, kw_finish_undo, kw_finish_names, kw_finish_places, kw_finish_text, kw_finish_possible, kw_finish_stuck, kw_finish_least, kw_finish_plan, kv_finish, kw_undo_step, kw_undo_finish, kw_undo_undo, kw_undo_names, kw_undo_places, kw_undo_text, kw_undo_possible, kw_undo_stuck, kw_undo_least, kw_undo_plan, kv_undo, kw_names_step, kw_names_finish, kw_names_undo, kw_names_names, kw_names_places, kw_names_text, kw_names_possible, kw_names_stuck, kw_names_least, kw_names_plan, kv_names, kw_places_step, kw_places_finish, kw_places_undo, kw_places_names, kw_places_places, kw_places_text, kw_places_possible, kw_places_stuck, kw_places_least, kw_places_plan, kv_places, kw_text_step, kw_text_finish, kw_text_undo, kw_text_names, kw_text_places, kw_text_text, kw_text_possible, kw_text_stuck, kw_text_least, kw_text_plan, kv_text, Option.isSome_some, Option.isSome_none, if_true, if_false, Bool.false_eq_true, reduceIte]
      walk_at "v2"
      try simp only [kw_run_step, kw_run_finish, kw_run_undo, kw_run_names, kw_run_places, kw_run_text, kw_run_possible, kw_run_stuck, kw_run_least, kw_run_plan, kv_run, kw_step_step, kw_step_finish, kw_step_undo, kw_step_names, kw_step_places, kw_step_text, kw_step_possible, kw_step_stuck, kw_step_least, kw_step_plan, kv_step, kw_finish_step, kw_finish_finish, kw_finish_undo, kw_finish_names, kw_finish_places, kw_finish_text, kw_finish_possible, kw_finish_stuck, kw_finish_least, kw_finish_plan, kv_finish, kw_undo_step, kw_undo_finish, kw_undo_undo, kw_undo_names, kw_undo_places, kw_undo_text, kw_undo_possible, kw_undo_stuck, kw_undo_least, kw_undo_plan, kv_undo, kw_names_step, kw_names_finish, kw_names_undo, kw_names_names, kw_names_places, kw_names_text, kw_names_possible, kw_names_stuck, kw_names_least, kw_names_plan, kv_names, kw_places_step, kw_places_finish, kw_places_undo, kw_places_names, kw_places_places, kw_places_text, kw_places_possible, kw_places_stuck, kw_places_least, kw_places_plan, kv_places, kw_text_step, kw_text_finish, kw_text_undo, kw_text_names, kw_text_places, kw_text_text, kw_text_possible, kw_text_stuck, kw_text_least, kw_text_plan, kv_text, Option.isSome_some, Option.isSome_none, if_true, if_false, Bool.false_eq_true, reduceIte]
      refine ⟨d.a_finish, by simp only [List.lookup, kw_finish_step, kw_finish_finish], ?_⟩
      walk_at "v1"
      refine e_callX (f := d.a_finish) (sp := sp_finish K d) rfl (by walk_at "mem") ?_
      walk_at "v1"
      refine FldK.of LD (.head _) m.C_Desk m.x_Desk__run (v := .ref R.r) (by walk_at "fs") ?_
      exact ⟨B2, R, n, sch, mks, p, S, _, rfl, RR, ok, hml, hm, hy, hc, fun B' H' j s hj RR hf => q B' H' j (s2.trans s) hj RR hf⟩
    · walk_at "v2"
      refine ⟨"undo", none, rfl, .inl rfl, fun t B1 H1 s1 ht1 L1 => ?_⟩
      walk_at "v1"
      refine UnpK.of (.inl (.inl (L1.sm _ _ ht1))) rfl ?_
      obtain ⟨B2, s2, RR⟩ := RR.overL s1 L1
      unfold argV
      walk_at "v1"
      walk_at "v2"
      try simp only [kw_run_step, kw_run_finish, kw_run_undo, kw_run_names, kw_run_places, kw_run_text, kw_run_possible, kw_run_stuck, kw_run_least, kw_run_plan, kv_run, kw_step_step, kw_step_finish, kw_step_undo, kw_step_names, kw_step_places, kw_step_text, kw_step_possible, kw_step_stuck, kw_step_least, kw_step_plan, kv_step, kw_finish_step, kw_finish_finish, kw_finish_undo, kw_finish_names, kw_finish_places, kw_finish_text, kw_finish_possible, kw_finish_stuck, kw_finish_least, kw_finish_plan, kv_finish, kw_undo_step, kw_undo_finish, kw_undo_undo, kw_undo_names, kw_undo_places, kw_undo_text, kw_undo_possible, kw_undo_stuck, kw_undo_least, kw_undo_plan, kv_undo, kw_names_step, kw_names_finish, kw_names_undo, kw_names_names, kw_names_places, kw_names_text, kw_names_possible, kw_names_stuck, kw_names_least, kw_names_plan, kv_names, kw_places_step, kw_places_finish, kw_places_undo, kw_places_names, kw_places_places, kw_places_text, kw_places_possible, kw_places_stuck, kw_places_least, kw_places_plan, kv_places, kw_text_step, kw_text_finish, kw_text_undo, kw_text_names, kw_text_places, kw_text_text, kw_text_possible, kw_text_stuck, kw_text_least, kw_text_plan, kv_text, Option.isSome_some, Option.isSome_none, if_true, if_false, Bool.false_eq_true, reduceIte]
      walk_at "v2"
      try simp only [kw_run_step, kw_run_finish, kw_run_undo, kw_run_names, kw_run_places, kw_run_text, kw_run_possible, kw_run_stuck, kw_run_least, kw_run_plan, kv_run, kw_step_step, kw_step_finish, kw_step_undo, kw_step_names, kw_step_places, kw_step_text, kw_step_possible, kw_step_stuck, kw_step_least, kw_step_plan, kv_step, kw_finish_step, kw_finish_finish, kw_finish_undo, kw_finish_names, kw_finish_places, kw_finish_text, kw_finish_possible, kw_finish_stuck, kw_finish_least, kw_finish_plan, kv_finish, kw_undo_step, kw_undo_finish, kw_undo_undo, kw_undo_names, kw_undo_places, kw_undo_text, kw_undo_possible, kw_undo_stuck, kw_undo_least, kw_undo_plan, kv_undo, kw_names_step, kw_names_finish, kw_names_undo, kw_names_names, kw_names_places, kw_names_text, kw_names_possible, kw_names_stuck, kw_names_least, kw_names_plan, kv_names, kw_places_step, kw_places_finish, kw_places_undo, kw_places_names, kw_places_places, kw_places_text, kw_places_possible, kw_places_stuck, kw_places_least, kw_places_plan, kv_places, kw_text_step, kw_text_finish, kw_text_undo, kw_text_names, kw_text_places, kw_text_text, kw_text_possible, kw_text_stuck, kw_text_least, kw_text_plan, kv_text, Option.isSome_some, Option.isSome_none, if_true, if_false, Bool.false_eq_true, reduceIte]
      have LD := RR.led
      unfold deskO at LD
      walk_at "v2"
      refine FldK.of LD (.head _) m.C_Desk m.x_Desk__run (v := .ref R.r) (by walk_at "fs") ?_
      walk_at "v2"
      try simp only [kw_run_step, kw_run_finish, kw_run_undo, kw_run_names, kw_run_places, kw_run_text, kw_run_possible, kw_run_stuck, kw_run_least, kw_run_plan, kv_run, kw_step_step, kw_step_finish, kw_step_undo, kw_step_names, kw_step_places, kw_step_text, kw_step_possible, kw_step_stuck, kw_step_least, kw_step_plan, kv_step, kw_finish_step, kw_finish_finish, kw_finish_undo, kw_finish_names, kw_finish_places, kw_finish_text, kw_finish_possible, kw_finish_stuck, kw_finish_least, kw_finish_plan, kv_finish, kw_undo_step, kw_undo_finish, kw_undo_undo, kw_undo_names, kw_undo_places, kw_undo_text, kw_undo_possible, kw_undo_stuck, kw_undo_least, kw_undo_plan, kv_undo, kw_names_step, kw_names_finish, kw_names_undo, kw_names_names, kw_names_places, kw_names_text, kw_names_possible, kw_names_stuck, kw_names_least, kw_names_plan, kv_names, kw_places_step, kw_places_finish, kw_places_undo, kw_places_names, kw_places_places, kw_places_text, kw_places_possible, kw_places_stuck, kw_places_least, kw_places_plan, kv_places, kw_text_step, kw_text_finish, kw_text_undo, kw_text_names, kw_text_places, kw_text_text, kw_text_possible, kw_text_stuck, kw_text_least, kw_text_plan, kv_text, Option.isSome_some, Option.isSome_none, if_true, if_false, Bool.false_eq_true, reduceIte]
      walk_at "v2"
      try simp only [kw_run_step, kw_run_finish, kw_run_undo, kw_run_names, kw_run_places, kw_run_text, kw_run_possible, kw_run_stuck, kw_run_least, kw_run_plan, kv_run, kw_step_step, kw_step_finish, kw_step_undo, kw_step_names, kw_step_places, kw_step_text, kw_step_possible, kw_step_stuck, kw_step_least, kw_step_plan, kv_step, kw_finish_step, kw_finish_finish, kw_finish_undo, kw_finish_names, kw_finish_places, kw_finish_text, kw_finish_possible, kw_finish_stuck, kw_finish_least, kw_finish_plan, kv_finish, kw_undo_step, kw_undo_finish, kw_undo_undo, kw_undo_names, kw_undo_places, kw_undo_text, kw_undo_possible, kw_undo_stuck, kw_undo_least, kw_undo_plan, kv_undo, kw_names_step, kw_names_finish, kw_names_undo, kw_names_names, kw_names_places, kw_names_text, kw_names_possible, kw_names_stuck, kw_names_least, kw_names_plan, kv_names, kw_places_step, kw_places_finish, kw_places_undo, kw_places_names, kw_places_places, kw_places_text, kw_places_possible, kw_places_stuck, kw_places_least, kw_places_plan, kv_places, kw_text_step, kw_text_finish, kw_text_undo, kw_text_names, kw_text_places, kw_text_text, kw_text_possible, kw_text_stuck, kw_text_least, kw_text_plan, kv_text, Option.isSome_some, Option.isSome_none, if_true, if_false, Bool.false_eq_true, reduceIte]
      refine ⟨d.a_undo, by simp only [List.lookup, kw_names_undo, kw_places_undo, kw_places_names, kw_text_undo, kw_text_names, kw_text_places, kw_undo_undo], ?_⟩
      walk_at "v1"
      refine e_callX (f := d.a_undo) (sp := sp_undo K d) rfl (by walk_at "mem") ?_
      walk_at "v1"
      refine FldK.of LD (.head _) m.C_Desk m.x_Desk__run (v := .ref R.r) (by walk_at "fs") ?_
      exact ⟨B2, R, n, sch, mks, k, _, rfl, RR, h1, hn, hm, hml, fun B' H' s RR => q B' H' (s2.trans s) RR⟩
    · rcases hrow with rfl | rfl | rfl
      · walk_at "v2"
        refine ⟨"names", none, rfl, .inr (.inl rfl), fun t B1 H1 s1 ht1 L1 => ?_⟩
        walk_at "v1"
        refine UnpK.of (.inl (.inl (L1.sm _ _ ht1))) rfl ?_
        obtain ⟨B2, s2, RR⟩ := RR.overL s1 L1
        unfold argV
        walk_at "v1"
        walk_at "v2"
        try simp only [kw_run_step, kw_run_finish, kw_run_undo, kw_run_names, kw_run_places, kw_run_text, kw_run_possible, kw_run_stuck, kw_run_least, kw_run_plan, kv_run, kw_step_step, kw_step_finish, kw_step_undo, kw_step_names, kw_step_places, kw_step_text, kw_step_possible, kw_step_stuck, kw_step_least, kw_step_plan, kv_step, kw_finish_step, kw_finish_finish, kw_finish_undo, kw_finish_names, kw_finish_places, kw_finish_text, kw_finish_possible, kw_finish_stuck, kw_finish_least, kw_finish_plan, kv_finish, kw_undo_step, kw_undo_finish, kw_undo_undo, kw_undo_names, kw_undo_places, kw_undo_text, kw_undo_possible, kw_undo_stuck, kw_undo_least, kw_undo_plan, kv_undo, kw_names_step, kw_names_finish, kw_names_undo, kw_names_names, kw_names_places, kw_names_text, kw_names_possible, kw_names_stuck, kw_names_least, kw_names_plan, kv_names, kw_places_step, kw_places_finish, kw_places_undo, kw_places_names, kw_places_places, kw_places_text, kw_places_possible, kw_places_stuck, kw_places_least, kw_places_plan, kv_places, kw_text_step, kw_text_finish, kw_text_undo, kw_text_names, kw_text_places, kw_text_text, kw_text_possible, kw_text_stuck, kw_text_least, kw_text_plan, kv_text, Option.isSome_some, Option.isSome_none, if_true, if_false, Bool.false_eq_true, reduceIte]
        walk_at "v2"
        try simp only [kw_run_step, kw_run_finish, kw_run_undo, kw_run_names, kw_run_places, kw_run_text, kw_run_possible, kw_run_stuck, kw_run_least, kw_run_plan, kv_run, kw_step_step, kw_step_finish, kw_step_undo, kw_step_names, kw_step_places, kw_step_text, kw_step_possible, kw_step_stuck, kw_step_least, kw_step_plan, kv_step, kw_finish_step, kw_finish_finish, kw_finish_undo, kw_finish_names, kw_finish_places, kw_finish_text, kw_finish_possible, kw_finish_stuck, kw_finish_least, kw_finish_plan, kv_finish, kw_undo_step, kw_undo_finish, kw_undo_undo, kw_undo_names, kw_undo_places, kw_undo_text, kw_undo_possible, kw_undo_stuck, kw_undo_least, kw_undo_plan, kv_undo, kw_names_step, kw_names_finish, kw_names_undo, kw_names_names, kw_names_places, kw_names_text, kw_names_possible, kw_names_stuck, kw_names_least, kw_names_plan, kv_names, kw_places_step, kw_places_finish, kw_places_undo, kw_places_names, kw_places_places, kw_places_text, kw_places_possible, kw_places_stuck, kw_places_least, kw_places_plan, kv_places, kw_text_step, kw_text_finish, kw_text_undo, kw_text_names, kw_text_places, kw_text_text, kw_text_possible, kw_text_stuck, kw_text_least, kw_text_plan, kv_text, Option.isSome_some, Option.isSome_none, if_true, if_false, Bool.false_eq_true, reduceIte]
        have LD := RR.led
        unfold deskO at LD
        walk_at "v2"
        refine FldK.of LD (.head _) m.C_Desk m.x_Desk__run (v := .ref R.r) (by walk_at "fs") ?_
        walk_at "v2"
        try simp only [kw_run_step, kw_run_finish, kw_run_undo, kw_run_names, kw_run_places, kw_run_text, kw_run_possible, kw_run_stuck, kw_run_least, kw_run_plan, kv_run, kw_step_step, kw_step_finish, kw_step_undo, kw_step_names, kw_step_places, kw_step_text, kw_step_possible, kw_step_stuck, kw_step_least, kw_step_plan, kv_step, kw_finish_step, kw_finish_finish, kw_finish_undo, kw_finish_names, kw_finish_places, kw_finish_text, kw_finish_possible, kw_finish_stuck, kw_finish_least, kw_finish_plan, kv_finish, kw_undo_step, kw_undo_finish, kw_undo_undo, kw_undo_names, kw_undo_places, kw_undo_text, kw_undo_possible, kw_undo_stuck, kw_undo_least, kw_undo_plan, kv_undo, kw_names_step, kw_names_finish, kw_names_undo, kw_names_names, kw_names_places, kw_names_text, kw_names_possible, kw_names_stuck, kw_names_least, kw_names_plan, kv_names, kw_places_step, kw_places_finish, kw_places_undo, kw_places_names, kw_places_places, kw_places_text, kw_places_possible, kw_places_stuck, kw_places_least, kw_places_plan, kv_places, kw_text_step, kw_text_finish, kw_text_undo, kw_text_names, kw_text_places, kw_text_text, kw_text_possible, kw_text_stuck, kw_text_least, kw_text_plan, kv_text, Option.isSome_some, Option.isSome_none, if_true, if_false, Bool.false_eq_true, reduceIte]
        walk_at "v2"
        try simp only [kw_run_step, kw_run_finish, kw_run_undo, kw_run_names, kw_run_places, kw_run_text, kw_run_possible, kw_run_stuck, kw_run_least, kw_run_plan, kv_run, kw_step_step, kw_step_finish, kw_step_undo, kw_step_names, kw_step_places, kw_step_text, kw_step_possible, kw_step_stuck, kw_step_least, kw_step_plan, kv_step, kw_finish_step, kw_finish_finish, kw_finish_undo, kw_finish_names, kw_finish_places, kw_finish_text, kw_finish_possible, kw_finish_stuck, kw_finish_least, kw_finish_plan, kv_finish, kw_undo_step, kw_undo_finish, kw_undo_undo, kw_undo_names, kw_undo_places, kw_undo_text, kw_undo_possible, kw_undo_stuck, kw_undo_least, kw_undo_plan, kv_undo, kw_names_step, kw_names_finish, kw_names_undo, kw_names_names, kw_names_places, kw_names_text, kw_names_possible, kw_names_stuck, kw_names_least, kw_names_plan, kv_names, kw_places_step, kw_places_finish, kw_places_undo, kw_places_names, kw_places_places, kw_places_text, kw_places_possible, kw_places_stuck, kw_places_least, kw_places_plan, kv_places, kw_text_step, kw_text_finish, kw_text_undo, kw_text_names, kw_text_places, kw_text_text, kw_text_possible, kw_text_stuck, kw_text_least, kw_text_plan, kv_text, Option.isSome_some, Option.isSome_none, if_true, if_false, Bool.false_eq_true, reduceIte]
        refine ⟨d.a_names, by simp only [List.lookup, kw_names_undo, kw_places_undo, kw_places_names, kw_text_undo, kw_text_names, kw_text_places, kw_names_names], ?_⟩
        walk_at "v1"
        refine e_callX (f := d.a_names) (sp := sp_names K d) rfl (by walk_at "mem") ?_
        walk_at "v1"
        refine FldK.of LD (.head _) m.C_Desk m.x_Desk__run (v := .ref R.r) (by walk_at "fs") ?_
        exact ⟨B2, R, n, sch, mks, _, rfl, RR, hn, by omega, fun H' RR => by have := q B2 H' s2 RR; rw [if_pos rfl] at this; exact this⟩
      · walk_at "v2"
        refine ⟨"places", none, rfl, .inr (.inr (.inl rfl)), fun t B1 H1 s1 ht1 L1 => ?_⟩
        walk_at "v1"
        refine UnpK.of (.inl (.inl (L1.sm _ _ ht1))) rfl ?_
        obtain ⟨B2, s2, RR⟩ := RR.overL s1 L1
        unfold argV
        walk_at "v1"
        walk_at "v2"
        try simp only [kw_run_step, kw_run_finish, kw_run_undo, kw_run_names, kw_run_places, kw_run_text, kw_run_possible, kw_run_stuck, kw_run_least, kw_run_plan, kv_run, kw_step_step, kw_step_finish, kw_step_undo, kw_step_names, kw_step_places, kw_step_text, kw_step_possible, kw_step_stuck, kw_step_least, kw_step_plan, kv_step, kw_finish_step, kw_finish_finish, kw_finish_undo, kw_finish_names, kw_finish_places, kw_finish_text, kw_finish_possible, kw_finish_stuck, kw_finish_least, kw_finish_plan, kv_finish, kw_undo_step, kw_undo_finish, kw_undo_undo, kw_undo_names, kw_undo_places, kw_undo_text, kw_undo_possible, kw_undo_stuck, kw_undo_least, kw_undo_plan, kv_undo, kw_names_step, kw_names_finish, kw_names_undo, kw_names_names, kw_names_places, kw_names_text, kw_names_possible, kw_names_stuck, kw_names_least, kw_names_plan, kv_names, kw_places_step, kw_places_finish, kw_places_undo, kw_places_names, kw_places_places, kw_places_text, kw_places_possible, kw_places_stuck, kw_places_least, kw_places_plan, kv_places, kw_text_step, kw_text_finish, kw_text_undo, kw_text_names, kw_text_places, kw_text_text, kw_text_possible, kw_text_stuck, kw_text_least, kw_text_plan, kv_text, Option.isSome_some, Option.isSome_none, if_true, if_false, Bool.false_eq_true, reduceIte]
        walk_at "v2"
        try simp only [kw_run_step, kw_run_finish, kw_run_undo, kw_run_names, kw_run_places, kw_run_text, kw_run_possible, kw_run_stuck, kw_run_least, kw_run_plan, kv_run, kw_step_step, kw_step_finish, kw_step_undo, kw_step_names, kw_step_places, kw_step_text, kw_step_possible, kw_step_stuck, kw_step_least, kw_step_plan, kv_step, kw_finish_step, kw_finish_finish, kw_finish_undo, kw_finish_names, kw_finish_places, kw_finish_text, kw_finish_possible, kw_finish_stuck, kw_finish_least, kw_finish_plan, kv_finish, kw_undo_step, kw_undo_finish, kw_undo_undo, kw_undo_names, kw_undo_places, kw_undo_text, kw_undo_possible, kw_undo_stuck, kw_undo_least, kw_undo_plan, kv_undo, kw_names_step, kw_names_finish, kw_names_undo, kw_names_names, kw_names_places, kw_names_text, kw_names_possible, kw_names_stuck, kw_names_least, kw_names_plan, kv_names, kw_places_step, kw_places_finish, kw_places_undo, kw_places_names, kw_places_places, kw_places_text, kw_places_possible, kw_places_stuck, kw_places_least, kw_places_plan, kv_places, kw_text_step, kw_text_finish, kw_text_undo, kw_text_names, kw_text_places, kw_text_text, kw_text_possible, kw_text_stuck, kw_text_least, kw_text_plan, kv_text, Option.isSome_some, Option.isSome_none, if_true, if_false, Bool.false_eq_true, reduceIte]
        have LD := RR.led
        unfold deskO at LD
        walk_at "v2"
        refine FldK.of LD (.head _) m.C_Desk m.x_Desk__run (v := .ref R.r) (by walk_at "fs") ?_
        walk_at "v2"
        try simp only [kw_run_step, kw_run_finish, kw_run_undo, kw_run_names, kw_run_places, kw_run_text, kw_run_possible, kw_run_stuck, kw_run_least, kw_run_plan, kv_run, kw_step_step, kw_step_finish, kw_step_undo, kw_step_names, kw_step_places, kw_step_text, kw_step_possible, kw_step_stuck, kw_step_least, kw_step_plan, kv_step, kw_finish_step, kw_finish_finish, kw_finish_undo, kw_finish_names, kw_finish_places, kw_finish_text, kw_finish_possible, kw_finish_stuck, kw_finish_least, kw_finish_plan, kv_finish, kw_undo_step, kw_undo_finish, kw_undo_undo, kw_undo_names, kw_undo_places, kw_undo_text, kw_undo_possible, kw_undo_stuck, kw_undo_least, kw_undo_plan, kv_undo, kw_names_step, kw_names_finish, kw_names_undo, kw_names_names, kw_names_places, kw_names_text, kw_names_possible, kw_names_stuck, kw_names_least, kw_names_plan, kv_names, kw_places_step, kw_places_finish, kw_places_undo, kw_places_names, kw_places_places, kw_places_text, kw_places_possible, kw_places_stuck, kw_places_least, kw_places_plan, kv_places, kw_text_step, kw_text_finish, kw_text_undo, kw_text_names, kw_text_places, kw_text_text, kw_text_possible, kw_text_stuck, kw_text_least, kw_text_plan, kv_text, Option.isSome_some, Option.isSome_none, if_true, if_false, Bool.false_eq_true, reduceIte]
        walk_at "v2"
        try simp only [kw_run_step, kw_run_finish, kw_run_undo, kw_run_names, kw_run_places, kw_run_text, kw_run_possible, kw_run_stuck, kw_run_least, kw_run_plan, kv_run, kw_step_step, kw_step_finish, kw_step_undo, kw_step_names, kw_step_places, kw_step_text, kw_step_possible, kw_step_stuck, kw_step_least, kw_step_plan, kv_step, kw_finish_step, kw_finish_finish, kw_finish_undo, kw_finish_names, kw_finish_places, kw_finish_text, kw_finish_possible, kw_finish_stuck, kw_finish_least, kw_finish_plan, kv_finish, kw_undo_step, kw_undo_finish, kw_undo_undo, kw_undo_names, kw_undo_places, kw_undo_text, kw_undo_possible, kw_undo_stuck, kw_undo_least, kw_undo_plan, kv_undo, kw_names_step, kw_names_finish, kw_names_undo, kw_names_names, kw_names_places, kw_names_text, kw_names_possible, kw_names_stuck, kw_names_least, kw_names_plan, kv_names, kw_places_step, kw_places_finish, kw_places_undo, kw_places_names, kw_places_places, kw_places_text, kw_places_possible, kw_places_stuck, kw_places_least, kw_places_plan, kv_places, kw_text_step, kw_text_finish, kw_text_undo, kw_text_names, kw_text_places, kw_text_text, kw_text_possible, kw_text_stuck, kw_text_least, kw_text_plan, kv_text, Option.isSome_some, Option.isSome_none, if_true, if_false, Bool.false_eq_true, reduceIte]
        refine ⟨d.a_places, by simp only [List.lookup, kw_names_undo, kw_places_undo, kw_places_names, kw_text_undo, kw_text_names, kw_text_places, kw_places_places], ?_⟩
        walk_at "v1"
        refine e_callX (f := d.a_places) (sp := sp_places K d) rfl (by walk_at "mem") ?_
        walk_at "v1"
        refine FldK.of LD (.head _) m.C_Desk m.x_Desk__run (v := .ref R.r) (by walk_at "fs") ?_
        exact ⟨B2, R, n, sch, mks, _, rfl, RR, hn, by omega, fun B' H' s RR => by have := q B' H' (s2.trans s) RR; rw [if_neg (by decide +kernel), if_pos rfl] at this; exact this⟩
      · walk_at "v2"
        refine ⟨"text", none, rfl, .inr (.inr (.inr rfl)), fun t B1 H1 s1 ht1 L1 => ?_⟩
        walk_at "v1"
        refine UnpK.of (.inl (.inl (L1.sm _ _ ht1))) rfl ?_
        obtain ⟨B2, s2, RR⟩ := RR.overL s1 L1
        unfold argV
        walk_at "v1"
        walk_at "v2"
        try simp only [kw_run_step, kw_run_finish, kw_run_undo, kw_run_names, kw_run_places, kw_run_text, kw_run_possible, kw_run_stuck, kw_run_least, kw_run_plan, kv_run, kw_step_step, kw_step_finish, kw_step_undo, kw_step_names, kw_step_places, kw_step_text, kw_step_possible, kw_step_stuck, kw_step_least, kw_step_plan, kv_step, kw_finish_step, kw_finish_finish, kw_finish_undo, kw_finish_names, kw_finish_places, kw_finish_text, kw_finish_possible, kw_finish_stuck, kw_finish_least, kw_finish_plan, kv_finish, kw_undo_step, kw_undo_finish, kw_undo_undo, kw_undo_names, kw_undo_places, kw_undo_text, kw_undo_possible, kw_undo_stuck, kw_undo_least, kw_undo_plan, kv_undo, kw_names_step, kw_names_finish, kw_names_undo, kw_names_names, kw_names_places, kw_names_text, kw_names_possible, kw_names_stuck, kw_names_least, kw_names_plan, kv_names, kw_places_step, kw_places_finish, kw_places_undo, kw_places_names, kw_places_places, kw_places_text, kw_places_possible, kw_places_stuck, kw_places_least, kw_places_plan, kv_places, kw_text_step, kw_text_finish, kw_text_undo, kw_text_names, kw_text_places, kw_text_text, kw_text_possible, kw_text_stuck, kw_text_least, kw_text_plan, kv_text, Option.isSome_some, Option.isSome_none, if_true, if_false, Bool.false_eq_true, reduceIte]
        walk_at "v2"
        try simp only [kw_run_step, kw_run_finish, kw_run_undo, kw_run_names, kw_run_places, kw_run_text, kw_run_possible, kw_run_stuck, kw_run_least, kw_run_plan, kv_run, kw_step_step, kw_step_finish, kw_step_undo, kw_step_names, kw_step_places, kw_step_text, kw_step_possible, kw_step_stuck, kw_step_least, kw_step_plan, kv_step, kw_finish_step, kw_finish_finish, kw_finish_undo, kw_finish_names, kw_finish_places, kw_finish_text, kw_finish_possible, kw_finish_stuck, kw_finish_least, kw_finish_plan, kv_finish, kw_undo_step, kw_undo_finish, kw_undo_undo, kw_undo_names, kw_undo_places, kw_undo_text, kw_undo_possible, kw_undo_stuck, kw_undo_least, kw_undo_plan, kv_undo, kw_names_step, kw_names_finish, kw_names_undo, kw_names_names, kw_names_places, kw_names_text, kw_names_possible, kw_names_stuck, kw_names_least, kw_names_plan, kv_names, kw_places_step, kw_places_finish, kw_places_undo, kw_places_names, kw_places_places, kw_places_text, kw_places_possible, kw_places_stuck, kw_places_least, kw_places_plan, kv_places, kw_text_step, kw_text_finish, kw_text_undo, kw_text_names, kw_text_places, kw_text_text, kw_text_possible, kw_text_stuck, kw_text_least, kw_text_plan, kv_text, Option.isSome_some, Option.isSome_none, if_true, if_false, Bool.false_eq_true, reduceIte]
        have LD := RR.led
        unfold deskO at LD
        walk_at "v2"
        refine FldK.of LD (.head _) m.C_Desk m.x_Desk__run (v := .ref R.r) (by walk_at "fs") ?_
        walk_at "v2"
        try simp only [kw_run_step, kw_run_finish, kw_run_undo, kw_run_names, kw_run_places, kw_run_text, kw_run_possible, kw_run_stuck, kw_run_least, kw_run_plan, kv_run, kw_step_step, kw_step_finish, kw_step_undo, kw_step_names, kw_step_places, kw_step_text, kw_step_possible, kw_step_stuck, kw_step_least, kw_step_plan, kv_step, kw_finish_step, kw_finish_finish, kw_finish_undo, kw_finish_names, kw_finish_places, kw_finish_text, kw_finish_possible, kw_finish_stuck, kw_finish_least, kw_finish_plan, kv_finish, kw_undo_step, kw_undo_finish, kw_undo_undo, kw_undo_names, kw_undo_places, kw_undo_text, kw_undo_possible, kw_undo_stuck, kw_undo_least, kw_undo_plan, kv_undo, kw_names_step, kw_names_finish, kw_names_undo, kw_names_names, kw_names_places, kw_names_text, kw_names_possible, kw_names_stuck, kw_names_least, kw_names_plan, kv_names, kw_places_step, kw_places_finish, kw_places_undo, kw_places_names, kw_places_places, kw_places_text, kw_places_possible, kw_places_stuck, kw_places_least, kw_places_plan, kv_places, kw_text_step, kw_text_finish, kw_text_undo, kw_text_names, kw_text_places, kw_text_text, kw_text_possible, kw_text_stuck, kw_text_least, kw_text_plan, kv_text, Option.isSome_some, Option.isSome_none, if_true, if_false, Bool.false_eq_true, reduceIte]
        walk_at "v2"
        try simp only [kw_run_step, kw_run_finish, kw_run_undo, kw_run_names, kw_run_places, kw_run_text, kw_run_possible, kw_run_stuck, kw_run_least, kw_run_plan, kv_run, kw_step_step, kw_step_finish, kw_step_undo, kw_step_names, kw_step_places, kw_step_text, kw_step_possible, kw_step_stuck, kw_step_least, kw_step_plan, kv_step, kw_finish_step, kw_finish_finish, kw_finish_undo, kw_finish_names, kw_finish_places, kw_finish_text, kw_finish_possible, kw_finish_stuck, kw_finish_least, kw_finish_plan, kv_finish, kw_undo_step, kw_undo_finish, kw_undo_undo, kw_undo_names, kw_undo_places, kw_undo_text, kw_undo_possible, kw_undo_stuck, kw_undo_least, kw_undo_plan, kv_undo, kw_names_step, kw_names_finish, kw_names_undo, kw_names_names, kw_names_places, kw_names_text, kw_names_possible, kw_names_stuck, kw_names_least, kw_names_plan, kv_names, kw_places_step, kw_places_finish, kw_places_undo, kw_places_names, kw_places_places, kw_places_text, kw_places_possible, kw_places_stuck, kw_places_least, kw_places_plan, kv_places, kw_text_step, kw_text_finish, kw_text_undo, kw_text_names, kw_text_places, kw_text_text, kw_text_possible, kw_text_stuck, kw_text_least, kw_text_plan, kv_text, Option.isSome_some, Option.isSome_none, if_true, if_false, Bool.false_eq_true, reduceIte]
        refine ⟨d.a_text, by simp only [List.lookup, kw_names_undo, kw_places_undo, kw_places_names, kw_text_undo, kw_text_names, kw_text_places, kw_text_text], ?_⟩
        walk_at "v1"
        refine e_callX (f := d.a_text) (sp := sp_text K d) rfl (by walk_at "mem") ?_
        walk_at "v1"
        refine FldK.of LD (.head _) m.C_Desk m.x_Desk__run (v := .ref R.r) (by walk_at "fs") ?_
        exact ⟨B2, R, n, sch, mks, _, rfl, RR, h1, hn, hm, fun B' H' s RR => by have := q B' H' (s2.trans s) RR; rw [if_neg (by decide +kernel), if_neg (by decide +kernel)] at this; exact this⟩
/-! cut law_urn -/
def sp_law_urn (K : PySem.W.Frag) : Sp := fun vs H Q _ => ∃ (a : Addr) (ns : List Int) (k : Int), vs = [.ref a, .int k] ∧ SqL K H a (ns.map V.int) ∧ 0 ≤ k ∧ k < 1000 ∧ ∀ p H', Urn H H' p [] 0 → Q (.ref p) H'
theorem ok_law_urn (m : Mo w K mg d) (sm : SM bs) : Fg P w K mg bs CX0 1 d.a_law_urn d.fd_law_urn ["script", "k"] (sp_law_urn K) := by
  refine ok (n := 0) m.F_law_urn sc_law_urn (fun vs H Q E h => ?_) (fun cdv A fr s H vs Q E hg hr h => ?_)
  · obtain ⟨a, ns, k, rfl, hS, h0, h1, q⟩ := h
    rfl
  · obtain ⟨a, ns, k, rfl, hS, h0, h1, q⟩ := h
    refine ⟨_, (pss_cons (ps_asg pe_int (pg_name (i := 2) sc_law_urn.nd rfl (.inl rfl)))
      (pss_cons (ps_if (pt_cmpR op_lt (pv 1) (pe_callB cr_len (by rfl) m.n_len (by decide +kernel) (pa_cons (pv 0) pa_nil)) (nomark _))
      (pss_one (ps_asg (pe_ix ix_list (pv 0) (pv 1) (fun _ _ => rfl)) (pg_name (i := 2) sc_law_urn.nd rfl (.inl rfl))))
      pss_nil)
      (pss_one (ps_ret (pe_lst (pa_cons (pe_callB (cr_max2 rfl) (by rfl) m.n_max (by decide +kernel) (pa_cons pe_int (pa_cons (pe_op op_sub (pv 2) (pe_op op_pow pe_int pe_int)) pa_nil))) (pa_cons (pe_op op_add (pe_op op_add (pe_op op_mul (pe_op op_mod (pv 2) (pe_op op_add (pe_op op_pow pe_int pe_int) pe_int)) pe_int) (pe_op op_mul pe_int (pv 1))) pe_int) (pa_cons pe_int pa_nil)))))))), ?_⟩
    walk_at "vc"
    refine LenK.ofL hS ?_
    walk_at "vc"
    split
    · obtain ⟨n, _, hn⟩ := atI_map h0 ‹_›
      refine IxLK.of hS hn ?_
      walk_at "vc"
      walk_at "sds"
      exact NewK.of (Led.nil H) fun p H1 L => q p H1 ⟨_, _, _, L, by omega, by omega, by omega, by omega, by omega⟩
    · walk_at "sds"
      exact NewK.of (Led.nil H) fun p H1 L => q p H1 ⟨_, _, _, L, by omega, by omega, by omega, by omega, by omega⟩
/-! cut law_dip -/
def sp_law_dip (K : PySem.W.Frag) : Sp := fun vs H Q _ => ∃ (B : Hp) (u : Addr) (l : List (Addr × HO)) (c : Nat) (n : Int), vs = [.ref u, .int n] ∧ Urn B H u l c ∧ c < 1000000 ∧ 0 < n ∧ n < 1073741824 ∧
  ∀ H' r, Urn B H' u l (c + 1) → 0 ≤ r → r < n → Q (.int r) H'
theorem dip_go {K : PySem.W.Frag} {B H : Hp} {u : Addr} {l : List (Addr × HO)} {c : Nat} {n : Int} {Q : VK} {E : XK} (U : Urn B H u l c) (hc : c < 1000000) (h0 : 0 < n) (h1 : n < 1073741824) (k : ∀ H' r, Urn B H' u l (c + 1) → 0 ≤ r → r < n → Q (.int r) H') : sp_law_dip K [.ref u, .int n] H Q E :=
  ⟨B, u, l, c, n, rfl, U, hc, h0, h1, k⟩
theorem ok_law_dip (m : Mo w K mg d) (sm : SM bs) : Fg P w K mg bs CX0 1 d.a_law_dip d.fd_law_dip ["urn", "size"] (sp_law_dip K) := by
  refine ok (n := 0) m.F_law_dip sc_law_dip (fun vs H Q E h => ?_) (fun cdv A fr s H vs Q E hg hr h => ?_)
  · obtain ⟨B, u, l, c, n, rfl, ⟨x, y, z, L, hx, hy, hy2, hz, hz2⟩, hc, hn, hn2, q⟩ := h
    rfl
  · obtain ⟨B, u, l, c, n, rfl, ⟨x, y, z, L, hx, hy, hy2, hz, hz2⟩, hc, hn, hn2, q⟩ := h
    refine ⟨_, (pss_cons (ps_if (pt_cmpR op_gt (pe_ix ix_list (pv 0) pe_int (fun _ _ => rfl)) pe_int (nomark _))
      (pss_cons (ps_asg (pe_op op_mod (pe_ix ix_list (pv 0) pe_int (fun _ _ => rfl)) (pv 1)) (pg_name (i := 2) sc_law_dip.nd rfl (.inl rfl)))
      (pss_cons (ps_asg (pe_op op_fdiv (pe_ix ix_list (pv 0) pe_int (fun _ _ => rfl)) (pv 1)) (pg_sub (pv 0) pe_int set_list))
      (pss_one (ps_ret (pv 2)))))
      pss_nil)
      (pss_cons (ps_asg (pe_op op_add (pe_ix ix_list (pv 0) pe_int (fun _ _ => rfl)) pe_int) (pg_sub (pv 0) pe_int set_list))
      (pss_cons (ps_asg (pe_op op_mod (pe_op op_powW (pe_op op_add (pe_ix ix_list (pv 0) pe_int (fun _ _ => rfl)) (pe_op op_mul pe_int (pe_ix ix_list (pv 0) pe_int (fun _ _ => rfl)))) pe_int) (pe_op op_add (pe_op op_pow pe_int pe_int) pe_int)) (pg_name (i := 3) sc_law_dip.nd rfl (.inl rfl)))
      (pss_cons (ps_asg (pe_op op_mod (pe_op op_add (pe_op op_mulW (pv 3) (pv 3)) (pe_op op_mul pe_int (pe_ix ix_list (pv 0) pe_int (fun _ _ => rfl)))) (pe_op op_add (pe_op op_pow pe_int pe_int) pe_int)) (pg_name (i := 3) sc_law_dip.nd rfl (.inl rfl)))
      (pss_one (ps_ret (pe_op op_mod (pe_op op_fdivW (pv 3) pe_int) (pv 1)))))))), ?_⟩
    walk_at "vc"
    refine IxLK.of (L.lstAt (by walk_at "mem")) rfl ?_
    walk_at "vc"
    split
    · refine IxLK.of (L.lstAt (by walk_at "mem")) rfl ?_
      walk_at "vc"
      refine ⟨hn, IxLK.of (L.lstAt (by walk_at "mem")) rfl ?_⟩
      walk_at "vc"
      refine ⟨by first | exact ⟨hn, hn2⟩ | exact div_w (n := 200) (by decide) hn (by omega) (by decide), SetK.of (j := 0) L (by walk_at "mem") rfl (by walk_at "put") fun H1 L1 => ?_⟩
      exact q _ _ ⟨_, _, _, L1, Int.ediv_nonneg hx (by omega), hy, hy2, hz, by omega⟩ (Int.emod_nonneg _ (by omega)) (Int.emod_lt_of_pos _ hn)
    · refine IxLK.of (L.lstAt (by walk_at "mem")) rfl ?_
      walk_at "vc"
      refine SetK.of (j := 2) L (by walk_at "mem") rfl (by walk_at "put") fun H1 L1 => ?_
      refine IxLK.of (L1.lstAt (by walk_at "mem")) rfl ?_
      refine IxLK.of (L1.lstAt (by walk_at "mem")) rfl ?_
      walk_at "vc"
      walk_at "sds"
      refine ⟨(pow_bits (n := 151) (m := 3) (by decide) (by omega) (by omega) (by decide)).2, ?_⟩
      have w0 := Int.emod_nonneg ((y + 3267000013 * (z + 1)) ^ 3) (show (100000000000000000000000000000000000000000031 : Int) ≠ 0 by decide)
      have w1 := Int.emod_lt_of_pos ((y + 3267000013 * (z + 1)) ^ 3) (show (0 : Int) < 100000000000000000000000000000000000000000031 by decide)
      generalize (y + 3267000013 * (z + 1)) ^ 3 % 100000000000000000000000000000000000000000031 = a at *
      walk_at "sds"
      refine ⟨mul_w (n := 147) (by decide) w0 (by omega) w0 (by omega) (by decide), ?_⟩
      refine IxLK.of (L1.lstAt (by walk_at "mem")) rfl ?_
      have w2 : 0 ≤ a * a := Int.mul_nonneg w0 w0
      generalize a * a = b at *
      walk_at "vc"
      walk_at "sds"
      refine ⟨div_w (n := 30) (by decide) (by decide) (by decide) (by decide), hn, ?_⟩
      exact q _ _ ⟨_, _, _, L1, hx, hy, hy2, by omega, by omega⟩ (Int.emod_nonneg _ (by omega)) (Int.emod_lt_of_pos _ hn)
/-! cut law_equal -/
theorem bd_step {g : Gs} {n p b : Nat} (wf : g.Wf n) (ok : g.Ok p) (hp : ∀ c ∈ g.pos, c.1 + c.2 ≤ b) (hy : ∀ c, g.y c = true → c.1 + c.2 ≤ b) : (∀ c ∈ (g.step p).pos, c.1 + c.2 ≤ b + 1) ∧ ∀ c, (g.step p).y c = true → c.1 + c.2 ≤ b + 1 := by
  have ha := hp _ (List.mem_of_getElem? (Gs.at_get wf.toLn (ok.lt wf)))
  have go : ∀ c0 : Cell, c0.1 + c0.2 ≤ b + 1 → ∀ c ∈ g.pos.set p c0, c.1 + c.2 ≤ b + 1 := fun c0 h c hc => by
    rcases List.mem_or_eq_of_mem_set hc with z | z
    · exact Nat.le_succ_of_le (hp c z)
    · rw [z]; exact h
  unfold Gs.step
  cases hr : g.res p with
  | right c =>
    refine ⟨go c ?_, fun c hc => Nat.le_succ_of_le (hy c hc)⟩
    revert hr
    unfold Gs.res
    repeat' split
    all_goals (intro hr; first | (injection hr with h; rw [← h]; dsimp only; omega) | cases hr)
  | down c =>
    refine ⟨go c ?_, fun c hc => Nat.le_succ_of_le (hy c hc)⟩
    revert hr
    unfold Gs.res
    repeat' split
    all_goals (intro hr; first | (injection hr with h; rw [← h]; dsimp only; omega) | cases hr)
  | stop c => exact ⟨fun c hc => Nat.le_succ_of_le (hp c hc), fun c hc => Nat.le_succ_of_le (hy c hc)⟩
  | non =>
    refine ⟨fun c hc => Nat.le_succ_of_le (hp c hc), fun c hc => ?_⟩
    have hc : (if g.dnAt p = 2 then fset g.y (g.at p) true else g.y) c = true := hc
    split at hc
    · unfold fset at hc
      by_cases z : c = g.at p
      · rw [z]; omega
      · rw [if_neg z] at hc; exact Nat.le_succ_of_le (hy c hc)
    · exact Nat.le_succ_of_le (hy c hc)
theorem y_bd : ∀ {sch : List Nat} {g : Gs} {n b : Nat}, GVal g sch → g.Wf n → (∀ c ∈ g.pos, c.1 + c.2 ≤ b) → (∀ c, g.y c = true → c.1 + c.2 ≤ b) → ∀ c, (g.run sch).y c = true → c.1 + c.2 ≤ b + sch.length
  | [], _, _, _, _, _, _, hy, c, h => hy c h
  | p :: r, g, n, b, hv, wf, hp, hy, c, h => by
    have h2 := bd_step wf hv.1 hp hy
    have := y_bd (sch := r) (g := g.step p) (b := b + 1) hv.2 (wf.step hv.1) h2.1 h2.2 c h
    rw [List.length_cons]
    omega

theorem fin_first {n p j j' : Nat} {sch : List Nat} (hv : GVal (Gs.init n) (sch ++ List.replicate j' p)) (hf : ((Gs.init n).run (sch ++ List.replicate j p)).fin[p]? = some true) (h : j < j') : False := by
  have h1 : (sch ++ List.replicate j' p)[sch.length + j]? = some p := by
    rw [List.getElem?_append_right (by omega), show sch.length + j - sch.length = j by omega, List.getElem?_replicate, if_pos h]
  have h2 := hv.at h1
  have e : (sch ++ List.replicate j' p).take (sch.length + j) = sch ++ List.replicate j p := by
    rw [List.take_append, List.take_of_length_le (by omega), show sch.length + j - sch.length = j by omega, List.take_replicate, Nat.min_eq_left (by omega)]
  rw [e] at h2
  have h2 : ((Gs.init n).run (sch ++ List.replicate j p)).fin[p]? = some false := h2
  rw [hf] at h2
  cases h2
theorem strOk_of {s : Str} (h : ∀ c ∈ TL.tl s, c < 0x110000) : PyData.strOk s = true := by
  unfold PyData.strOk
  rw [← Array.all_toList]
  exact List.all_eq_true.mpr fun c hc => decide_eq_true (h c hc)
theorem joinL_mem {sep : List Nat} {c : Nat} : ∀ {ps : List (List Nat)}, c ∈ TL.joinL sep ps → c ∈ sep ∨ ∃ p ∈ ps, c ∈ p
  | [], h => by cases h
  | [p], h => .inr ⟨p, List.mem_singleton.mpr rfl, h⟩
  | p :: q :: r, h => by
    have h : c ∈ p ++ (sep ++ TL.joinL sep (q :: r)) := h
    rcases List.mem_append.mp h with z | z
    · exact .inr ⟨p, List.mem_cons_self, z⟩
    · rcases List.mem_append.mp z with w | w
      · exact .inl w
      · rcases joinL_mem w with w | ⟨x, hx, w⟩
        · exact .inl w
        · exact .inr ⟨x, List.mem_cons_of_mem _ hx, w⟩
theorem join_codes {sep : Str} {ps : List Str} (h1 : ∀ c ∈ TL.tl sep, c < 0x110000) (h2 : ∀ p ∈ ps, ∀ c ∈ TL.tl p, c < 0x110000) : ∀ c ∈ TL.tl (Txt.join sep ps), c < 0x110000 := fun c hc => by
  rw [TL.join_eq, TL.tl_join] at hc
  rcases joinL_mem hc with z | ⟨p, hp, z⟩
  · exact h1 c z
  · obtain ⟨q, hq, rfl⟩ := List.mem_map.mp hp
    exact h2 q hq c z
theorem nT_codes (k : Nat) : ∀ c ∈ TL.tl (nT k), c < 0x110000 := fun c hc => by have := nT_digits k c hc; omega
theorem sp_codes : ∀ c ∈ TL.tl (" " : Str), c < 0x110000 := by decide +kernel
theorem cm_codes : ∀ c ∈ TL.tl ("," : Str), c < 0x110000 := by decide +kernel
theorem da_codes : ∀ c ∈ TL.tl ("-" : Str), c < 0x110000 := by decide +kernel
theorem numT_codes (o : Option Nat) : ∀ c ∈ TL.tl (numT "-" o), c < 0x110000 := by
  cases o with
  | none => exact da_codes
  | some k => exact nT_codes k
theorem runT_ok (n : Nat) (sch : List Nat) : PyData.strOk (runT n sch) = true := by
  refine strOk_of (join_codes sp_codes fun p hp => ?_)
  simp only [List.mem_cons, List.not_mem_nil, or_false] at hp
  rcases hp with rfl | rfl
  · exact nT_codes n
  · unfold rowT
    split
    · exact da_codes
    · exact join_codes cm_codes fun q hq => by obtain ⟨k, _, rfl⟩ := List.mem_map.mp hq; exact nT_codes k
theorem Two.desk {d : Ad} {B H : Hp} {D : Dad} {R R' : Rad} {n n' : Nat} {sch mks sch' mks' : List Nat} {l : List (Addr × HO)} (h : Two d B H R n sch mks R' n' sch' mks' (deskO d D (.ref R.r) :: l)) : ∃ A, RunR d B H R n sch mks (deskO d D (.ref R.r) :: (A ++ l)) ∧ ∀ B' H' s1 m1, Same B B' → RunR d B' H' R n s1 m1 (deskO d D (.ref R.r) :: (A ++ l)) → Two d B' H' R n s1 m1 R' n' sch' mks' (deskO d D (.ref R.r) :: l) := by
  obtain ⟨A, h1, h2⟩ := h.fst
  exact ⟨A, h1.perm List.perm_middle, fun B' H' s1 m1 s h3 => h2 B' H' s1 m1 _ s (h3.perm List.perm_middle.symm)⟩
theorem Two.names {K : PySem.W.Frag} {d : Ad} {B H : Hp} {R R' : Rad} {n n' : Nat} {sch mks sch' mks' : List Nat} {l : List (Addr × HO)} {Q : VK} {E : XK} (T : Two d B H R n sch mks R' n' sch' mks' l) (q : ∀ H' p, Two d B H' R n sch mks R' n' sch' mks' ((p, .lst ((Gs.init n').run sch').names) :: l) → Q (.ref p) H') : PropK R'.r d.c_Run H (sp_Run_names_now K d [.ref R'.r] H Q E) := by
  obtain ⟨A, RR, back⟩ := T.snd
  obtain ⟨fs, e1⟩ := RR.at
  refine ⟨R'.dx, fs, e1, B, R', n', sch', mks', _, rfl, RR, fun H' p RR => q H' p (back B H' _ _ _ (Same.refl B) (RR.perm ?_))⟩
  exact List.perm_middle.symm
theorem Two.steps {K : PySem.W.Frag} {d : Ad} {B H : Hp} {R R' : Rad} {n n' : Nat} {sch mks sch' mks' : List Nat} {l : List (Addr × HO)} {Q : VK} {E : XK} (T : Two d B H R n sch mks R' n' sch' mks' l) (q : ∀ H' p, Two d B H' R n sch mks R' n' sch' mks' ((p, .lst (nv sch')) :: l) → Q (.ref p) H') : PropK R'.r d.c_Run H (sp_Run_steps_done K d [.ref R'.r] H Q E) := by
  obtain ⟨A, RR, back⟩ := T.snd
  obtain ⟨fs, e1⟩ := RR.at
  refine ⟨R'.dx, fs, e1, B, R', n', sch', mks', _, rfl, RR, fun H' p RR => q H' p (back B H' _ _ _ (Same.refl B) (RR.perm ?_))⟩
  exact List.perm_middle.symm
theorem Two.count {K : PySem.W.Frag} {d : Ad} {B H : Hp} {R R' : Rad} {n n' : Nat} {sch mks sch' mks' : List Nat} {l : List (Addr × HO)} {Q : VK} {E : XK} (T : Two d B H R n sch mks R' n' sch' mks' l) (q : Q (.int (n' : Int)) H) : PropK R'.r d.c_Run H (sp_Run_process_count K d [.ref R'.r] H Q E) := by
  obtain ⟨A, RR, back⟩ := T.snd
  obtain ⟨fs, e1⟩ := RR.at
  exact ⟨R'.dx, fs, e1, B, R', n', sch', mks', _, rfl, RR, q⟩
theorem Two.places {K : PySem.W.Frag} {d : Ad} {B H : Hp} {R R' : Rad} {n n' : Nat} {sch mks sch' mks' : List Nat} {l : List (Addr × HO)} {Q : VK} {E : XK} (T : Two d B H R n sch mks R' n' sch' mks' l) (hn : n' ≤ 40) (hm : sch'.length ≤ 1000000) (q : ∀ B' H' p out, Same B B' → Two d B' H' R n sch mks R' n' sch' mks' ((p, .lst out) :: l) → Tups B' out (placesV ((Gs.init n').run sch')) → Q (.ref p) H') : PropK R'.r d.c_Run H (sp_Run_places_now K d [.ref R'.r] H Q E) := by
  obtain ⟨A, RR, back⟩ := T.snd
  obtain ⟨fs, e1⟩ := RR.at
  refine ⟨R'.dx, fs, e1, B, R', n', sch', mks', _, rfl, RR, hn, hm, fun B' H' p out s RR ht => q B' H' p out s (back B' H' _ _ _ s (RR.perm ?_)) ht⟩
  exact List.perm_middle.symm
theorem Two.newAt {d : Ad} {B H : Hp} {R R' : Rad} {n n' : Nat} {sch mks sch' mks' : List Nat} {l : List (Addr × HO)} {p : Addr} {o : HO} (T : Two d B H R n sch mks R' n' sch' mks' l) (hp : H p = none) : Two d B (upd H p o) R n sch mks R' n' sch' mks' ((p, o) :: l) := by
  obtain ⟨rest, L, back⟩ := T.front
  exact back B _ ((p, o) :: l) (Same.refl B) (L.new hp)
theorem Two.led {d : Ad} {B H : Hp} {R R' : Rad} {n n' : Nat} {sch mks sch' mks' : List Nat} {l : List (Addr × HO)} (T : Two d B H R n sch mks R' n' sch' mks' l) : Led B H l := by
  obtain ⟨rest, L, back⟩ := T.front
  exact L.subl (List.sublist_append_left _ _)
theorem Two.appK {d : Ad} {B H : Hp} {R R' : Rad} {n n' : Nat} {sch mks sch' mks' : List Nat} {l : List (Addr × HO)} {p : Addr} {xs : List V} {v : V} {G : Hp → Prop} (T : Two d B H R n sch mks R' n' sch' mks' ((p, .lst xs) :: l)) (hl : xs.length < sizeLine) (k : ∀ H1, Two d B H1 R n sch mks R' n' sch' mks' ((p, .lst (xs ++ [v])) :: l) → G H1) : AppK p v H G := by
  obtain ⟨rest, L, back⟩ := T.front
  have L : Led B H ((p, .lst xs) :: (l ++ rest)) := L
  exact AppK.of L (.head _) hl .hd fun H1 L => k H1 (back B H1 ((p, .lst (xs ++ [v])) :: l) (Same.refl B) L)
/-- what stands of both runs -/
theorem Two.both {d : Ad} {B H : Hp} {R R' : Rad} {n n' : Nat} {sch mks sch' mks' : List Nat} {l : List (Addr × HO)} (T : Two d B H R n sch mks R' n' sch' mks' l) : GVal (Gs.init n') sch' ∧ ((Gs.init n').run sch').Wf n' ∧ ∀ c ∈ ((Gs.init n').run sch').pos, c.1 + c.2 ≤ sch'.length := by
  obtain ⟨A, RR, _⟩ := T.snd
  obtain ⟨W0, xs0, cs0, rp0, F0, L0⟩ := RunR.view.mp RR
  exact ⟨F0.1, F0.2.1, F0.2.2.bd⟩
theorem Two.tell {K : PySem.W.Frag} {d : Ad} {B H : Hp} {D : Dad} {R R' : Rad} {n n' : Nat} {sch mks sch' mks' : List Nat} {l : List (Addr × HO)} {row : Str} {Q : VK} {E : XK} (T : Two d B H R n sch mks R' n' sch' mks' (deskO d D (.ref R.r) :: l)) (hrow : row = "names" ∨ row = "places" ∨ row = "text") (h1 : 1 ≤ n) (hn : n ≤ 40) (hm : sch.length ≤ 30000) (hf : List.lookup (Str.ofString "execute") [(Str.ofString "_run", V.ref R.r)] = none)
    (q : ∀ B' H', Same B B' → Two d B' H' R n sch mks R' n' sch' mks' (deskO d D (.ref R.r) :: l) → Q (.str (if row = "names" then namesT ((Gs.init n).run sch) else if row = "places" then placesT ((Gs.init n).run sch) else runT n sch)) H') : MtK D.r d.c_Desk (Str.ofString "execute") H (sp_Desk_execute K d [.ref D.r, .str row] H Q E) := by
  obtain ⟨A, RR, back⟩ := T.desk
  have LD := RR.led
  refine ⟨D.dx, [("_run", .ref R.r)], LD.at (.head _), hf, D, row, rfl, .inr (.inr (.inr (.inr ⟨B, R, n, sch, mks, _, hrow, RR, h1, hn, hm, fun B' H' s RR => q B' H' s (back B' H' _ _ s RR)⟩)))⟩
def sp_law_equal (K : PySem.W.Frag) (d : Ad) : Sp := fun vs H Q _ => ∃ (B : Hp) (D : Dad) (R R' : Rad) (n : Nat) (sch mks : List Nat) (l : List (Addr × HO)), vs = [.ref D.r, .ref R'.r] ∧ Two d B H R n sch mks R' n sch mks (deskO d D (.ref R.r) :: l) ∧ 1 ≤ n ∧ n ≤ 40 ∧ sch.length ≤ 30000 ∧
  ∀ B' H', Same B B' → Two d B' H' R n sch mks R' n sch mks (deskO d D (.ref R.r) :: l) → Q (.bl true) H'
theorem ok_law_equal (m : Mo w K mg d) (sm : SM bs) (G_show_run : FnOk P w K mg bs CX0 9 d.a_show_run d.fd_show_run ["count", "schedule"] (sp_show_run K)) (G_Run_names_now : FnOk P w K mg bs CX0 1 d.a_Run_names_now d.fd_Run_names_now ["self"] (sp_Run_names_now K d)) (G_Run_places_now : FnOk P w K mg bs CX0 5 d.a_Run_places_now d.fd_Run_places_now ["self"] (sp_Run_places_now K d)) (G_Run_process_count : FnOk P w K mg bs CX0 1 d.a_Run_process_count d.fd_Run_process_count ["self"] (sp_Run_process_count K d)) (G_Run_steps_done : FnOk P w K mg bs CX0 1 d.a_Run_steps_done d.fd_Run_steps_done ["self"] (sp_Run_steps_done K d)) (G_Desk_execute : FnOk P w K mg bs CX0 12 d.a_Desk_execute d.fd_Desk_execute ["self", "row"] (sp_Desk_execute K d)) : Fg P w K mg bs CX0 13 d.a_law_equal d.fd_law_equal ["desk", "held"] (sp_law_equal K d) := by
  refine ok (n := 12) m.F_law_equal sc_law_equal (fun vs H Q E h => ?_) (fun cdv A fr s H vs Q E hg hr h => ?_)
  · obtain ⟨B, D, R, R', n, sch, mks, l, rfl, T, h1, hn, hm, q⟩ := h
    rfl
  · obtain ⟨B, D, R, R', n, sch, mks, l, rfl, T, h1, hn, hm, q⟩ := h
    refine ⟨_, (pss_cons (ps_asg (pe_bm PySem.F.plainAttrs_str PySem.F.slot_str_join PySem.F.type_str_join mt_joinS pe_str (pa_cons (pe_lc (own := [("name", 3)]) (by rfl) sc_law_equal.nd (pi_list (pe_prop (pv 1) m.C_Run m.P_Run_names_now G_Run_names_now (hr.mono (by decide)) m.b_Run_names_now .nil pass0 rfl)) (blkOk_by (own := [("name", 3)]) (N := ["desk", "held", "given", "name", "spots", "place", "text"]) (sc := defScope s_law_equal) (by decide +kernel)) (fun _ _ _ _ _ => by exact (pg_name (i := 3) sc_law_equal.nd rfl (.inl rfl))) (fun _ _ _ _ _ => by exact pts_nil) (fun _ _ _ _ _ => by exact (pe_ifExp (pt_cmpR op_isN (pv 3) pe_non (nomark _)) pe_str (pe_callTy (show CallR _ _ rStrI from cr_strI) (by rfl) m.n_str (by decide +kernel) (pa_cons (pv 3) pa_nil))))) pa_nil)) (pg_name (i := 2) sc_law_equal.nd rfl (.inl rfl)))
      (pss_cons (ps_asg (pe_bm PySem.F.plainAttrs_str PySem.F.slot_str_join PySem.F.type_str_join mt_joinS pe_str (pa_cons (pe_lc (own := [("place", 5)]) (by rfl) sc_law_equal.nd (pi_list (pe_prop (pv 1) m.C_Run m.P_Run_places_now G_Run_places_now (hr.mono (by decide)) m.b_Run_places_now .nil pass0 rfl)) (blkOk_by (own := [("place", 5)]) (N := ["desk", "held", "given", "name", "spots", "place", "text"]) (sc := defScope s_law_equal) (by decide +kernel)) (fun _ _ _ _ _ => by exact (pg_name (i := 5) sc_law_equal.nd rfl (.inl rfl))) (fun _ _ _ _ _ => by exact pts_nil) (fun _ _ _ _ _ => by exact (pe_callTy (show CallR _ _ rStrI from cr_strI) (by rfl) m.n_str (by decide +kernel) (pa_cons (pe_ix (show IxR _ (rIxT K) from ix_tup) (pv 5) pe_int (fun _ _ => rfl)) pa_nil)))) pa_nil)) (pg_name (i := 4) sc_law_equal.nd rfl (.inl rfl)))
      (pss_cons (ps_asg (pe_call G_show_run (hr.mono (by decide)) (by rfl) m.g_show_run m.F_show_run.kp m.b_show_run .nil pass0 (pa_cons (pe_prop (pv 1) m.C_Run m.P_Run_process_count G_Run_process_count (hr.mono (by decide)) m.b_Run_process_count .nil pass0 rfl) (pa_cons (pe_prop (pv 1) m.C_Run m.P_Run_steps_done G_Run_steps_done (hr.mono (by decide)) m.b_Run_steps_done .nil pass0 rfl) pa_nil))) (pg_name (i := 6) sc_law_equal.nd rfl (.inl rfl)))
      (pss_one (ps_ret (pe_cmpR (op_eqL hr.units) (pe_lst (pa_cons (pe_meth (pv 0) m.C_Desk m.M_Desk_execute G_Desk_execute (hr.mono (by decide)) m.b_Desk_execute .nil pass0 (pa_cons pe_str pa_nil)) (pa_cons (pe_meth (pv 0) m.C_Desk m.M_Desk_execute G_Desk_execute (hr.mono (by decide)) m.b_Desk_execute .nil pass0 (pa_cons pe_str pa_nil)) (pa_cons (pe_meth (pv 0) m.C_Desk m.M_Desk_execute G_Desk_execute (hr.mono (by decide)) m.b_Desk_execute .nil pass0 (pa_cons pe_str pa_nil)) pa_nil)))) (pe_lst (pa_cons (pv 2) (pa_cons (pv 4) (pa_cons (pv 6) pa_nil)))) (nomark _))))))), ?_⟩
    obtain ⟨hv, wf0, hbd⟩ := T.both
    have wf := wf0.toLn
    have hno := names_of wf hbd (by omega)
    have hnl := Gs.names_len wf
    have hpl : ((Gs.init n).run sch).pos.length = n := wf.lp
    walk_at "v2"
    refine T.names fun H1 p T => ?_
    walk_at "v1"
    refine ⟨⟨_, T.led.lstAt (.head _)⟩, ?_⟩
    have tk1 : namesT ((Gs.init n).run sch) = Txt.join " " (((Gs.init n).run sch).names.map nmS) := rfl
    refine comp_list (xs := ((Gs.init n).run sch).names) (fun j z acc H' => acc = ((((Gs.init n).run sch).names.take j).map nmS).map V.str ∧ Two d B H' R n sch mks R' n sch mks ((z, .lst acc) :: (p, .lst ((Gs.init n).run sch).names) :: deskO d D (.ref R.r) :: l)) (fun z hz => ⟨rfl, T.newAt hz⟩) (fun j z acc H' h => h.2.led.lstAt (.tail _ (.head _))) ?_ ?_
    rotate_left
    · rintro j z acc H2 x N hx ⟨rfl, T⟩ hN
      obtain ⟨o, e1, e2, hb⟩ := hno x (List.mem_of_getElem? hx)
      have hj : j < n := by rw [← hnl]; exact (List.getElem?_eq_some_iff.mp hx).1
      have happ : ∀ t : Str, t = nmS x → AppK z (.str t) H2 N := fun t et => by
        refine T.appK (Nat.lt_of_le_of_lt (m := 100) (by rw [List.length_map, List.length_map, List.length_take]; omega) (by decide)) fun H3 T => hN _ _ ⟨?_, T⟩
        rw [List.take_add_one, hx, List.map_append, List.map_append, et]
        rfl
      unfold TurnK
      walk_at "v1"
      cases o with
      | none =>
        rw [e1]
        unfold numV
        walk_at "v1"
        exact happ _ e2.symm
      | some k =>
        rw [e1]
        unfold numV
        walk_at "v1"
        have := hb k rfl
        exact ⟨Nat.lt_of_lt_of_le (PySem.Flt.log2_lt_of (k := 60) (by decide) (by rw [Int.natAbs_natCast]; omega)) (by decide), happ _ e2.symm⟩
    rintro z acc H2 ⟨rfl, T⟩
    rw [List.take_length] at T
    refine x_joinS.mpr ⟨((Gs.init n).run sch).names.map nmS, .inl (T.led.lstAt (.head _)), ?_, ?_⟩
    · have := sum_le_len (l := ((Gs.init n).run sch).names.map nmS) (b := 20) (fun x hx => by
        obtain ⟨y, hy, rfl⟩ := List.mem_map.mp hx
        obtain ⟨o, _, e, hb⟩ := hno y hy
        rw [e]
        exact numT_len hb)
      rw [List.length_map, hnl] at this ⊢
      have e1 : (" " : Str).length = 1 := rfl
      rw [e1]
      omega
    have T := T.sub (List.sublist_append_right [_, _] (deskO d D (.ref R.r) :: l))
    rw [← tk1]
    walk_at "v2"
    refine T.places hn (by omega) fun B1 H3 p2 out s1 T ht => ?_
    have hol : out.length = n := by rw [ht.1, placesV_len wf]
    have tk2 : placesT ((Gs.init n).run sch) = Txt.join " " (((Gs.init n).run sch).pos.map fun c => Str.ofString (toString (nmC c))) := rfl
    walk_at "v1"
    refine ⟨⟨_, T.led.lstAt (.head _)⟩, ?_⟩
    refine comp_list (xs := out) (fun j z acc H' => acc = ((((Gs.init n).run sch).pos.take j).map fun c => Str.ofString (toString (nmC c))).map V.str ∧ Two d B1 H' R n sch mks R' n sch mks ((z, .lst acc) :: (p2, .lst out) :: deskO d D (.ref R.r) :: l)) (fun z hz => ⟨rfl, T.newAt hz⟩) (fun j z acc H' h => h.2.led.lstAt (.tail _ (.head _))) ?_ ?_
    rotate_left
    · rintro j z acc H2 x N hx ⟨rfl, T⟩ hN
      have hj : j < n := by rw [← hol]; exact (List.getElem?_eq_some_iff.mp hx).1
      obtain ⟨c, hc⟩ : ∃ c, ((Gs.init n).run sch).pos[j]? = some c := ⟨_, List.getElem?_eq_getElem (by omega)⟩
      obtain ⟨k, hk⟩ : ∃ c, ((Gs.init n).run sch).dn[j]? = some c := ⟨_, List.getElem?_eq_getElem (by rw [wf.ld]; omega)⟩
      have hz : (((Gs.init n).run sch).pos.zip ((Gs.init n).run sch).dn)[j]? = some (c, k) := List.getElem?_zip_eq_some.mpr ⟨hc, hk⟩
      obtain ⟨t, et, htt⟩ := ht.2 j [.int (nmC c), .int (k : Int)] (by unfold placesV; rw [List.getElem?_map, hz]; rfl)
      rw [hx] at et
      cases et
      have hcb := hbd c (List.mem_of_getElem? hc)
      have n0 := nmC_nn c
      have n1 := nmC_lt hcb (by omega)
      unfold TurnK
      walk_at "v1"
      refine IxTK.of (.inl (.inl (T.led.sm _ _ htt))) (i := 0) (v := .int (nmC c)) (by rfl) ?_
      walk_at "v1"
      refine ⟨Nat.lt_of_lt_of_le (PySem.Flt.log2_lt_of (k := 60) (by decide) (by omega)) (by decide), ?_⟩
      refine T.appK (Nat.lt_of_le_of_lt (m := 100) (by rw [List.length_map, List.length_map, List.length_take]; omega) (by decide)) fun H3 T => hN _ _ ⟨?_, T⟩
      rw [List.take_add_one, hc, List.map_append, List.map_append]
      rfl
    rintro z acc H2 ⟨rfl, T⟩
    rw [hol, List.take_of_length_le (Nat.le_of_eq hpl)] at T
    refine x_joinS.mpr ⟨((Gs.init n).run sch).pos.map fun c => Str.ofString (toString (nmC c)), .inl (T.led.lstAt (.head _)), ?_, ?_⟩
    · have := sum_le_len (l := ((Gs.init n).run sch).pos.map fun c => Str.ofString (toString (nmC c))) (b := 15) (fun x hx => by
        obtain ⟨y, hy, rfl⟩ := List.mem_map.mp hx
        exact sI_len (nmC_nn y) (nmC_lt (hbd y hy) (by omega)))
      rw [List.length_map, hpl] at this ⊢
      have e1 : (" " : Str).length = 1 := rfl
      rw [e1]
      omega
    have T := T.sub (List.sublist_append_right [_, _] (deskO d D (.ref R.r) :: l))
    rw [← tk2]
    walk_at "v2"
    refine T.count ?_
    refine T.steps fun H4 p3 T => ?_
    obtain ⟨rest, L, back⟩ := T.front
    refine ⟨B1, _, n, sch, p3, rfl, L, h1, hn, fun B' H' s L => L.lstAt (.head _), hv, hm, fun B2 H5 s2 L => ?_⟩
    have T := (back B2 H5 _ s2 L).sub (List.sublist_cons_self _ _)
    walk_at "v1"
    have s0 : Same B B2 := s1.trans s2
    have T := T.sub (List.Sublist.refl (deskO d D (.ref R.r) :: l))
    refine T.tell (row := "names") (.inl rfl) h1 hn hm (by walk_at "fs") fun B3 H6 s3 T => ?_
    rw [if_pos rfl]
    refine T.tell (row := "places") (.inr (.inl rfl)) h1 hn hm (by walk_at "fs") fun B4 H7 s4 T => ?_
    rw [if_neg (by decide +kernel), if_pos rfl]
    refine T.tell (row := "text") (.inr (.inr rfl)) h1 hn hm (by walk_at "fs") fun B5 H8 s5 T => ?_
    rw [if_neg (by decide +kernel), if_neg (by decide +kernel)]
    have k1 : PyData.strOk (namesT ((Gs.init n).run sch)) = true := strOk_of (join_codes sp_codes fun x hx => by
      obtain ⟨y, hy, rfl⟩ := List.mem_map.mp hx
      obtain ⟨o, _, e, _⟩ := hno y hy
      rw [e]
      exact numT_codes o)
    have k2 : PyData.strOk (placesT ((Gs.init n).run sch)) = true := strOk_of (join_codes sp_codes fun x hx => by
      obtain ⟨y, hy, rfl⟩ := List.mem_map.mp hx
      rw [sI_nat (nmC_nn y)]
      exact nT_codes _)
    have k3 := runT_ok n sch
    generalize namesT ((Gs.init n).run sch) = t1 at *
    generalize placesT ((Gs.init n).run sch) = t2 at *
    generalize runT n sch = t3 at *
    refine T.new fun p5 H9 T => ?_
    refine T.new fun p6 H10 T => ?_
    refine eq_dat (x := .list [.str t1, .str t2, .str t3]) (k := 2) (.lst (T.led.lstAt (xs := [V.str t1, V.str t2, V.str t3]) (.tail _ (.head _))) (.cons (.str _) (.cons (.str _) (.cons (.str _) .nil)))) (.lst (T.led.lstAt (.head _)) (.cons (.str _) (.cons (.str _) (.cons (.str _) .nil)))) (Eqd.lst fun x hx => by
      simp only [List.mem_cons, List.not_mem_nil, or_false] at hx
      rcases hx with rfl | rfl | rfl
      · exact Eqd.str _ k1
      · exact Eqd.str _ k2
      · exact Eqd.str _ k3) (by decide) ?_
    exact q B5 _ (s0.trans (s3.trans (s4.trans s5))) (T.sub (List.sublist_append_right [_, _] (deskO d D (.ref R.r) :: l)))
/-! cut law_called -/
theorem Two.step {K : PySem.W.Frag} {d : Ad} {B H : Hp} {R R' : Rad} {n n' : Nat} {sch mks sch' mks' : List Nat} {l : List (Addr × HO)} {p : Nat} {Q : VK} {E : XK} (T : Two d B H R n sch mks R' n' sch' mks' l) (hf : ∀ v w : V, List.lookup (Str.ofString "step") [(Str.ofString "_walk", v), (Str.ofString "_marks", w)] = none) (ok : ((Gs.init n').run sch').Ok p) (hml : mks'.length ≤ 100000) (hm : sch'.length + 40 ≤ 1000000) (q : ∀ B' H' v, Same B B' → Two d B' H' R n sch mks R' n' (sch' ++ [p]) (mks' ++ [sch'.length]) l → RV B' v (resT (((Gs.init n').run sch').res p)) → Q v H') : MtK R'.r d.c_Run (Str.ofString "step") H (sp_Run_step K d [.ref R'.r, .int (p : Int)] H Q E) := by
  obtain ⟨A, RR, back⟩ := T.snd
  obtain ⟨w0, e1⟩ := RR.at2
  exact ⟨R'.dx, _, e1, hf _ _, B, R', n', sch', mks', p, _, rfl, RR, ok, hml, hm, fun B' H' v s RR hv => q B' H' v s (back B' H' _ _ _ s RR) hv⟩
theorem Two.fin {K : PySem.W.Frag} {d : Ad} {B H : Hp} {R R' : Rad} {n n' : Nat} {sch mks sch' mks' : List Nat} {l : List (Addr × HO)} {p S : Nat} {Q : VK} {E : XK} (T : Two d B H R n sch mks R' n' sch' mks' l) (hf : ∀ v w : V, List.lookup (Str.ofString "finish") [(Str.ofString "_walk", v), (Str.ofString "_marks", w)] = none) (ok : ((Gs.init n').run sch').Ok p) (hml : mks'.length ≤ 100000) (hm : sch'.length + 4 * S + 40 ≤ 1000000) (hy : ∀ c, ((Gs.init n').run sch').y c = true → c.1 + c.2 ≤ S) (hc : (((Gs.init n').run sch').at p).1 + (((Gs.init n').run sch').at p).2 ≤ S)
    (q : ∀ B' H' j, Same B B' → j ≤ 4 * S + 17 → Two d B' H' R n sch mks R' n' (sch' ++ List.replicate j p) (mks' ++ [sch'.length]) l → ((Gs.init n').run (sch' ++ List.replicate j p)).fin[p]? = some true → Q (.int (nmC (((Gs.init n').run (sch' ++ List.replicate j p)).at p))) H') : MtK R'.r d.c_Run (Str.ofString "finish") H (sp_Run_finish K d [.ref R'.r, .int (p : Int)] H Q E) := by
  obtain ⟨A, RR, back⟩ := T.snd
  obtain ⟨w0, e1⟩ := RR.at2
  exact ⟨R'.dx, _, e1, hf _ _, B, R', n', sch', mks', p, S, _, rfl, RR, ok, hml, hm, hy, hc, fun B' H' j s hj RR hf => q B' H' j s hj (back B' H' _ _ _ s RR) hf⟩
theorem Two.und {K : PySem.W.Frag} {d : Ad} {B H : Hp} {R R' : Rad} {n n' k : Nat} {sch mks sch' mks' : List Nat} {l : List (Addr × HO)} {Q : VK} {E : XK} (T : Two d B H R n sch mks R' n' sch' (mks' ++ [k]) l) (hf : ∀ v w : V, List.lookup (Str.ofString "undo") [(Str.ofString "_walk", v), (Str.ofString "_marks", w)] = none) (h1 : 1 ≤ n') (hn : n' ≤ 40) (hm : sch'.length ≤ 1000000) (hml : mks'.length ≤ 1000000) (q : ∀ B' H', Same B B' → Two d B' H' R n sch mks R' n' (sch'.take k) mks' l → Q .non H') : MtK R'.r d.c_Run (Str.ofString "undo") H (sp_Run_undo K d [.ref R'.r] H Q E) := by
  obtain ⟨A, RR, back⟩ := T.snd
  obtain ⟨w0, e1⟩ := RR.at2
  exact ⟨R'.dx, _, e1, hf _ _, B, R', n', sch', mks', k, _, rfl, RR, h1, hn, hm, hml, fun B' H' s RR => q B' H' s (back B' H' _ _ _ s RR)⟩
theorem Put.app {l l' : List (Addr × HO)} {p : Addr} {o : HO} (r : List (Addr × HO)) (h : Put l p o l') : Put (l ++ r) p o (l' ++ r) := by
  induction h with
  | hd => exact .hd
  | tl _ ih => exact .tl ih
theorem Two.put {d : Ad} {B H : Hp} {R R' : Rad} {n n' : Nat} {sch mks sch' mks' : List Nat} {l l' : List (Addr × HO)} {p : Addr} {o : HO} (T : Two d B H R n sch mks R' n' sch' mks' l) (h : Put l p o l') : Two d B (upd H p o) R n sch mks R' n' sch' mks' l' := by
  obtain ⟨rest, L, back⟩ := T.front
  exact back B _ l' (Same.refl B) (L.put (Put.app rest h))
def UrnB (x y z : Int) (c : Nat) : Prop := 0 ≤ x ∧ 0 ≤ y ∧ y < 2 ^ 150 ∧ 0 ≤ z ∧ z ≤ (c : Int)
theorem Two.dip {K : PySem.W.Frag} {d : Ad} {B H : Hp} {R R' : Rad} {n n' c : Nat} {sch mks sch' mks' : List Nat} {l : List (Addr × HO)} {u : Addr} {x y z k : Int} {Q : VK} {E : XK} (T : Two d B H R n sch mks R' n' sch' mks' ((u, .lst [.int x, .int y, .int z]) :: l)) (hx : UrnB x y z c) (hc : c < 1000000) (h0 : 0 < k) (h1 : k < 1073741824)
    (q : ∀ H' r x' y' z', Two d B H' R n sch mks R' n' sch' mks' ((u, .lst [.int x', .int y', .int z']) :: l) → UrnB x' y' z' (c + 1) → 0 ≤ r → r < k → Q (.int r) H') : sp_law_dip K [.ref u, .int k] H Q E := by
  obtain ⟨rest, L, back⟩ := T.front
  refine dip_go (l := l ++ rest) ⟨x, y, z, L, hx⟩ hc h0 (by omega) fun H' r U a b => ?_
  obtain ⟨x', y', z', L', hb⟩ := U
  exact q H' r x' y' z' (back B H' ((u, .lst [.int x', .int y', .int z']) :: l) (Same.refl B) L') hb a b
theorem Two.exStep {K : PySem.W.Frag} {d : Ad} {B H : Hp} {D : Dad} {R R' : Rad} {n n' : Nat} {sch mks sch' mks' : List Nat} {l : List (Addr × HO)} {p : Nat} {Q : VK} {E : XK} (T : Two d B H R n sch mks R' n' sch' mks' (deskO d D (.ref R.r) :: l)) (hf : List.lookup (Str.ofString "execute") [(Str.ofString "_run", V.ref R.r)] = none) (hp : p < 10 ^ 9) (ok : ((Gs.init n).run sch).Ok p) (hml : mks.length ≤ 100000) (hm : sch.length + 40 ≤ 1000000)
    (q : ∀ B' H', Same B B' → Two d B' H' R n (sch ++ [p]) (mks ++ [sch.length]) R' n' sch' mks' (deskO d D (.ref R.r) :: l) → Q (.str (stT (resT (((Gs.init n).run sch).res p)))) H') : MtK D.r d.c_Desk (Str.ofString "execute") H (sp_Desk_execute K d [.ref D.r, .str (rowS "step" (some p))] H Q E) := by
  obtain ⟨A, RR, back⟩ := T.desk
  have LD := RR.led
  exact ⟨D.dx, [("_run", .ref R.r)], LD.at (.head _), hf, D, _, rfl, .inr (.inl ⟨B, R, n, sch, mks, p, _, rfl, RR, hp, ok, hml, hm, fun B' H' s RR => q B' H' s (back B' H' _ _ s RR)⟩)⟩
theorem Two.exFin {K : PySem.W.Frag} {d : Ad} {B H : Hp} {D : Dad} {R R' : Rad} {n n' : Nat} {sch mks sch' mks' : List Nat} {l : List (Addr × HO)} {p S : Nat} {Q : VK} {E : XK} (T : Two d B H R n sch mks R' n' sch' mks' (deskO d D (.ref R.r) :: l)) (hf : List.lookup (Str.ofString "execute") [(Str.ofString "_run", V.ref R.r)] = none) (hp : p < 10 ^ 9) (ok : ((Gs.init n).run sch).Ok p) (hml : mks.length ≤ 100000) (hm : sch.length + 4 * S + 40 ≤ 1000000) (hy : ∀ c, ((Gs.init n).run sch).y c = true → c.1 + c.2 ≤ S) (hc : (((Gs.init n).run sch).at p).1 + (((Gs.init n).run sch).at p).2 ≤ S)
    (q : ∀ B' H' j, Same B B' → j ≤ 4 * S + 17 → Two d B' H' R n (sch ++ List.replicate j p) (mks ++ [sch.length]) R' n' sch' mks' (deskO d D (.ref R.r) :: l) → ((Gs.init n).run (sch ++ List.replicate j p)).fin[p]? = some true → Q (.str (Str.ofString (toString (nmC (((Gs.init n).run (sch ++ List.replicate j p)).at p))))) H') : MtK D.r d.c_Desk (Str.ofString "execute") H (sp_Desk_execute K d [.ref D.r, .str (rowS "finish" (some p))] H Q E) := by
  obtain ⟨A, RR, back⟩ := T.desk
  have LD := RR.led
  exact ⟨D.dx, [("_run", .ref R.r)], LD.at (.head _), hf, D, _, rfl, .inr (.inr (.inl ⟨B, R, n, sch, mks, p, S, _, rfl, RR, hp, ok, hml, hm, hy, hc, fun B' H' j s hj RR hf => q B' H' j s hj (back B' H' _ _ s RR) hf⟩))⟩
theorem Two.exUndo {K : PySem.W.Frag} {d : Ad} {B H : Hp} {D : Dad} {R R' : Rad} {n n' k : Nat} {sch mks sch' mks' : List Nat} {l : List (Addr × HO)} {Q : VK} {E : XK} (T : Two d B H R n sch (mks ++ [k]) R' n' sch' mks' (deskO d D (.ref R.r) :: l)) (hf : List.lookup (Str.ofString "execute") [(Str.ofString "_run", V.ref R.r)] = none) (h1 : 1 ≤ n) (hn : n ≤ 40) (hm : sch.length ≤ 1000000) (hml : mks.length ≤ 1000000)
    (q : ∀ B' H', Same B B' → Two d B' H' R n (sch.take k) mks R' n' sch' mks' (deskO d D (.ref R.r) :: l) → Q (.str "ok") H') : MtK D.r d.c_Desk (Str.ofString "execute") H (sp_Desk_execute K d [.ref D.r, .str "undo"] H Q E) := by
  obtain ⟨A, RR, back⟩ := T.desk
  have LD := RR.led
  exact ⟨D.dx, [("_run", .ref R.r)], LD.at (.head _), hf, D, _, rfl, .inr (.inr (.inr (.inl ⟨B, R, n, sch, mks, k, _, rfl, RR, h1, hn, hm, hml, fun B' H' s RR => q B' H' s (back B' H' _ _ s RR)⟩)))⟩
theorem MtK.imp {p C : Addr} {m : Str} {H : Hp} {G G' : Prop} (f : G → G') (h : MtK p C m H G) : MtK p C m H G' := let ⟨dx, fs, a, b, g⟩ := h; ⟨dx, fs, a, b, f g⟩
theorem Two.lenP {K : PySem.W.Frag} {d : Ad} {B H : Hp} {R R' : Rad} {n n' : Nat} {sch mks sch' mks' : List Nat} {l : List (Addr × HO)} {Q : VK} {E : XK} (T : Two d B H R n sch mks R' n' sch' mks' l) (q : Q (.int (sch'.length : Int)) H) : PropK R'.r d.c_Run H (sp_Run___len__ K d [.ref R'.r] H Q E) := by
  obtain ⟨A, RR, back⟩ := T.snd
  obtain ⟨fs, e1⟩ := RR.at
  exact ⟨R'.dx, fs, e1, B, R', n', sch', mks', _, rfl, RR, q⟩
theorem y_all {n : Nat} {sch : List Nat} (hv : GVal (Gs.init n) sch) : ∀ c, ((Gs.init n).run sch).y c = true → c.1 + c.2 ≤ sch.length := fun c hc => by
  have := y_bd (g := Gs.init n) (n := n) (b := 0) hv (Gs.init_wf n) (fun c hc => by
    have hc : c ∈ List.replicate n ((0, 0) : Cell) := hc
    rw [List.eq_of_mem_replicate hc]
    exact Nat.le_refl _) (fun c hc => by cases hc) c hc
  omega
theorem atI_lastN {l : List Nat} (h : l ≠ []) : ∃ p, p ∈ l ∧ atI (nv l) (-1) = some (.int (p : Int)) := by
  obtain ⟨p1, hp1⟩ : ∃ p, l.getLast? = some p := ⟨_, List.getLast?_eq_some_getLast h⟩
  have hpos : 0 < l.length := List.length_pos_iff.mpr h
  refine ⟨p1, List.mem_of_getLast? hp1, ?_⟩
  unfold atI ixN
  rw [if_neg (by decide), nv_len, if_pos (by omega)]
  show (nv l)[((-1 : Int) + (l.length : Int)).toNat]? = _
  unfold nv
  rw [List.getElem?_map, show ((-1 : Int) + (l.length : Int)).toNat = l.length - 1 by omega, ← List.getLast?_eq_getElem?, hp1]
  rfl
/-- those that have not finished -/
def okN (g : Gs) (n : Nat) : List Nat := (List.range n).filter fun p => decide (g.fin[p]? ≠ some true)
def sp_law_called (K : PySem.W.Frag) (d : Ad) : Sp := fun vs H Q _ => ∃ (B : Hp) (D : Dad) (R R' : Rad) (n c b : Nat) (sch mks ws : List Nat) (u pa : Addr) (x y z0 : Int) (l : List (Addr × HO)), vs = [.ref u, .ref D.r, .ref R'.r, .ref pa] ∧ Two d B H R n sch mks R' n sch mks (deskO d D (.ref R.r) :: (u, .lst [.int x, .int y, .int z0]) :: (pa, .lst (nv ws)) :: l) ∧ UrnB x y z0 c ∧ c < 900000 ∧ 1 ≤ n ∧ n ≤ 40 ∧ ws.length = mks.length ∧ mks.length ≤ b ∧ sch.length ≤ 2020 + b ∧ b ≤ 1000 ∧
  ∀ B' H' sch' mks' ws' x' y' z', Same B B' → Two d B' H' R n sch' mks' R' n sch' mks' (deskO d D (.ref R.r) :: (u, .lst [.int x', .int y', .int z']) :: (pa, .lst (nv ws')) :: l) → UrnB x' y' z' (c + 10) → ws'.length = mks'.length → mks'.length ≤ b + 1 → sch'.length ≤ 2020 + (b + 1) → Q (.bl true) H'
theorem ok_law_called (m : Mo w K mg d) (sm : SM bs) (G_Run_names_now : FnOk P w K mg bs CX0 1 d.a_Run_names_now d.fd_Run_names_now ["self"] (sp_Run_names_now K d)) (G_Run_undo : FnOk P w K mg bs CX0 10 d.a_Run_undo d.fd_Run_undo ["self"] (sp_Run_undo K d)) (G_Run_finish : FnOk P w K mg bs CX0 7 d.a_Run_finish d.fd_Run_finish ["self", "process"] (sp_Run_finish K d)) (G_Run_step : FnOk P w K mg bs CX0 8 d.a_Run_step d.fd_Run_step ["self", "process"] (sp_Run_step K d)) (G_Run___len__ : FnOk P w K mg bs CX0 1 d.a_Run___len__ d.fd_Run___len__ ["self"] (sp_Run___len__ K d)) (G_Desk_execute : FnOk P w K mg bs CX0 12 d.a_Desk_execute d.fd_Desk_execute ["self", "row"] (sp_Desk_execute K d)) (G_law_dip : Fg P w K mg bs CX0 1 d.a_law_dip d.fd_law_dip ["urn", "size"] (sp_law_dip K)) : Fg P w K mg bs CX0 13 d.a_law_called d.fd_law_called ["urn", "desk", "held", "past"] (sp_law_called K d) := by
  refine ok (n := 12) m.F_law_called sc_law_called (fun vs H Q E h => ?_) (fun cdv A fr s H vs Q E hg hr h => ?_)
  · obtain ⟨B, D, R, R', n, c, b, sch, mks, ws, u, pa, x, y, z0, l, rfl, T, hxyz, hc, h1, hn, hwl, hmk, hm, hb, q⟩ := h
    rfl
  · obtain ⟨B, D, R, R', n, c, b, sch, mks, ws, u, pa, x, y, z0, l, rfl, T, hxyz, hc, h1, hn, hwl, hmk, hm, hb, q⟩ := h
    refine ⟨_, (pss_cons (ps_setLc (i := 4) (own := [("who", 5), ("name", 6)]) (by rfl) sc_law_called.nd rfl rfl (sw_true rfl rfl rfl (by decide +kernel)) (pi_enum (by rfl) m.n_enumerate (pa_cons (pe_prop (pv 2) m.C_Run m.P_Run_names_now G_Run_names_now (hr.mono (by decide)) m.b_Run_names_now .nil pass0 rfl) pa_nil)) (blkOk_by (own := [("who", 5), ("name", 6)]) (N := ["urn", "desk", "held", "past", "able", "who", "name", "way", "told", "due"]) (sc := defScope s_law_called) (by decide +kernel)) (fun _ _ _ _ _ => by exact (show PG _ _ (gTup K 2 _) from pg_tup (by rfl) (pgs_cons (pg_name (i := 5) sc_law_called.nd rfl (.inl rfl)) (pgs_cons (pg_name (i := 6) sc_law_called.nd rfl (.inl rfl)) pgs_nil)))) (fun _ _ _ _ _ => by exact (pts_one (pt_cmpR op_isN (pv 6) pe_non (nomark _)))) (fun _ _ _ _ _ => by exact (pv 5)))
      (pss_cons (ps_asg (pg_call G_law_dip hg (hr.mono (by decide)) (by rfl) m.g_law_dip m.F_law_dip.kp m.b_law_dip .nil (fun _ => passG) (pa_cons (pv 0) (pa_cons pe_int pa_nil))) (pg_name (i := 7) sc_law_called.nd rfl (.inl rfl)))
      (pss_cons (ps_if (PW.pt (pw_and (pt_cmpR op_eq (pv 7) pe_int (nomark _)) (pw_and1 (pt_cmpR (op_neD hr.units) (pv 3) (pe_lst pa_nil) (nomark _)))))
      (pss_cons (ps_expr (pe_bm0 PySem.F.plainAttrs_list PySem.F.slot_list_pop PySem.F.type_list_pop mt_pop (pv 3)))
      (pss_cons (ps_expr (pe_meth0 (pv 2) m.C_Run m.M_Run_undo G_Run_undo (hr.mono (by decide)) m.b_Run_undo .nil pass0))
      (pss_one (ps_ret (pe_cmpR op_eq (pe_meth (pv 1) m.C_Desk m.M_Desk_execute G_Desk_execute (hr.mono (by decide)) m.b_Desk_execute .nil pass0 (pa_cons pe_str pa_nil)) pe_str (nomark _))))))
      pss_nil)
      (pss_cons (ps_if (pt_cmpR (op_eqL hr.units) (pv 4) (pe_lst pa_nil) (nomark _))
      (pss_one (ps_ret pe_bl))
      pss_nil)
      (pss_cons (ps_expr (pe_bm PySem.F.plainAttrs_list PySem.F.slot_list_append PySem.F.type_list_append mt_append (pv 3) (pa_cons (pv 7) pa_nil)))
      (pss_cons (ps_asg (pe_ix ix_list (pe_lst (pa_cons (pe_ix ix_list (pv 4) (pg_call G_law_dip hg (hr.mono (by decide)) (by rfl) m.g_law_dip m.F_law_dip.kp m.b_law_dip .nil (fun _ => passG) (pa_cons (pv 0) (pa_cons (pe_callB cr_len (by rfl) m.n_len (by decide +kernel) (pa_cons (pv 4) pa_nil)) pa_nil))) (fun _ _ => rfl)) (pa_cons (pe_ix ix_list (pv 4) pe_int (fun _ _ => rfl)) (pa_cons (pe_ix ix_list (pv 4) (pe_un un_neg pe_int) (fun _ _ => rfl)) pa_nil)))) (pg_call G_law_dip hg (hr.mono (by decide)) (by rfl) m.g_law_dip m.F_law_dip.kp m.b_law_dip .nil (fun _ => passG) (pa_cons (pv 0) (pa_cons pe_int pa_nil))) (fun _ _ => rfl)) (pg_name (i := 5) sc_law_called.nd rfl (.inl rfl)))
      (pss_cons (ps_if (PW.pt (pw_and (pt_cmpR op_eq (pv 7) pe_int (nomark _)) (pw_and1 (pt_cmpR op_lt (pe_callB (show CallR _ _ (rLenO d.c_Run (sp_Run___len__ K d)) from cr_lenO G_Run___len__ (hr.mono (by decide)) m.b_Run___len__ m.L_Run___len__.1 m.L_Run___len__.2) (by rfl) m.n_len (by decide +kernel) (pa_cons (pv 2) pa_nil)) pe_int (nomark _)))))
      (pss_one (ps_ret (pe_cmpR op_eq (pe_meth (pv 1) m.C_Desk m.M_Desk_execute G_Desk_execute (hr.mono (by decide)) m.b_Desk_execute .nil pass0 (pa_cons (pe_op op_add_str pe_str (pe_callTy cr_strI (by rfl) m.n_str (by decide +kernel) (pa_cons (pv 5) pa_nil))) pa_nil)) (pe_callTy cr_strI (by rfl) m.n_str (by decide +kernel) (pa_cons (pe_meth (pv 2) m.C_Run m.M_Run_finish G_Run_finish (hr.mono (by decide)) m.b_Run_finish .nil pass0 (pa_cons (pv 5) pa_nil)) pa_nil)) (nomark _))))
      pss_nil)
      (pss_cons (ps_par (i := 8) (j := 9) (by rfl) sc_law_called.nd rfl rfl (by decide) rfl rfl (pa_cons (pe_meth (pv 1) m.C_Desk m.M_Desk_execute G_Desk_execute (hr.mono (by decide)) m.b_Desk_execute .nil pass0 (pa_cons (pe_op op_add_str pe_str (pe_callTy cr_strI (by rfl) m.n_str (by decide +kernel) (pa_cons (pv 5) pa_nil))) pa_nil)) (pa_cons (pe_meth (pv 2) m.C_Run m.M_Run_step G_Run_step (hr.mono (by decide)) m.b_Run_step .nil pass0 (pa_cons (pv 5) pa_nil)) pa_nil)) (by rfl))
      (pss_one (ps_ret (pe_cmpR op_eq (pv 8) (pe_ifExp (pt_cmpR op_isN (pv 9) pe_non (nomark _)) pe_str (pe_op op_add_str (pe_op op_add_str (pe_ix ix_tup (pv 9) pe_int (fun _ _ => rfl)) pe_str) (pe_callTy cr_strI (by rfl) m.n_str (by decide +kernel) (pa_cons (pe_ix ix_tup (pv 9) pe_int (fun _ _ => rfl)) pa_nil)))) (nomark _)))))))))))), ?_⟩
    obtain ⟨hv, wf0, hbd⟩ := T.both
    have wf := wf0.toLn
    have hnl := Gs.names_len wf
    walk_at "v2"
    refine T.names fun H1 p T => ?_
    have hxs : ∀ i x, ((Gs.init n).run sch).names[i]? = some x → (i < n ∧ (x = V.non ∧ ((Gs.init n).run sch).fin[i]? ≠ some true ∨ x ≠ V.non ∧ ((Gs.init n).run sch).fin[i]? = some true)) := fun i x hx => by
      have hi : i < n := by rw [← hnl]; exact (List.getElem?_eq_some_iff.mp hx).1
      rw [Gs.names_at wf hi] at hx
      refine ⟨hi, ?_⟩
      by_cases c : ((Gs.init n).run sch).fin[i]? = some true
      · rw [if_pos c] at hx
        exact .inr ⟨by (cases hx; intro z; exact V.noConfusion z), c⟩
      · rw [if_neg c] at hx
        exact .inl ⟨by (cases hx; rfl), c⟩
    refine ⟨p, rfl, ⟨_, T.led.lstAt (.head _)⟩, ?_⟩
    refine comp_enum (xs := ((Gs.init n).run sch).names) (fun j z acc H' => acc = nv (okN ((Gs.init n).run sch) j) ∧ Two d B H' R n sch mks R' n sch mks ((z, .lst acc) :: (p, .lst ((Gs.init n).run sch).names) :: deskO d D (.ref R.r) :: (u, .lst [.int x, .int y, .int z0]) :: (pa, .lst (nv ws)) :: l)) (fun z hz => ⟨rfl, T.newAt hz⟩) (fun j z acc H' h => h.2.led.lstAt (.tail _ (.head _))) ?_ ?_
    rotate_left
    · rintro j za acc H2 v N hx ⟨rfl, T⟩ hN
      obtain ⟨hj, hcase⟩ := hxs j v hx
      have hlen : (nv (okN ((Gs.init n).run sch) j)).length ≤ 100 := by
        rw [nv_len]
        have := List.length_filter_le (fun p => decide (((Gs.init n).run sch).fin[p]? ≠ some true)) (List.range j)
        rw [List.length_range] at this
        unfold okN
        omega
      refine T.new fun t H3 T => ?_
      unfold TurnK
      walk_at "v1"
      refine UnpK.of (T.led.tupAt (.head _)) rfl ?_
      have T2 := T.sub (List.sublist_cons_self _ _)
      clear T
      walk_at "v1"
      have e1 : okN ((Gs.init n).run sch) (j + 1) = okN ((Gs.init n).run sch) j ++ [j].filter fun p => decide (((Gs.init n).run sch).fin[p]? ≠ some true) := by
        unfold okN
        rw [List.range_succ, List.filter_append]
      rcases hcase with ⟨rfl, hc1⟩ | ⟨hv1, hc1⟩
      · walk_at "v1"
        try rw [if_pos rfl]
        refine T2.appK (Nat.lt_of_le_of_lt hlen (by decide)) fun H4 T => hN _ _ ⟨?_, T⟩
        rw [e1, List.filter_cons_of_pos (by rw [decide_eq_true_iff]; exact hc1), List.filter_nil, nv_app]
      · rw [if_neg hv1]
        refine hN _ _ ⟨?_, T2⟩
        rw [e1, List.filter_cons_of_neg (by rw [decide_eq_true_iff]; exact fun z => z hc1), List.filter_nil, List.append_nil]
    rintro za acc H2 ⟨rfl, T⟩
    rw [hnl] at T
    have hable : ∀ w ∈ okN ((Gs.init n).run sch) n, w < n ∧ ((Gs.init n).run sch).Ok w := fun w hw => by
      obtain ⟨hr, hf⟩ := List.mem_filter.mp hw
      have hwn := List.mem_range.mp hr
      have hf := of_decide_eq_true hf
      refine ⟨hwn, ?_⟩
      show ((Gs.init n).run sch).fin[w]? = some false
      have hl : w < ((Gs.init n).run sch).fin.length := by rw [wf.lf]; exact hwn
      rw [List.getElem?_eq_getElem hl] at hf ⊢
      cases hq : ((Gs.init n).run sch).fin[w] with
      | true => rw [hq] at hf; exact absurd rfl hf
      | false => rfl
    have hal : (okN ((Gs.init n).run sch) n).length ≤ 40 := by
      have := List.length_filter_le (fun p => decide (((Gs.init n).run sch).fin[p]? ≠ some true)) (List.range n)
      rw [List.length_range] at this
      unfold okN
      omega
    generalize okN ((Gs.init n).run sch) n = able at *
    have T := T.sub ((List.sublist_cons_self _ _).cons_cons _)
    have T := T.perm (List.perm_middle (l₁ := [_, _]))
    walk_at "v2"
    refine T.dip hxyz (by omega) (by omega) (by omega) fun H3 way x1 y1 z1 T hxyz a1 b1 => ?_
    obtain ⟨way, rfl⟩ : ∃ w : Nat, way = (w : Int) := ⟨way.toNat, by omega⟩
    walk_at "v2"
    have hgo : ∀ (H9 : Hp) (ws2 : List Nat) (l9 : List (Addr × HO)), ws2 = ws → True := fun _ _ _ _ => trivial
    by_cases hw0 : way = 0
    · rw [if_pos (by omega)]
      refine T.new fun e0 H4 T => ?_
      refine ne_nv0 (T.led.lstAt (xs := nv ws) (by walk_at "mem")) (T.led.lstAt (.head _)) ?_
      refine ⟨_, rfl, ?_⟩
      have T := T.sub (List.sublist_cons_self _ _)
      cases hws : ws with
      | cons w0 wr =>
        rw [← hws]
        rw [if_pos (by rw [hws]; rfl)]
        obtain ⟨mks0, k, hmks⟩ : ∃ m0 k, mks = m0 ++ [k] := by
          have hm0 : mks ≠ [] := by intro z; rw [z, hws] at hwl; cases hwl
          exact ⟨mks.dropLast, mks.getLast hm0, (List.dropLast_concat_getLast hm0).symm⟩
        subst hmks
        rw [List.length_append] at hwl hmk
        have hwl : ws.length = mks0.length + 1 := hwl
        have hmk : mks0.length + 1 ≤ b := hmk
        walk_at "v2"
        obtain ⟨wl, hwlast⟩ : ∃ v, (nv ws)[(nv ws).length - 1]? = some v := ⟨_, List.getElem?_eq_getElem (by rw [nv_len]; omega)⟩
        refine ⟨tyL (T.led.lstAt (xs := nv ws) (by walk_at "mem")), pa, nv ws, wl, rfl, rfl, T.led.at (by walk_at "mem"), hwlast, ?_⟩
        have T := T.put (p := pa) (o := .lst (nv ws.dropLast)) (by walk_at "put")
        have ed : (nv ws).dropLast = nv ws.dropLast := by unfold nv; rw [List.map_dropLast]
        rw [ed]
        walk_at "v2"
        refine T.und (fun v w => by walk_at "fs") h1 hn (by omega) (by omega) fun B5 H5 s5 T => ?_
        walk_at "v1"
        have T := (T.sub ((List.sublist_cons_self _ _).cons_cons _)).perm (.swap _ _ _)
        refine T.exUndo (by walk_at "fs") h1 hn (by omega) (by omega) fun B6 H6 s6 T => ?_
        refine x_eq.mpr ⟨rfl, ?_⟩
        rw [decide_eq_true rfl]
        exact q B6 H6 (sch.take k) mks0 ws.dropLast x1 y1 z1 (s5.trans s6) T ⟨hxyz.1, hxyz.2.1, hxyz.2.2.1, hxyz.2.2.2.1, by have := hxyz.2.2.2.2; omega⟩ (by rw [List.length_dropLast]; omega) (by omega) (by rw [List.length_take]; omega)
      | nil =>
        rw [← hws]
        rw [if_neg (by rw [hws]; intro z; cases z)]
        walk_at "v2"
        refine T.new fun e1 H4 T => ?_
        refine EqL0 (T.led.lstAt (xs := nv able) (by walk_at "mem")) (T.led.lstAt (.head _)) ?_
        refine ⟨_, rfl, ?_⟩
        have T := T.sub (List.sublist_cons_self _ _)
        by_cases hab : able = []
        · rw [hab, if_pos (by rfl)]
          have T := (T.sub ((List.sublist_cons_self _ _).cons_cons _)).perm (.swap _ _ _)
          exact q B H4 sch mks ws x1 y1 z1 (Same.refl _) T ⟨hxyz.1, hxyz.2.1, hxyz.2.2.1, hxyz.2.2.2.1, by have := hxyz.2.2.2.2; omega⟩ hwl (by omega) (by omega)
        · have hap : 0 < able.length := List.length_pos_iff.mpr hab
          rw [if_neg (by cases able with | nil => exact absurd rfl hab | cons _ _ => intro z; cases z)]
          walk_at "v2"
          have T := T.perm (List.perm_middle (l₁ := [_, _, _]))
          refine ⟨tyL (T.led.lstAt (xs := nv ws) (.head _)), ?_⟩
          refine T.appK (Nat.lt_of_le_of_lt (m := 2000) (by rw [nv_len]; omega) (by decide)) fun H5 T => ?_
          rw [← nv_app] at T
          have T := T.perm (.swap _ _ _)
          walk_at "v2"
          refine LenK.ofL (T.led.lstAt (xs := nv able) (by walk_at "mem")) ?_
          rw [nv_len]
          refine T.dip hxyz (by omega) (by omega) (by omega) fun H6 r1 x2 y2 z2 T hxyz a2 b2 => ?_
          obtain ⟨w1, hw1, ew1⟩ := nv_pick a2 b2
          walk_at "v1"
          refine IxLK.of (T.led.lstAt (xs := nv able) (by walk_at "mem")) ew1 ?_
          obtain ⟨w2, hw2, ew2⟩ := nv_pick (l := able) (r := 0) (by omega) (by omega)
          refine IxLK.of (T.led.lstAt (xs := nv able) (by walk_at "mem")) ew2 ?_
          obtain ⟨w3, hw3, ew3⟩ := atI_lastN hab
          refine IxLK.of (T.led.lstAt (xs := nv able) (by walk_at "mem")) ew3 ?_
          refine T.new fun dl H7 T => ?_
          have T := T.perm (.swap _ _ _)
          refine T.dip hxyz (by omega) (by omega) (by omega) fun H8 r2 x3 y3 z3 T hxyz a3 b3 => ?_
          obtain ⟨wv, hwv, ewv⟩ := pickV (l := [.int (w1 : Int), .int (w2 : Int), .int (w3 : Int)]) a3 (by simpa using b3)
          obtain ⟨who, rfl, hwho⟩ : ∃ who : Nat, wv = .int (who : Int) ∧ who ∈ able := by
            simp only [List.mem_cons, List.not_mem_nil, or_false] at hwv
            rcases hwv with z | z | z
            · exact ⟨w1, z, hw1⟩
            · exact ⟨w2, z, hw2⟩
            · exact ⟨w3, z, hw3⟩
          walk_at "v1"
          refine IxLK.of (T.led.lstAt (by walk_at "mem")) ewv ?_
          have T := T.sub ((List.sublist_cons_self _ _).cons_cons _)
          obtain ⟨hwn, hok⟩ := hable who hwho
          have hbits : (who : Int).natAbs.log2 < 1920 := Nat.lt_of_lt_of_le (PySem.Flt.log2_lt_of (k := 60) (by decide) (by rw [Int.natAbs_natCast]; omega)) (by decide)
          have T := (T.perm (List.perm_middle (l₁ := [_, _, _]))).sub ((((List.sublist_cons_self _ _).cons_cons _).cons_cons _).cons_cons _)
          have hwt : (Str.ofString (toString (who : Int))).length ≤ 15 := sI_len (by omega) (by omega)
          have hfin : ∀ (t : Str), t.length ≤ 10 → t.length + (Str.ofString (toString (who : Int))).length ≤ sizeLine := fun t ht => Nat.le_trans (m := 100) (by omega) (by decide)
          have rowf : Str.ofString "finish " ++ Str.ofString (toString (who : Int)) = rowS (Str.ofString "finish") (some who) := by
            show _ = Str.ofString "finish" ++ Str.ofString " " ++ nT who
            rw [show Str.ofString "finish" ++ Str.ofString " " = Str.ofString "finish " by decide +kernel]
            rfl
          have rows : Str.ofString "step " ++ Str.ofString (toString (who : Int)) = rowS (Str.ofString "step") (some who) := by
            show _ = Str.ofString "step" ++ Str.ofString " " ++ nT who
            rw [show Str.ofString "step" ++ Str.ofString " " = Str.ofString "step " by decide +kernel]
            rfl
          have hup : UrnB x3 y3 z3 (c + 10) := ⟨hxyz.1, hxyz.2.1, hxyz.2.2.1, hxyz.2.2.2.1, by have := hxyz.2.2.2.2; omega⟩
          walk_at "v2"
          by_cases hw1 : way = 1
          · rw [if_pos (by omega)]
            refine T.lenP ?_
            refine ⟨sch.length, rfl, by omega, ?_⟩
            by_cases h400 : sch.length < 400
            · rw [if_pos (by omega)]
              have hy := y_all hv
              have hpw : (((Gs.init n).run sch).at who).1 + (((Gs.init n).run sch).at who).2 ≤ sch.length := hbd _ (by
                unfold Gs.at
                rw [List.getD_eq_getElem?_getD, List.getElem?_eq_getElem (by rw [wf.lp]; exact hwn)]
                exact List.getElem_mem _)
              refine MtK.imp (fun h => ⟨hbits, hfin _ (by decide +kernel), by rw [rowf]; exact h⟩) (T.exFin (S := sch.length) (by walk_at "fs") (by omega) hok (by omega) (by omega) hy hpw fun B5 H9 j s5 hj T hf1 => ?_)
              refine T.fin (S := sch.length) (fun v w => by walk_at "fs") hok (by omega) (by omega) hy hpw fun B6 H10 j' s6 hj' T hf2 => ?_
              have hjj : j = j' := by
                rcases Nat.lt_trichotomy j j' with z | z | z
                · exact (fin_first T.both.1 hf1 z).elim
                · exact z
                · exact (fin_first T.swap.both.1 hf2 z).elim
              subst hjj
              obtain ⟨hv6, wf6, hbd6⟩ := T.both
              have hp6 : ((Gs.init n).run (sch ++ List.replicate j who)).at who ∈ ((Gs.init n).run (sch ++ List.replicate j who)).pos := by
                unfold Gs.at
                rw [List.getD_eq_getElem?_getD, List.getElem?_eq_getElem (by rw [wf6.toLn.lp]; exact hwn)]
                exact List.getElem_mem _
              have hl6 : (sch ++ List.replicate j who).length = sch.length + j := by rw [List.length_append, List.length_replicate]
              have n0 := nmC_nn (((Gs.init n).run (sch ++ List.replicate j who)).at who)
              have n1 := nmC_lt (hbd6 _ hp6) (by omega)
              refine x_strI.mpr ⟨Nat.lt_of_lt_of_le (PySem.Flt.log2_lt_of (k := 60) (by decide) (by omega)) (by decide), ?_⟩
              refine ⟨rfl, ?_⟩
              rw [decide_eq_true rfl]
              exact q B6 H10 _ _ (ws ++ [way]) x3 y3 z3 (s5.trans s6) T hup (by rw [List.length_append, List.length_append]; show _ + 1 = _ + 1; omega) (by rw [List.length_append]; show _ + 1 ≤ _; omega) (by omega)
            · rw [if_neg (by omega)]
              walk_at "v2"
              refine MtK.imp (fun h => ⟨hbits, hfin _ (by decide +kernel), by rw [rows]; exact h⟩) (T.exStep (by walk_at "fs") (by omega) hok (by omega) (by omega) fun B5 H9 s5 T => ?_)
              refine T.step (fun v w => by walk_at "fs") hok (by omega) (by omega) fun B6 H10 v s6 T hrv => ?_
              have hfinish : Q (.bl true) H10 := q B6 H10 _ _ (ws ++ [way]) x3 y3 z3 (s5.trans s6) T hup (by rw [List.length_append, List.length_append]; show _ + 1 = _ + 1; omega) (by rw [List.length_append]; show _ + 1 ≤ _; omega) (by rw [List.length_append]; show _ + 1 ≤ _; omega)
              cases hr : resT (((Gs.init n).run sch).res who) with
              | none =>
                rw [hr] at hrv
                rw [show v = .non from hrv, if_pos rfl]
                exact ⟨rfl, by rw [show V.str (stT none) = V.str (Str.ofString "-") from rfl, decide_eq_true rfl]; exact hfinish⟩
              | some e =>
                obtain ⟨st, i⟩ := e
                rw [hr] at hrv
                obtain ⟨t, rfl, ht⟩ := hrv
                rw [if_neg (by intro z; cases z)]
                obtain ⟨hsl, i0, i1⟩ := res_small hbd hok wf (by omega) hr
                have hil := sI_len i0 i1
                have hsp : (Str.ofString " ").length = 1 := rfl
                refine x_ixT.mpr (IxTK.of (.inl (.inl (T.led.sm _ _ ht))) (i := 0) (v := .str st) (by rfl) ?_)
                refine ⟨st, rfl, Nat.le_trans (m := 100) (by omega) (by decide), ?_⟩
                refine x_ixT.mpr (IxTK.of (.inl (.inl (T.led.sm _ _ ht))) (i := 1) (v := .int i) (by rfl) ?_)
                refine x_strI.mpr ⟨Nat.lt_of_lt_of_le (PySem.Flt.log2_lt_of (k := 60) (by decide) (by omega)) (by decide), ?_⟩
                refine ⟨_, rfl, Nat.le_trans (m := 100) (by rw [Str.length_append]; omega) (by decide), rfl, ?_⟩
                rw [show V.str (stT (some (st, i))) = V.str (st ++ Str.ofString " " ++ Str.ofString (toString i)) from rfl, decide_eq_true rfl]
                exact hfinish
          · rw [if_neg (by omega)]
            walk_at "v2"
            refine MtK.imp (fun h => ⟨hbits, hfin _ (by decide +kernel), by rw [rows]; exact h⟩) (T.exStep (by walk_at "fs") (by omega) hok (by omega) (by omega) fun B5 H9 s5 T => ?_)
            refine T.step (fun v w => by walk_at "fs") hok (by omega) (by omega) fun B6 H10 v s6 T hrv => ?_
            have hfinish : Q (.bl true) H10 := q B6 H10 _ _ (ws ++ [way]) x3 y3 z3 (s5.trans s6) T hup (by rw [List.length_append, List.length_append]; show _ + 1 = _ + 1; omega) (by rw [List.length_append]; show _ + 1 ≤ _; omega) (by rw [List.length_append]; show _ + 1 ≤ _; omega)
            cases hr : resT (((Gs.init n).run sch).res who) with
            | none =>
              rw [hr] at hrv
              rw [show v = .non from hrv, if_pos rfl]
              exact ⟨rfl, by rw [show V.str (stT none) = V.str (Str.ofString "-") from rfl, decide_eq_true rfl]; exact hfinish⟩
            | some e =>
              obtain ⟨st, i⟩ := e
              rw [hr] at hrv
              obtain ⟨t, rfl, ht⟩ := hrv
              rw [if_neg (by intro z; cases z)]
              obtain ⟨hsl, i0, i1⟩ := res_small hbd hok wf (by omega) hr
              have hil := sI_len i0 i1
              have hsp : (Str.ofString " ").length = 1 := rfl
              refine x_ixT.mpr (IxTK.of (.inl (.inl (T.led.sm _ _ ht))) (i := 0) (v := .str st) (by rfl) ?_)
              refine ⟨st, rfl, Nat.le_trans (m := 100) (by omega) (by decide), ?_⟩
              refine x_ixT.mpr (IxTK.of (.inl (.inl (T.led.sm _ _ ht))) (i := 1) (v := .int i) (by rfl) ?_)
              refine x_strI.mpr ⟨Nat.lt_of_lt_of_le (PySem.Flt.log2_lt_of (k := 60) (by decide) (by omega)) (by decide), ?_⟩
              refine ⟨_, rfl, Nat.le_trans (m := 100) (by rw [Str.length_append]; omega) (by decide), rfl, ?_⟩
              rw [show V.str (stT (some (st, i))) = V.str (st ++ Str.ofString " " ++ Str.ofString (toString i)) from rfl, decide_eq_true rfl]
              exact hfinish
    · rw [if_neg (by omega)]
      walk_at "v2"
      refine T.new fun e1 H4 T => ?_
      refine EqL0 (T.led.lstAt (xs := nv able) (by walk_at "mem")) (T.led.lstAt (.head _)) ?_
      refine ⟨_, rfl, ?_⟩
      have T := T.sub (List.sublist_cons_self _ _)
      by_cases hab : able = []
      · rw [hab, if_pos (by rfl)]
        have T := (T.sub ((List.sublist_cons_self _ _).cons_cons _)).perm (.swap _ _ _)
        exact q B H4 sch mks ws x1 y1 z1 (Same.refl _) T ⟨hxyz.1, hxyz.2.1, hxyz.2.2.1, hxyz.2.2.2.1, by have := hxyz.2.2.2.2; omega⟩ hwl (by omega) (by omega)
      · have hap : 0 < able.length := List.length_pos_iff.mpr hab
        rw [if_neg (by cases able with | nil => exact absurd rfl hab | cons _ _ => intro z; cases z)]
        walk_at "v2"
        have T := T.perm (List.perm_middle (l₁ := [_, _, _]))
        refine ⟨tyL (T.led.lstAt (xs := nv ws) (.head _)), ?_⟩
        refine T.appK (Nat.lt_of_le_of_lt (m := 2000) (by rw [nv_len]; omega) (by decide)) fun H5 T => ?_
        rw [← nv_app] at T
        have T := T.perm (.swap _ _ _)
        walk_at "v2"
        refine LenK.ofL (T.led.lstAt (xs := nv able) (by walk_at "mem")) ?_
        rw [nv_len]
        refine T.dip hxyz (by omega) (by omega) (by omega) fun H6 r1 x2 y2 z2 T hxyz a2 b2 => ?_
        obtain ⟨w1, hw1, ew1⟩ := nv_pick a2 b2
        walk_at "v1"
        refine IxLK.of (T.led.lstAt (xs := nv able) (by walk_at "mem")) ew1 ?_
        obtain ⟨w2, hw2, ew2⟩ := nv_pick (l := able) (r := 0) (by omega) (by omega)
        refine IxLK.of (T.led.lstAt (xs := nv able) (by walk_at "mem")) ew2 ?_
        obtain ⟨w3, hw3, ew3⟩ := atI_lastN hab
        refine IxLK.of (T.led.lstAt (xs := nv able) (by walk_at "mem")) ew3 ?_
        refine T.new fun dl H7 T => ?_
        have T := T.perm (.swap _ _ _)
        refine T.dip hxyz (by omega) (by omega) (by omega) fun H8 r2 x3 y3 z3 T hxyz a3 b3 => ?_
        obtain ⟨wv, hwv, ewv⟩ := pickV (l := [.int (w1 : Int), .int (w2 : Int), .int (w3 : Int)]) a3 (by simpa using b3)
        obtain ⟨who, rfl, hwho⟩ : ∃ who : Nat, wv = .int (who : Int) ∧ who ∈ able := by
          simp only [List.mem_cons, List.not_mem_nil, or_false] at hwv
          rcases hwv with z | z | z
          · exact ⟨w1, z, hw1⟩
          · exact ⟨w2, z, hw2⟩
          · exact ⟨w3, z, hw3⟩
        walk_at "v1"
        refine IxLK.of (T.led.lstAt (by walk_at "mem")) ewv ?_
        have T := T.sub ((List.sublist_cons_self _ _).cons_cons _)
        obtain ⟨hwn, hok⟩ := hable who hwho
        have hbits : (who : Int).natAbs.log2 < 1920 := Nat.lt_of_lt_of_le (PySem.Flt.log2_lt_of (k := 60) (by decide) (by rw [Int.natAbs_natCast]; omega)) (by decide)
        have T := (T.perm (List.perm_middle (l₁ := [_, _, _]))).sub ((((List.sublist_cons_self _ _).cons_cons _).cons_cons _).cons_cons _)
        have hwt : (Str.ofString (toString (who : Int))).length ≤ 15 := sI_len (by omega) (by omega)
        have hfin : ∀ (t : Str), t.length ≤ 10 → t.length + (Str.ofString (toString (who : Int))).length ≤ sizeLine := fun t ht => Nat.le_trans (m := 100) (by omega) (by decide)
        have rowf : Str.ofString "finish " ++ Str.ofString (toString (who : Int)) = rowS (Str.ofString "finish") (some who) := by
          show _ = Str.ofString "finish" ++ Str.ofString " " ++ nT who
          rw [show Str.ofString "finish" ++ Str.ofString " " = Str.ofString "finish " by decide +kernel]
          rfl
        have rows : Str.ofString "step " ++ Str.ofString (toString (who : Int)) = rowS (Str.ofString "step") (some who) := by
          show _ = Str.ofString "step" ++ Str.ofString " " ++ nT who
          rw [show Str.ofString "step" ++ Str.ofString " " = Str.ofString "step " by decide +kernel]
          rfl
        have hup : UrnB x3 y3 z3 (c + 10) := ⟨hxyz.1, hxyz.2.1, hxyz.2.2.1, hxyz.2.2.2.1, by have := hxyz.2.2.2.2; omega⟩
        walk_at "v2"
        by_cases hw1 : way = 1
        · rw [if_pos (by omega)]
          refine T.lenP ?_
          refine ⟨sch.length, rfl, by omega, ?_⟩
          by_cases h400 : sch.length < 400
          · rw [if_pos (by omega)]
            have hy := y_all hv
            have hpw : (((Gs.init n).run sch).at who).1 + (((Gs.init n).run sch).at who).2 ≤ sch.length := hbd _ (by
              unfold Gs.at
              rw [List.getD_eq_getElem?_getD, List.getElem?_eq_getElem (by rw [wf.lp]; exact hwn)]
              exact List.getElem_mem _)
            refine MtK.imp (fun h => ⟨hbits, hfin _ (by decide +kernel), by rw [rowf]; exact h⟩) (T.exFin (S := sch.length) (by walk_at "fs") (by omega) hok (by omega) (by omega) hy hpw fun B5 H9 j s5 hj T hf1 => ?_)
            refine T.fin (S := sch.length) (fun v w => by walk_at "fs") hok (by omega) (by omega) hy hpw fun B6 H10 j' s6 hj' T hf2 => ?_
            have hjj : j = j' := by
              rcases Nat.lt_trichotomy j j' with z | z | z
              · exact (fin_first T.both.1 hf1 z).elim
              · exact z
              · exact (fin_first T.swap.both.1 hf2 z).elim
            subst hjj
            obtain ⟨hv6, wf6, hbd6⟩ := T.both
            have hp6 : ((Gs.init n).run (sch ++ List.replicate j who)).at who ∈ ((Gs.init n).run (sch ++ List.replicate j who)).pos := by
              unfold Gs.at
              rw [List.getD_eq_getElem?_getD, List.getElem?_eq_getElem (by rw [wf6.toLn.lp]; exact hwn)]
              exact List.getElem_mem _
            have hl6 : (sch ++ List.replicate j who).length = sch.length + j := by rw [List.length_append, List.length_replicate]
            have n0 := nmC_nn (((Gs.init n).run (sch ++ List.replicate j who)).at who)
            have n1 := nmC_lt (hbd6 _ hp6) (by omega)
            refine x_strI.mpr ⟨Nat.lt_of_lt_of_le (PySem.Flt.log2_lt_of (k := 60) (by decide) (by omega)) (by decide), ?_⟩
            refine ⟨rfl, ?_⟩
            rw [decide_eq_true rfl]
            exact q B6 H10 _ _ (ws ++ [way]) x3 y3 z3 (s5.trans s6) T hup (by rw [List.length_append, List.length_append]; show _ + 1 = _ + 1; omega) (by rw [List.length_append]; show _ + 1 ≤ _; omega) (by omega)
          · rw [if_neg (by omega)]
            walk_at "v2"
            refine MtK.imp (fun h => ⟨hbits, hfin _ (by decide +kernel), by rw [rows]; exact h⟩) (T.exStep (by walk_at "fs") (by omega) hok (by omega) (by omega) fun B5 H9 s5 T => ?_)
            refine T.step (fun v w => by walk_at "fs") hok (by omega) (by omega) fun B6 H10 v s6 T hrv => ?_
            have hfinish : Q (.bl true) H10 := q B6 H10 _ _ (ws ++ [way]) x3 y3 z3 (s5.trans s6) T hup (by rw [List.length_append, List.length_append]; show _ + 1 = _ + 1; omega) (by rw [List.length_append]; show _ + 1 ≤ _; omega) (by rw [List.length_append]; show _ + 1 ≤ _; omega)
            cases hr : resT (((Gs.init n).run sch).res who) with
            | none =>
              rw [hr] at hrv
              rw [show v = .non from hrv, if_pos rfl]
              exact ⟨rfl, by rw [show V.str (stT none) = V.str (Str.ofString "-") from rfl, decide_eq_true rfl]; exact hfinish⟩
            | some e =>
              obtain ⟨st, i⟩ := e
              rw [hr] at hrv
              obtain ⟨t, rfl, ht⟩ := hrv
              rw [if_neg (by intro z; cases z)]
              obtain ⟨hsl, i0, i1⟩ := res_small hbd hok wf (by omega) hr
              have hil := sI_len i0 i1
              have hsp : (Str.ofString " ").length = 1 := rfl
              refine x_ixT.mpr (IxTK.of (.inl (.inl (T.led.sm _ _ ht))) (i := 0) (v := .str st) (by rfl) ?_)
              refine ⟨st, rfl, Nat.le_trans (m := 100) (by omega) (by decide), ?_⟩
              refine x_ixT.mpr (IxTK.of (.inl (.inl (T.led.sm _ _ ht))) (i := 1) (v := .int i) (by rfl) ?_)
              refine x_strI.mpr ⟨Nat.lt_of_lt_of_le (PySem.Flt.log2_lt_of (k := 60) (by decide) (by omega)) (by decide), ?_⟩
              refine ⟨_, rfl, Nat.le_trans (m := 100) (by rw [Str.length_append]; omega) (by decide), rfl, ?_⟩
              rw [show V.str (stT (some (st, i))) = V.str (st ++ Str.ofString " " ++ Str.ofString (toString i)) from rfl, decide_eq_true rfl]
              exact hfinish
        · rw [if_neg (by omega)]
          walk_at "v2"
          refine MtK.imp (fun h => ⟨hbits, hfin _ (by decide +kernel), by rw [rows]; exact h⟩) (T.exStep (by walk_at "fs") (by omega) hok (by omega) (by omega) fun B5 H9 s5 T => ?_)
          refine T.step (fun v w => by walk_at "fs") hok (by omega) (by omega) fun B6 H10 v s6 T hrv => ?_
          have hfinish : Q (.bl true) H10 := q B6 H10 _ _ (ws ++ [way]) x3 y3 z3 (s5.trans s6) T hup (by rw [List.length_append, List.length_append]; show _ + 1 = _ + 1; omega) (by rw [List.length_append]; show _ + 1 ≤ _; omega) (by rw [List.length_append]; show _ + 1 ≤ _; omega)
          cases hr : resT (((Gs.init n).run sch).res who) with
          | none =>
            rw [hr] at hrv
            rw [show v = .non from hrv, if_pos rfl]
            exact ⟨rfl, by rw [show V.str (stT none) = V.str (Str.ofString "-") from rfl, decide_eq_true rfl]; exact hfinish⟩
          | some e =>
            obtain ⟨st, i⟩ := e
            rw [hr] at hrv
            obtain ⟨t, rfl, ht⟩ := hrv
            rw [if_neg (by intro z; cases z)]
            obtain ⟨hsl, i0, i1⟩ := res_small hbd hok wf (by omega) hr
            have hil := sI_len i0 i1
            have hsp : (Str.ofString " ").length = 1 := rfl
            refine x_ixT.mpr (IxTK.of (.inl (.inl (T.led.sm _ _ ht))) (i := 0) (v := .str st) (by rfl) ?_)
            refine ⟨st, rfl, Nat.le_trans (m := 100) (by omega) (by decide), ?_⟩
            refine x_ixT.mpr (IxTK.of (.inl (.inl (T.led.sm _ _ ht))) (i := 1) (v := .int i) (by rfl) ?_)
            refine x_strI.mpr ⟨Nat.lt_of_lt_of_le (PySem.Flt.log2_lt_of (k := 60) (by decide) (by omega)) (by decide), ?_⟩
            refine ⟨_, rfl, Nat.le_trans (m := 100) (by rw [Str.length_append]; omega) (by decide), rfl, ?_⟩
            rw [show V.str (stT (some (st, i))) = V.str (st ++ Str.ofString " " ++ Str.ofString (toString i)) from rfl, decide_eq_true rfl]
            exact hfinish
/-! cut law -/
theorem ne_dat {K : PySem.W.Frag} {H : Hp} {a b : V} {x : PyData} {k : Nat} {Q : VK} (h : Dp K H a x) (h2 : Dp K H b x) (g : Eqd k x) (hk : k ≤ 60) (q : Q (.bl false) H) : rNeD K a b H Q := by
  refine NeD.of h h2 (g.sh (by omega)) (g.sh (by omega)) ?_
  rw [SeqAt.eqv_refl _ g.c]
  exact q
theorem res0 : resT (((Gs.init 3).run []).res 1) = none := rfl
theorem res1 : resT (((Gs.init 3).run [1]).res 1) = none := rfl
theorem names2 : namesT ((Gs.init 3).run [1, 1]) = Str.ofString "- - -" := by
  show Txt.join " " (List.map nmS [V.non, V.non, V.non]) = _
  decide +kernel
theorem text2 : runT 3 [1, 1] = Str.ofString "3 1,1" := by decide +kernel
def sp_law (K : PySem.W.Frag) : Sp := fun vs H Q _ => ∃ (a : Addr) (ns : List Int), vs = [.ref a] ∧ SqL K H a (ns.map V.int) ∧ ns.length ≤ 63 ∧ ∀ H', Q (.bl true) H'
theorem ok_law (m : Mo w K mg d) (sm : SM bs) (G_Run___init__ : FnOk P w K mg bs CX0 9 d.a_Run___init__ d.fd_Run___init__ ["self", "count"] (sp_Run___init__ K d)) (G_Desk___init__ : FnOk P w K mg bs CX0 1 d.a_Desk___init__ d.fd_Desk___init__ ["self"] (sp_Desk___init__ K d)) (G_Desk_execute : FnOk P w K mg bs CX0 12 d.a_Desk_execute d.fd_Desk_execute ["self", "row"] (sp_Desk_execute K d)) (G_law_urn : Fg P w K mg bs CX0 1 d.a_law_urn d.fd_law_urn ["script", "k"] (sp_law_urn K)) (G_law_dip : Fg P w K mg bs CX0 1 d.a_law_dip d.fd_law_dip ["urn", "size"] (sp_law_dip K)) (G_law_equal : Fg P w K mg bs CX0 13 d.a_law_equal d.fd_law_equal ["desk", "held"] (sp_law_equal K d)) (G_law_called : Fg P w K mg bs CX0 13 d.a_law_called d.fd_law_called ["urn", "desk", "held", "past"] (sp_law_called K d)) : Fg P w K mg bs CX0 14 d.a_law d.fd_law ["script"] (sp_law K) := by
  refine ok (n := 13) m.F_law sc_law (fun vs H Q E h => ?_) (fun cdv A fr s H vs Q E hg hr h => ?_)
  · obtain ⟨a, ns, rfl, hS, hl, fin⟩ := h
    rfl
  · obtain ⟨a, ns, rfl, hS, hl, fin⟩ := h
    refine ⟨_, (pss_cons (ps_for PassesOwn.never rfl (pi_range1 (by rfl) m.n_range (pa_cons (pe_callB (cr_max2 rfl) (by rfl) m.n_max (by decide +kernel) (pa_cons pe_int (pa_cons (pe_callB (cr_min2 rfl) (by rfl) m.n_min (by decide +kernel) (pa_cons pe_int (pa_cons (pe_op op_add (pe_callB cr_len (by rfl) m.n_len (by decide +kernel) (pa_cons (pv 0) pa_nil)) pe_int) pa_nil))) pa_nil))) pa_nil)) (pg_name (i := 1) sc_law.nd rfl (.inl rfl))
      (pss_cons (ps_asg (pg_call G_law_urn hg (hr.mono (by decide)) (by rfl) m.g_law_urn m.F_law_urn.kp m.b_law_urn .nil (fun _ => passG) (pa_cons (pv 0) (pa_cons (pv 1) pa_nil))) (pg_name (i := 2) sc_law.nd rfl (.inl rfl)))
      (pss_cons (ps_asg (pe_tup (pa_cons (pe_make0 m.K_Desk G_Desk___init__ (hr.mono (by decide)) (by rfl) m.g_Desk m.b_Desk___init__ .nil pass0) (pa_cons (pe_make0 m.K_Desk G_Desk___init__ (hr.mono (by decide)) (by rfl) m.g_Desk m.b_Desk___init__ .nil pass0) pa_nil))) (show PG _ _ (gTup K 2 _) from pg_tup (by rfl) (pgs_cons (pg_name (i := 4) sc_law.nd rfl (.inl rfl)) (pgs_cons (pg_name (i := 5) sc_law.nd rfl (.inr rfl)) pgs_nil))))
      (pss_cons (ps_if (pt_cmpR (op_neD hr.units) (pe_lc (own := [("row", 10)]) (by rfl) sc_law.nd (pi_list (pe_lst (pa_cons pe_str (pa_cons pe_str (pa_cons pe_str pa_nil))))) (blkOk_by (own := [("row", 10)]) (N := ["script", "k", "urn", "turn", "desk", "mate", "size", "again", "held", "past", "row"]) (sc := defScope s_law) (by decide +kernel)) (fun _ _ _ _ _ => by exact (pg_name (i := 10) sc_law.nd rfl (.inl rfl))) (fun _ _ _ _ _ => by exact pts_nil) (fun _ _ _ _ _ => by exact (pe_meth (pv 5) m.C_Desk m.M_Desk_execute G_Desk_execute (hr.mono (by decide)) m.b_Desk_execute .nil pass0 (pa_cons (pv 10) pa_nil)))) (pe_lst (pa_cons pe_str (pa_cons pe_str (pa_cons pe_str pa_nil)))) (nomark _))
      (pss_one (ps_ret pe_bl))
      pss_nil)
      (pss_cons (ps_for PassesOwn.never rfl (pi_range1 (by rfl) m.n_range (pa_cons pe_int pa_nil)) (pg_name (i := 3) sc_law.nd rfl (.inl rfl))
      (pss_cons (ps_asg (pe_ix ix_list (pe_lst (pa_cons (pe_op op_add pe_int (pg_call G_law_dip hg (hr.mono (by decide)) (by rfl) m.g_law_dip m.F_law_dip.kp m.b_law_dip .nil (fun _ => passG) (pa_cons (pv 2) (pa_cons pe_int pa_nil)))) (pa_cons (pe_op op_add pe_int (pg_call G_law_dip hg (hr.mono (by decide)) (by rfl) m.g_law_dip m.F_law_dip.kp m.b_law_dip .nil (fun _ => passG) (pa_cons (pv 2) (pa_cons pe_int pa_nil)))) (pa_cons (pe_op op_add pe_int (pg_call G_law_dip hg (hr.mono (by decide)) (by rfl) m.g_law_dip m.F_law_dip.kp m.b_law_dip .nil (fun _ => passG) (pa_cons (pv 2) (pa_cons pe_int pa_nil)))) pa_nil)))) (pg_call G_law_dip hg (hr.mono (by decide)) (by rfl) m.g_law_dip m.F_law_dip.kp m.b_law_dip .nil (fun _ => passG) (pa_cons (pv 2) (pa_cons pe_int pa_nil))) (fun _ _ => rfl)) (pg_name (i := 6) sc_law.nd rfl (.inl rfl)))
      (pss_cons (ps_par (i := 8) (j := 9) (by rfl) sc_law.nd rfl rfl (by decide) rfl rfl (pa_cons (pe_make m.K_Run G_Run___init__ (hr.mono (by decide)) (by rfl) m.g_Run m.b_Run___init__ .nil pass0 (pa_cons (pv 6) pa_nil)) (pa_cons (pe_lst pa_nil) pa_nil)) (by rfl))
      (pss_cons (ps_if (pt_cmpR op_ne (pe_meth (pv 4) m.C_Desk m.M_Desk_execute G_Desk_execute (hr.mono (by decide)) m.b_Desk_execute .nil pass0 (pa_cons (pe_op op_add_str pe_str (pe_callTy cr_strI (by rfl) m.n_str (by decide +kernel) (pa_cons (pv 6) pa_nil))) pa_nil)) pe_str (nomark _))
      (pss_one (ps_ret pe_bl))
      pss_nil)
      (pss_cons (ps_for PassesOwn.never rfl (pi_range1 (by rfl) m.n_range (pa_cons (pg_call G_law_dip hg (hr.mono (by decide)) (by rfl) m.g_law_dip m.F_law_dip.kp m.b_law_dip .nil (fun _ => passG) (pa_cons (pv 2) (pa_cons pe_int pa_nil))) pa_nil)) (pg_name (i := 7) sc_law.nd rfl (.inl rfl))
      (pss_cons (ps_if (pt_not (pt_val (pg_call G_law_called hg (hr.mono (by decide)) (by rfl) m.g_law_called m.F_law_called.kp m.b_law_called .nil (fun _ => passG) (pa_cons (pv 2) (pa_cons (pv 4) (pa_cons (pv 8) (pa_cons (pv 9) pa_nil)))))))
      (pss_one (ps_ret pe_bl))
      pss_nil)
      (pss_one (ps_if (PW.pt (pw_and (pt_cmpR op_eq (pe_op op_mod (pv 7) pe_int) pe_int (nomark _)) (pw_and1 (pt_not (pt_val (pg_call G_law_equal hg (hr.mono (by decide)) (by rfl) m.g_law_equal m.F_law_equal.kp m.b_law_equal .nil (fun _ => passG) (pa_cons (pv 4) (pa_cons (pv 8) pa_nil))))))))
      (pss_one (ps_ret pe_bl))
      pss_nil))))
      (pss_one (ps_if (pt_not (pt_val (pg_call G_law_equal hg (hr.mono (by decide)) (by rfl) m.g_law_equal m.F_law_equal.kp m.b_law_equal .nil (fun _ => passG) (pa_cons (pv 4) (pa_cons (pv 8) pa_nil)))))
      (pss_one (ps_ret pe_bl))
      pss_nil)))))))
      (pss_one (ps_if (pt_cmpR (op_neD hr.units) (pe_lst (pa_cons (pe_meth (pv 5) m.C_Desk m.M_Desk_execute G_Desk_execute (hr.mono (by decide)) m.b_Desk_execute .nil pass0 (pa_cons pe_str pa_nil)) (pa_cons (pe_meth (pv 5) m.C_Desk m.M_Desk_execute G_Desk_execute (hr.mono (by decide)) m.b_Desk_execute .nil pass0 (pa_cons pe_str pa_nil)) pa_nil))) (pe_lst (pa_cons pe_str (pa_cons pe_str pa_nil))) (nomark _))
      (pss_one (ps_ret pe_bl))
      pss_nil)))))))
      (pss_one (ps_ret pe_bl))), ?_⟩
    walk_at "v2"
    refine LenK.ofL hS ?_
    walk_at "v1"
    refine ⟨by omega, by omega, ?_⟩
    refine loop_range (fun i σ H4 => ∃ y1 y2 y3 y4 y5 y6 y7 y8 y9 y10, σ = [some (.ref a), y1, y2, y3, y4, y5, y6, y7, y8, y9, y10] ∧ Same H H4) ⟨_, _, _, _, _, _, _, _, _, _, rfl, Same.refl H⟩ (fun i σ H4 N hi h hN => ?_) (fun σ H4 h => ?_)
    rotate_left
    · obtain ⟨y1, y2, y3, y4, y5, y6, y7, y8, y9, y10, rfl, sH4⟩ := h
      walk_at "vc"
      exact fin _
    obtain ⟨y1, y2, y3, y4, y5, y6, y7, y8, y9, y10, rfl, sH4⟩ := h
    walk_at "v1"
    walk_at "v2"
    refine ⟨a, ns, (i : Int), rfl, sH4.seq hS, by omega, by omega, fun u H5 U => ?_⟩
    walk_at "v2"
    obtain ⟨x0, y0, z0, L0, hu⟩ := U
    refine MkK.of L0 fun dr ddx H6 L => ?_
    refine ⟨H4, ⟨dr, ddx⟩, _, rfl, L, fun H7 L => ⟨rfl, ?_⟩⟩
    refine MkK.of L fun mr mdx H8 L => ?_
    refine ⟨H4, ⟨mr, mdx⟩, _, rfl, L, fun H9 L => ⟨rfl, ?_⟩⟩
    obtain ⟨D, hD⟩ : ∃ D : Dad, D = ⟨dr, ddx⟩ := ⟨_, rfl⟩
    obtain ⟨M, hM⟩ : ∃ D : Dad, D = ⟨mr, mdx⟩ := ⟨_, rfl⟩
    rw [← hD, ← hM] at L
    have hdr : dr = D.r := by rw [hD]
    have hmr : mr = M.r := by rw [hM]
    rw [hdr, hmr]
    clear hD hM hdr hmr L0
    refine NewK.of L fun tp H10 L => ?_
    refine UnpK.of (L.tupAt (.head _)) rfl ?_
    have L := L.sel (.skip .all)
    walk_at "v1"
    walk_at "v2"
    refine NewK.of L fun rl H11 L => ?_
    refine ⟨⟨_, L.lstAt (.head _)⟩, ?_⟩
    have rw3 : Str.ofString "run 3" = rowS (Str.ofString "run") (some 3) := by decide +kernel
    have st1 : Str.ofString "step 1" = rowS (Str.ofString "step") (some 1) := by decide +kernel
    refine comp_list (xs := [.str "run 3", .str "step 1", .str "step 1"]) (fun j z acc H' => (j = 0 ∧ acc = [] ∧ Led H4 H' ((z, .lst []) :: (rl, .lst [.str "run 3", .str "step 1", .str "step 1"]) :: deskO d M .non :: deskO d D .non :: (u, .lst [.int x0, .int y0, .int z0]) :: [])) ∨ (∃ B2 R2 mks, 1 ≤ j ∧ j ≤ 3 ∧ acc = [V.str "ok", V.str "-", V.str "-"].take j ∧ Same H4 B2 ∧ mks.length ≤ j ∧
      RunR d B2 H' R2 3 (List.replicate (j - 1) 1) mks (deskO d M (.ref R2.r) :: (z, .lst acc) :: (rl, .lst [.str "run 3", .str "step 1", .str "step 1"]) :: deskO d D .non :: (u, .lst [.int x0, .int y0, .int z0]) :: []))) (fun z hz => .inl ⟨rfl, rfl, L.new hz⟩) (fun j z acc H' h => ?_) ?_ ?_
    · rcases h with ⟨_, _, L⟩ | ⟨B2, R2, mks, _, _, _, _, _, RR⟩
      · exact L.lstAt (by walk_at "mem")
      · exact RR.led.lstAt (by walk_at "mem")
    rotate_left
    · rintro j z acc H' x N2 hx h hN2
      unfold TurnK
      walk_at "v1"
      rcases h with ⟨rfl, rfl, L⟩ | ⟨B2, R2, mks, hj1, hj3, rfl, s2, hmk, RR⟩
      · cases hx
        refine ⟨M.dx, [("_run", .non)], L.at (by walk_at "mem"), by walk_at "fs", M, _, rfl, .inl ⟨H4, _, .non, 3, rw3, by decide, by decide, L.sel (.cons (.tl (.tl .hd)) .all), fun B' H2 R s RR => ?_⟩⟩
        refine (RR.perm (.swap _ _ _)).appK (show 0 < sizeLine by decide) fun H3 RR => hN2 _ _ (.inr ⟨B', R, [], by decide, by decide, rfl, s, Nat.zero_le _, RR.perm (.swap _ _ _)⟩)
      · have hj : j < 3 := (List.getElem?_eq_some_iff.mp hx).1
        have hx : x = .str "step 1" := by
          have : j = 1 ∨ j = 2 := by omega
          rcases this with rfl | rfl <;> (cases hx; rfl)
        subst hx
        have hok : ((Gs.init 3).run (List.replicate (j - 1) 1)).Ok 1 := by
          have : j = 1 ∨ j = 2 := by omega
          rcases this with rfl | rfl <;> rfl
        have hst : resT (((Gs.init 3).run (List.replicate (j - 1) 1)).res 1) = none := by
          have : j = 1 ∨ j = 2 := by omega
          rcases this with rfl | rfl <;> rfl
        have LD := RR.led
        refine ⟨M.dx, [("_run", .ref R2.r)], LD.at (.head _), by walk_at "fs", M, _, rfl, .inr (.inl ⟨B2, R2, 3, _, mks, 1, _, st1, RR, by decide, hok, by omega, by rw [List.length_replicate]; omega, fun B' H2 s RR => ?_⟩)⟩
        rw [hst]
        have e1 : List.replicate (j - 1) 1 ++ [1] = List.replicate (j + 1 - 1) 1 := by
          rw [← List.replicate_succ', show j + 1 - 1 = j - 1 + 1 by omega]
        rw [e1] at RR
        refine (RR.perm (.swap _ _ _)).appK (Nat.lt_of_le_of_lt (m := 10) (by rw [List.length_take]; show min j 3 ≤ 10; omega) (by decide)) fun H3 RR => hN2 _ _ (.inr ⟨B', R2, _, by omega, by omega, ?_, s2.trans s, by rw [List.length_append]; show _ + 1 ≤ _; omega, RR.perm (.swap _ _ _)⟩)
        have : j = 1 ∨ j = 2 := by omega
        rcases this with rfl | rfl <;> rfl
    rintro z acc H' h
    rcases h with ⟨h0, _, _⟩ | ⟨B2, R2, mks2, _, _, rfl, s2, hmk2, RR⟩
    · cases h0
    refine RR.new fun ol H12 RR => ?_
    refine ne_dat (x := .list [.str "ok", .str "-", .str "-"]) (k := 2) (.lst (RR.led.lstAt (xs := [V.str "ok", V.str "-", V.str "-"]) (by walk_at "mem")) (.cons (.str _) (.cons (.str _) (.cons (.str _) .nil)))) (.lst (RR.led.lstAt (.head _)) (.cons (.str _) (.cons (.str _) (.cons (.str _) .nil)))) (Eqd.lst fun x hx => by
      simp only [List.mem_cons, List.not_mem_nil, or_false] at hx
      rcases hx with rfl | rfl | rfl
      · exact Eqd.str _ (by decide +kernel)
      · exact Eqd.str _ (by decide +kernel)
      · exact Eqd.str _ (by decide +kernel)) (by decide) ?_
    refine ⟨false, rfl, ?_⟩
    rw [if_neg (by decide)]
    have RR := RR.sub (l' := deskO d M (.ref R2.r) :: deskO d D .non :: (u, .lst [.int x0, .int y0, .int z0]) :: []) (.cons _ (.cons_cons _ (.cons _ (.cons _ (.refl _)))))
    obtain ⟨W2, xs2, cs2, rp2, F2, LM⟩ := RunR.view.mp RR
    obtain ⟨lm, hlm⟩ : ∃ lm, lm = deskO d M (.ref R2.r) :: runL d R2 W2 3 xs2 cs2 [1, 1] mks2 rp2 [] := ⟨_, rfl⟩
    have L : Led B2 H12 (deskO d D .non :: (u, .lst [.int x0, .int y0, .int z0]) :: lm) := by
      rw [hlm]
      exact LM.perm ((runL_out _).trans (List.perm_middle (l₁ := [_, _]) (a := deskO d M (.ref R2.r)) |>.symm))
    have U0 : Urn B2 H12 u (deskO d D .non :: lm) 0 := ⟨x0, y0, z0, L.perm (.swap _ _ _), hu⟩
    walk_at "v2"
    refine ⟨by decide, by decide, ?_⟩
    refine loop_range (fun t σ H' => ∃ y3 y6 y7 y8 y9 y10 B3 v, σ = [some (.ref a), some (.int (i : Int)), some (.ref u), y3, some (.ref D.r), some (.ref M.r), y6, y7, y8, y9, y10] ∧ Same B2 B3 ∧ Urn B3 H' u (deskO d D v :: lm) (500 * t)) ⟨_, _, _, _, _, _, B2, .non, rfl, Same.refl _, U0⟩ (fun t σ H13 N2 ht h hN2 => ?_) (fun σ H13 h => ?_)
    · obtain ⟨y3, y6, y7, y8, y9, y10, B3, v, rfl, s3, U⟩ := h
      walk_at "v1"
      walk_at "v2"
      refine dip_go U (by omega) (by omega) (by omega) fun H14 r1 U a1 b1 => ?_
      walk_at "v1"
      refine dip_go U (by omega) (by omega) (by omega) fun H15 r2 U a2 b2 => ?_
      walk_at "v1"
      refine dip_go U (by omega) (by omega) (by omega) fun H16 r3 U a3 b3 => ?_
      walk_at "v1"
      refine U.new fun sl H17 U => ?_
      refine dip_go U (by omega) (by omega) (by omega) fun H18 r4 U a4 b4 => ?_
      obtain ⟨wv, hwv, ewv⟩ := pickV (l := [.int (1 + r1), .int (1 + r2), .int (1 + r3)]) a4 (by simpa using b4)
      obtain ⟨size, rfl, hz1, hz40⟩ : ∃ size : Nat, wv = .int (size : Int) ∧ 1 ≤ size ∧ size ≤ 40 := by
        simp only [List.mem_cons, List.not_mem_nil, or_false] at hwv
        rcases hwv with z | z | z
        · exact ⟨(1 + r1).toNat, by rw [z, Int.toNat_of_nonneg (by omega)], by omega, by omega⟩
        · exact ⟨(1 + r2).toNat, by rw [z, Int.toNat_of_nonneg (by omega)], by omega, by omega⟩
        · exact ⟨(1 + r3).toNat, by rw [z, Int.toNat_of_nonneg (by omega)], by omega, by omega⟩
      walk_at "v1"
      refine IxLK.of (U.led.lstAt (.head _)) ewv ?_
      have U := U.sel (.skip .all)
      obtain ⟨x1, y1, z1, L, hu1⟩ := U
      walk_at "v2"
      refine MkK.of L fun hr hdx H19 L => ?_
      refine ⟨B3, hr, hdx, size, _, rfl, hz1, hz40, L, fun B9 H20 R' s9 hR RR => ⟨rfl, ?_⟩⟩
      subst hR
      refine RR.new fun pa H21 RR => ?_
      walk_at "v2"
      have hwt : (Str.ofString (toString (size : Int))).length ≤ 15 := sI_len (by omega) (by omega)
      have hbits : (size : Int).natAbs.log2 < 1920 := Nat.lt_of_lt_of_le (PySem.Flt.log2_lt_of (k := 60) (by decide) (by rw [Int.natAbs_natCast]; omega)) (by decide)
      have hlen : (Str.ofString "run ").length + (Str.ofString (toString (size : Int))).length ≤ sizeLine := Nat.le_trans (m := 100) (by have : (Str.ofString "run ").length = 4 := (by decide +kernel); omega) (by decide)
      have rowr : Str.ofString "run " ++ Str.ofString (toString (size : Int)) = rowS (Str.ofString "run") (some size) := by
        show _ = Str.ofString "run" ++ Str.ofString " " ++ nT size
        rw [show Str.ofString "run" ++ Str.ofString " " = Str.ofString "run " by decide +kernel]
        rfl
      obtain ⟨W', xs', cs', rp', F', L'⟩ := RunR.view.mp RR
      have LX := L'.perm ((runL_out _).trans (List.perm_middle (l₁ := [_, _]) (a := deskO d D v)))
      have LXd := LX.at (.head _)
      refine ⟨D.dx, [("_run", v)], LXd, by walk_at "fs", hbits, hlen, ?_⟩
      rw [rowr]
      refine ⟨D, _, rfl, .inl ⟨B9, _, v, size, rfl, hz1, hz40, LX, fun B10 H22 R s10 RR => ?_⟩⟩
      obtain ⟨W, xs, cs, rp, F, L3⟩ := RunR.view.mp RR
      have T : Two d B10 H22 R size [] [] R' size [] [] (deskO d D (.ref R.r) :: (u, .lst [.int x1, .int y1, .int z1]) :: (pa, .lst (nv [])) :: lm) := ⟨W, xs, cs, rp, W', xs', cs', rp', F, F'.mono s10, L3.perm (runL_sub ((List.Perm.cons _ (.swap _ _ _)).trans (runL_out (deskO d D (.ref R.r) :: (u, .lst [.int x1, .int y1, .int z1]) :: (pa, .lst (nv [])) :: lm)).symm))⟩
      refine ⟨rfl, ?_⟩
      rw [decide_eq_true rfl, if_neg (by decide)]
      walk_at "v2"
      have T := T.perm (.swap _ _ _)
      refine T.dip (c := 500 * t + 4) hu1 (by omega) (by omega) (by omega) fun H23 r5 x2 y2 z2 T hu2 a5 b5 => ?_
      have T := T.perm (.swap _ _ _)
      walk_at "v1"
      refine ⟨by omega, by omega, ?_⟩
      refine loop_range (fun g σ H' => ∃ y7 B4 sch mks ws x y z, σ = [some (.ref a), some (.int (i : Int)), some (.ref u), some (.int (t : Int)), some (.ref D.r), some (.ref M.r), some (.int (size : Int)), y7, some (.ref R'.r), some (.ref pa), y10] ∧ Same B10 B4 ∧ Two d B4 H' R size sch mks R' size sch mks (deskO d D (.ref R.r) :: (u, .lst [.int x, .int y, .int z]) :: (pa, .lst (nv ws)) :: lm) ∧ UrnB x y z (500 * t + 5 + 10 * g) ∧ ws.length = mks.length ∧ mks.length ≤ g ∧ sch.length ≤ 2020 + g) ⟨_, B10, [], [], [], x2, y2, z2, rfl, Same.refl _, T, hu2, rfl, Nat.zero_le _, Nat.zero_le _⟩ (fun g σ H24 N3 hg h hN3 => ?_) (fun σ H24 h => ?_)
      · obtain ⟨y7, B4, sch, mks, ws, x, y, z, rfl, s4, T, hu3, hwm, hmg, hsg⟩ := h
        walk_at "v1"
        walk_at "v2"
        refine ⟨B4, D, R, R', size, _, g, sch, mks, ws, u, pa, x, y, z, lm, rfl, T, hu3, by omega, hz1, hz40, hwm, hmg, hsg, by omega, fun B5 H25 sch2 mks2 ws2 x4 y4 z4 s5 T hu4 hwm2 hmg2 hsg2 => ?_⟩
        walk_at "v1"
        have go : ∀ B6 H26, Same B5 B6 → Two d B6 H26 R size sch2 mks2 R' size sch2 mks2 (deskO d D (.ref R.r) :: (u, .lst [.int x4, .int y4, .int z4]) :: (pa, .lst (nv ws2)) :: lm) → N3 [some (.ref a), some (.int (i : Int)), some (.ref u), some (.int (t : Int)), some (.ref D.r), some (.ref M.r), some (.int (size : Int)), some (.int (g : Int)), some (.ref R'.r), some (.ref pa), y10] H26 := fun B6 H26 s6 T => hN3 _ _ ⟨_, B6, sch2, mks2, ws2, x4, y4, z4, rfl, s4.trans (s5.trans s6), T, ⟨hu4.1, hu4.2.1, hu4.2.2.1, hu4.2.2.2.1, by have := hu4.2.2.2.2; omega⟩, hwm2, hmg2, hsg2⟩
        refine ⟨by decide, ?_⟩
        by_cases h5 : (g : Int) % 5 = 0
        · rw [if_pos h5]
          refine ⟨B5, D, R, R', size, sch2, mks2, _, rfl, T, hz1, hz40, by omega, fun B6 H26 s6 T => ?_⟩
          refine ⟨true, rfl, ?_⟩
          rw [if_neg (by decide)]
          exact go B6 H26 s6 T
        · rw [if_neg h5]
          exact go B5 H25 (Same.refl _) T
      · obtain ⟨y7, B4, sch, mks, ws, x, y, z, rfl, s4, T, hu3, hwm, hmg, hsg⟩ := h
        walk_at "v1"
        refine ⟨B4, D, R, R', size, sch, mks, _, rfl, T, hz1, hz40, by omega, fun B5 H25 s5 T => ?_⟩
        walk_at "v1"
        refine hN2 _ _ ⟨_, _, _, _, _, _, B5, .ref R.r, rfl, s3.trans (s9.trans (s10.trans (s4.trans s5))), x, y, z, T.led.sel (.cons (.tl .hd) (.cons .hd (.skip .all))), ?_⟩
        exact ⟨hu3.1, hu3.2.1, hu3.2.2.1, hu3.2.2.2.1, by have := hu3.2.2.2.2; omega⟩
    · obtain ⟨y3, y6, y7, y8, y9, y10, B3, v, rfl, s3, U⟩ := h
      obtain ⟨x1, y1, z1, L, hu1⟩ := U
      walk_at "v1"
      have L := L.sel (.skip (.skip .all))
      rw [hlm] at L
      have RM : RunR d B3 H13 R2 3 [1, 1] mks2 (deskO d M (.ref R2.r) :: []) := RunR.view.mpr ⟨W2, xs2, cs2, rp2, F2.mono s3, L.perm (runL_out [deskO d M (.ref R2.r)]).symm⟩
      have k1 : PyData.strOk (Str.ofString "3 1,1") = true := by decide +kernel
      have k2 : PyData.strOk (Str.ofString "- - -") = true := by decide +kernel
      have LD := RM.led
      refine ⟨M.dx, [("_run", .ref R2.r)], LD.at (.head _), by walk_at "fs", M, _, rfl, .inr (.inr (.inr (.inr ⟨B3, R2, 3, [1, 1], mks2, [], .inr (.inr rfl), RM, by decide, by decide, by decide, fun B4 H14 s4 RM => ?_⟩)))⟩
      rw [if_neg (by decide +kernel), if_neg (by decide +kernel), text2]
      have LD := RM.led
      refine ⟨M.dx, [("_run", .ref R2.r)], LD.at (.head _), by walk_at "fs", M, _, rfl, .inr (.inr (.inr (.inr ⟨B4, R2, 3, [1, 1], mks2, [], .inl rfl, RM, by decide, by decide, by decide, fun B5 H15 s5 RM => ?_⟩)))⟩
      rw [if_pos rfl, names2]
      refine RM.new fun p5 H16 RM => ?_
      refine RM.new fun p6 H17 RM => ?_
      refine ne_dat (x := .list [.str (Str.ofString "3 1,1"), .str (Str.ofString "- - -")]) (k := 2) (.lst (RM.led.lstAt (xs := [V.str (Str.ofString "3 1,1"), V.str (Str.ofString "- - -")]) (.tail _ (.head _))) (.cons (.str _) (.cons (.str _) .nil))) (.lst (RM.led.lstAt (.head _)) (.cons (.str _) (.cons (.str _) .nil))) (Eqd.lst fun x hx => by
        simp only [List.mem_cons, List.not_mem_nil, or_false] at hx
        rcases hx with rfl | rfl
        · exact Eqd.str _ k1
        · exact Eqd.str _ k2) (by decide) ?_
      refine ⟨false, rfl, ?_⟩
      rw [if_neg (by decide)]
      exact hN _ _ ⟨_, _, _, _, _, _, _, _, _, _, rfl, sH4.trans (s2.trans (s3.trans (s4.trans (s5.trans RM.led.sm))))⟩
theorem law_end {K : PySem.W.Frag} {H : Hp} {a : Addr} {ns : List Int} (hl : ns.length ≤ 63) (hb : ∀ z ∈ ns, Builtin.Int.intBits z ≤ 1048576) (hS : SqL K H a (ns.map V.int)) : sp_law K [.ref a] H (fun v _ => v = .bl true) fun _ _ _ => False := ⟨a, ns, rfl, hS, hl, fun _ => rfl⟩
end
theorem all_mk {q : Program} (hq : PyProof.Rows.importsNone q = true) {l : PySem.W.OpenLaw} {w : World} {K : PySem.W.Frag} {h : Heap} {mg : Str → Option Value} {fa : Addr} (X : K.In h) (G : h.Ns mainGlobals mg) (hfa : mg "law" = some (.ref fa))
    {f0 f1 f2 f3 f4 f5 f6 f7 f8 f9 f10 f11 f12 f13 f14 f15 f16 f17 f18 f19 f20 f21 f22 f23 f24 f25 f26 f27 f28 f29 f30 f31 f32 f33 f34 f35 f36 f37 f38 f39 f40 f41 f42 f43 f44 cC0 cC1 cC2 cC3 : Addr} {od0 an0 od1 an1 od2 an2 od3 an3 od4 an4 od5 an5 od6 an6 od7 an7 od8 an8 od9 an9 od10 an10 od11 an11 od12 an12 od13 an13 od14 an14 od15 an15 od16 an16 od17 an17 od18 an18 od19 an19 od20 an20 od21 an21 od22 an22 od23 an23 od24 an24 od25 an25 od26 an26 od27 an27 od28 an28 od29 an29 od30 an30 od31 an31 od32 an32 od33 an33 od34 an34 od35 an35 od36 an36 od37 an37 od38 an38 od39 an39 od40 an40 od41 an41 od42 an42 od43 an43 od44 an44 : Option Addr} {pp17 pp18 pp19 pp20 : Addr} {pr17 pr18 pr19 pr20 : List Value} {sl0 sl1 sl2 sl3 sl4 sl5 sl6 sl7 sl8 sl9 sl10 sl11 sl12 sl13 sl14 sl15 sl16 sl17 sl18 sl19 sl20 sl21 sl22 sl23 sl24 sl25 sl26 sl27 sl28 sl29 sl30 sl31 sl32 sl33 sl34 sl35 sl36 sl37 sl38 sl39 sl40 sl41 sl42 sl43 sl44 : Array (Option Value)} {oc0 kV0 dc0 pm0 cd0 ct0 oc1 kV1 dc1 pm1 cd1 ct1 oc2 kV2 dc2 pm2 cd2 ct2 oc3 kV3 dc3 pm3 cd3 ct3 oc4 kV4 dc4 pm4 cd4 ct4 oc5 kV5 dc5 pm5 cd5 ct5 oc6 kV6 dc6 pm6 cd6 ct6 oc7 kV7 dc7 pm7 cd7 ct7 oc8 kV8 dc8 pm8 cd8 ct8 oc9 kV9 dc9 pm9 cd9 ct9 oc10 kV10 dc10 pm10 cd10 ct10 oc11 kV11 dc11 pm11 cd11 ct11 oc12 kV12 dc12 pm12 cd12 ct12 oc13 kV13 dc13 pm13 cd13 ct13 oc14 kV14 dc14 pm14 cd14 ct14 oc15 kV15 dc15 pm15 cd15 ct15 oc16 kV16 dc16 pm16 cd16 ct16 oc17 kV17 dc17 pm17 cd17 ct17 oc18 kV18 dc18 pm18 cd18 ct18 oc19 kV19 dc19 pm19 cd19 ct19 oc20 kV20 dc20 pm20 cd20 ct20 oc21 kV21 dc21 pm21 cd21 ct21 oc22 kV22 dc22 pm22 cd22 ct22 oc23 kV23 dc23 pm23 cd23 ct23 oc24 kV24 dc24 pm24 cd24 ct24 oc25 kV25 dc25 pm25 cd25 ct25 oc26 kV26 dc26 pm26 cd26 ct26 oc27 kV27 dc27 pm27 cd27 ct27 oc28 kV28 dc28 pm28 cd28 ct28 oc29 kV29 dc29 pm29 cd29 ct29 oc30 kV30 dc30 pm30 cd30 ct30 oc31 kV31 dc31 pm31 cd31 ct31 oc32 kV32 dc32 pm32 cd32 ct32 oc33 kV33 dc33 pm33 cd33 ct33 oc34 kV34 dc34 pm34 cd34 ct34 oc35 kV35 dc35 pm35 cd35 ct35 oc36 kV36 dc36 pm36 cd36 ct36 oc37 kV37 dc37 pm37 cd37 ct37 oc38 kV38 dc38 pm38 cd38 ct38 oc39 kV39 dc39 pm39 cd39 ct39 oc40 kV40 dc40 pm40 cd40 ct40 oc41 kV41 dc41 pm41 cd41 ct41 oc42 kV42 dc42 pm42 cd42 ct42 oc43 kV43 dc43 pm43 cd43 ct43 oc44 kV44 dc44 pm44 cd44 ct44 : Value} {tk0 tk1 tk2 tk3 tk4 tk5 : Tok}
    (ac0 : PySem.W.nsIn K mainGlobals "Splitter" = some (some (.ref cC0)))
    (ac1 : PySem.W.nsIn K mainGlobals "Walk" = some (some (.ref cC1)))
    (ac2 : PySem.W.nsIn K mainGlobals "Run" = some (some (.ref cC2)))
    (ac3 : PySem.W.nsIn K mainGlobals "Desk" = some (some (.ref cC3)))
    (a0 : PySem.W.nsIn K mainGlobals "is_integer" = some (some (.ref f0)))
    (l0 : K.lookup f0 = some ⟨oc0, od0, .func (PySem.W.fnOf "is_integer" "is_integer" (defArgs s_is_integer) (defBody s_is_integer) (defScope s_is_integer) .none kV0 dc0 pm0 an0 cd0 ct0), sl0⟩)
    (c0 : PySem.W.codeIn K cd0 "is_integer" = true)
    (k0 : PySem.W.keepIn K (.ref f0) = true)
    (a1 : PySem.W.nsIn K mainGlobals "is_integer_within" = some (some (.ref f1)))
    (l1 : K.lookup f1 = some ⟨oc1, od1, .func (PySem.W.fnOf "is_integer_within" "is_integer_within" (defArgs s_is_integer_within) (defBody s_is_integer_within) (defScope s_is_integer_within) .none kV1 dc1 pm1 an1 cd1 ct1), sl1⟩)
    (c1 : PySem.W.codeIn K cd1 "is_integer_within" = true)
    (k1 : PySem.W.keepIn K (.ref f1) = true)
    (a2 : PySem.W.nsIn K mainGlobals "_check_coordinate" = some (some (.ref f2)))
    (l2 : K.lookup f2 = some ⟨oc2, od2, .func (PySem.W.fnOf "_check_coordinate" "_check_coordinate" (defArgs s_check_coordinate) (defBody s_check_coordinate) (defScope s_check_coordinate) .none kV2 dc2 pm2 an2 cd2 ct2), sl2⟩)
    (c2 : PySem.W.codeIn K cd2 "_check_coordinate" = true)
    (k2 : PySem.W.keepIn K (.ref f2) = true)
    (a3 : PySem.W.nsIn K mainGlobals "_cells_before" = some (some (.ref f3)))
    (l3 : K.lookup f3 = some ⟨oc3, od3, .func (PySem.W.fnOf "_cells_before" "_cells_before" (defArgs s_cells_before) (defBody s_cells_before) (defScope s_cells_before) .none kV3 dc3 pm3 an3 cd3 ct3), sl3⟩)
    (c3 : PySem.W.codeIn K cd3 "_cells_before" = true)
    (k3 : PySem.W.keepIn K (.ref f3) = true)
    (a4 : PySem.W.nsIn K mainGlobals "name_of" = some (some (.ref f4)))
    (l4 : K.lookup f4 = some ⟨oc4, od4, .func (PySem.W.fnOf "name_of" "name_of" (defArgs s_name_of) (defBody s_name_of) (defScope s_name_of) .none kV4 dc4 pm4 an4 cd4 ct4), sl4⟩)
    (c4 : PySem.W.codeIn K cd4 "name_of" = true)
    (k4 : PySem.W.keepIn K (.ref f4) = true)
    (a5 : PySem.W.nsIn K mainGlobals "check_count" = some (some (.ref f5)))
    (l5 : K.lookup f5 = some ⟨oc5, od5, .func (PySem.W.fnOf "check_count" "check_count" (defArgs s_check_count) (defBody s_check_count) (defScope s_check_count) .none kV5 dc5 pm5 an5 cd5 ct5), sl5⟩)
    (c5 : PySem.W.codeIn K cd5 "check_count" = true)
    (k5 : PySem.W.keepIn K (.ref f5) = true)
    (a6 : PySem.W.findIn K (.ref cC1) "__init__" = some (some (.ref f6)))
    (i6 : PySem.W.isFn K (.ref f6) = true)
    (l6 : K.lookup f6 = some ⟨oc6, od6, .func (PySem.W.fnOf "__init__" "Walk.__init__" (defArgs s_Walk___init__) (defBody s_Walk___init__) (defScope s_Walk___init__) .none kV6 dc6 pm6 an6 cd6 ct6), sl6⟩)
    (c6 : PySem.W.codeIn K cd6 "Walk.__init__" = true)
    (k6 : PySem.W.keepIn K (.ref f6) = true)
    (a7 : PySem.W.findIn K (.ref cC0) "perform" = some (some (.ref f7)))
    (i7 : PySem.W.isFn K (.ref f7) = true)
    (l7 : K.lookup f7 = some ⟨oc7, od7, .func (PySem.W.fnOf "perform" "Splitter.perform" (defArgs s_Splitter_perform) (defBody s_Splitter_perform) (defScope s_Splitter_perform) .none kV7 dc7 pm7 an7 cd7 ct7), sl7⟩)
    (c7 : PySem.W.codeIn K cd7 "Splitter.perform" = true)
    (k7 : PySem.W.keepIn K (.ref f7) = true)
    (a8 : PySem.W.findIn K (.ref cC1) "_end_in_cell" = some (some (.ref f8)))
    (i8 : PySem.W.isFn K (.ref f8) = true)
    (l8 : K.lookup f8 = some ⟨oc8, od8, .func (PySem.W.fnOf "_end_in_cell" "Walk._end_in_cell" (defArgs s_Walk__end_in_cell) (defBody s_Walk__end_in_cell) (defScope s_Walk__end_in_cell) .none kV8 dc8 pm8 an8 cd8 ct8), sl8⟩)
    (c8 : PySem.W.codeIn K cd8 "Walk._end_in_cell" = true)
    (k8 : PySem.W.keepIn K (.ref f8) = true)
    (a9 : PySem.W.findIn K (.ref cC0) "__init__" = some (some (.ref f9)))
    (i9 : PySem.W.isFn K (.ref f9) = true)
    (l9 : K.lookup f9 = some ⟨oc9, od9, .func (PySem.W.fnOf "__init__" "Splitter.__init__" (defArgs s_Splitter___init__) (defBody s_Splitter___init__) (defScope s_Splitter___init__) .none kV9 dc9 pm9 an9 cd9 ct9), sl9⟩)
    (c9 : PySem.W.codeIn K cd9 "Splitter.__init__" = true)
    (k9 : PySem.W.keepIn K (.ref f9) = true)
    (a10 : PySem.W.findIn K (.ref cC1) "_splitter_at" = some (some (.ref f10)))
    (i10 : PySem.W.isFn K (.ref f10) = true)
    (l10 : K.lookup f10 = some ⟨oc10, od10, .func (PySem.W.fnOf "_splitter_at" "Walk._splitter_at" (defArgs s_Walk__splitter_at) (defBody s_Walk__splitter_at) (defScope s_Walk__splitter_at) .none kV10 dc10 pm10 an10 cd10 ct10), sl10⟩)
    (c10 : PySem.W.codeIn K cd10 "Walk._splitter_at" = true)
    (k10 : PySem.W.keepIn K (.ref f10) = true)
    (a11 : PySem.W.findIn K (.ref cC1) "step" = some (some (.ref f11)))
    (i11 : PySem.W.isFn K (.ref f11) = true)
    (l11 : K.lookup f11 = some ⟨oc11, od11, .func (PySem.W.fnOf "step" "Walk.step" (defArgs s_Walk_step) (defBody s_Walk_step) (defScope s_Walk_step) .none kV11 dc11 pm11 an11 cd11 ct11), sl11⟩)
    (c11 : PySem.W.codeIn K cd11 "Walk.step" = true)
    (k11 : PySem.W.keepIn K (.ref f11) = true)
    (a12 : PySem.W.findIn K (.ref cC1) "can_step" = some (some (.ref f12)))
    (i12 : PySem.W.isFn K (.ref f12) = true)
    (l12 : K.lookup f12 = some ⟨oc12, od12, .func (PySem.W.fnOf "can_step" "Walk.can_step" (defArgs s_Walk_can_step) (defBody s_Walk_can_step) (defScope s_Walk_can_step) .none kV12 dc12 pm12 an12 cd12 ct12), sl12⟩)
    (c12 : PySem.W.codeIn K cd12 "Walk.can_step" = true)
    (k12 : PySem.W.keepIn K (.ref f12) = true)
    (a13 : PySem.W.nsIn K mainGlobals "perform_schedule" = some (some (.ref f13)))
    (l13 : K.lookup f13 = some ⟨oc13, od13, .func (PySem.W.fnOf "perform_schedule" "perform_schedule" (defArgs s_perform_schedule) (defBody s_perform_schedule) (defScope s_perform_schedule) .none kV13 dc13 pm13 an13 cd13 ct13), sl13⟩)
    (c13 : PySem.W.codeIn K cd13 "perform_schedule" = true)
    (k13 : PySem.W.keepIn K (.ref f13) = true)
    (a14 : PySem.W.nsIn K mainGlobals "walk_after" = some (some (.ref f14)))
    (l14 : K.lookup f14 = some ⟨oc14, od14, .func (PySem.W.fnOf "walk_after" "walk_after" (defArgs s_walk_after) (defBody s_walk_after) (defScope s_walk_after) .none kV14 dc14 pm14 an14 cd14 ct14), sl14⟩)
    (c14 : PySem.W.codeIn K cd14 "walk_after" = true)
    (k14 : PySem.W.keepIn K (.ref f14) = true)
    (a15 : PySem.W.nsIn K mainGlobals "show_schedule" = some (some (.ref f15)))
    (l15 : K.lookup f15 = some ⟨oc15, od15, .func (PySem.W.fnOf "show_schedule" "show_schedule" (defArgs s_show_schedule) (defBody s_show_schedule) (defScope s_show_schedule) .none kV15 dc15 pm15 an15 cd15 ct15), sl15⟩)
    (c15 : PySem.W.codeIn K cd15 "show_schedule" = true)
    (k15 : PySem.W.keepIn K (.ref f15) = true)
    (a16 : PySem.W.nsIn K mainGlobals "show_run" = some (some (.ref f16)))
    (l16 : K.lookup f16 = some ⟨oc16, od16, .func (PySem.W.fnOf "show_run" "show_run" (defArgs s_show_run) (defBody s_show_run) (defScope s_show_run) .none kV16 dc16 pm16 an16 cd16 ct16), sl16⟩)
    (c16 : PySem.W.codeIn K cd16 "show_run" = true)
    (k16 : PySem.W.keepIn K (.ref f16) = true)
    (a17 : PySem.W.findIn K (.ref cC2) "names_now" = some (some (.ref pp17)))
    (pg_17 : PySem.W.specialIn K (.ref pp17) "__get__" = some (some (.builtin "property.__get__")))
    (pt_17 : PySem.W.takesIn K (.ref pp17) = some true)
    (pc_17 : PySem.W.recIn K pp17 "property" = some (.ref f17 :: pr17))
    (l17 : K.lookup f17 = some ⟨oc17, od17, .func (PySem.W.fnOf "names_now" "Run.names_now" (defArgs s_Run_names_now) (defBody s_Run_names_now) (defScope s_Run_names_now) .none kV17 dc17 pm17 an17 cd17 ct17), sl17⟩)
    (c17 : PySem.W.codeIn K cd17 "Run.names_now" = true)
    (k17 : PySem.W.keepIn K (.ref f17) = true)
    (a18 : PySem.W.findIn K (.ref cC2) "places_now" = some (some (.ref pp18)))
    (pg_18 : PySem.W.specialIn K (.ref pp18) "__get__" = some (some (.builtin "property.__get__")))
    (pt_18 : PySem.W.takesIn K (.ref pp18) = some true)
    (pc_18 : PySem.W.recIn K pp18 "property" = some (.ref f18 :: pr18))
    (l18 : K.lookup f18 = some ⟨oc18, od18, .func (PySem.W.fnOf "places_now" "Run.places_now" (defArgs s_Run_places_now) (defBody s_Run_places_now) (defScope s_Run_places_now) .none kV18 dc18 pm18 an18 cd18 ct18), sl18⟩)
    (c18 : PySem.W.codeIn K cd18 "Run.places_now" = true)
    (k18 : PySem.W.keepIn K (.ref f18) = true)
    (a19 : PySem.W.findIn K (.ref cC2) "process_count" = some (some (.ref pp19)))
    (pg_19 : PySem.W.specialIn K (.ref pp19) "__get__" = some (some (.builtin "property.__get__")))
    (pt_19 : PySem.W.takesIn K (.ref pp19) = some true)
    (pc_19 : PySem.W.recIn K pp19 "property" = some (.ref f19 :: pr19))
    (l19 : K.lookup f19 = some ⟨oc19, od19, .func (PySem.W.fnOf "process_count" "Run.process_count" (defArgs s_Run_process_count) (defBody s_Run_process_count) (defScope s_Run_process_count) .none kV19 dc19 pm19 an19 cd19 ct19), sl19⟩)
    (c19 : PySem.W.codeIn K cd19 "Run.process_count" = true)
    (k19 : PySem.W.keepIn K (.ref f19) = true)
    (a20 : PySem.W.findIn K (.ref cC2) "steps_done" = some (some (.ref pp20)))
    (pg_20 : PySem.W.specialIn K (.ref pp20) "__get__" = some (some (.builtin "property.__get__")))
    (pt_20 : PySem.W.takesIn K (.ref pp20) = some true)
    (pc_20 : PySem.W.recIn K pp20 "property" = some (.ref f20 :: pr20))
    (l20 : K.lookup f20 = some ⟨oc20, od20, .func (PySem.W.fnOf "steps_done" "Run.steps_done" (defArgs s_Run_steps_done) (defBody s_Run_steps_done) (defScope s_Run_steps_done) .none kV20 dc20 pm20 an20 cd20 ct20), sl20⟩)
    (c20 : PySem.W.codeIn K cd20 "Run.steps_done" = true)
    (k20 : PySem.W.keepIn K (.ref f20) = true)
    (a21 : PySem.W.findIn K (.ref cC2) "_return_to" = some (some (.ref f21)))
    (i21 : PySem.W.isFn K (.ref f21) = true)
    (l21 : K.lookup f21 = some ⟨oc21, od21, .func (PySem.W.fnOf "_return_to" "Run._return_to" (defArgs s_Run__return_to) (defBody s_Run__return_to) (defScope s_Run__return_to) .none kV21 dc21 pm21 an21 cd21 ct21), sl21⟩)
    (c21 : PySem.W.codeIn K cd21 "Run._return_to" = true)
    (k21 : PySem.W.keepIn K (.ref f21) = true)
    (a22 : PySem.W.findIn K (.ref cC2) "undo" = some (some (.ref f22)))
    (i22 : PySem.W.isFn K (.ref f22) = true)
    (l22 : K.lookup f22 = some ⟨oc22, od22, .func (PySem.W.fnOf "undo" "Run.undo" (defArgs s_Run_undo) (defBody s_Run_undo) (defScope s_Run_undo) .none kV22 dc22 pm22 an22 cd22 ct22), sl22⟩)
    (c22 : PySem.W.codeIn K cd22 "Run.undo" = true)
    (k22 : PySem.W.keepIn K (.ref f22) = true)
    (a23 : PySem.W.findIn K (.ref cC2) "__init__" = some (some (.ref f23)))
    (i23 : PySem.W.isFn K (.ref f23) = true)
    (l23 : K.lookup f23 = some ⟨oc23, od23, .func (PySem.W.fnOf "__init__" "Run.__init__" (defArgs s_Run___init__) (defBody s_Run___init__) (defScope s_Run___init__) .none kV23 dc23 pm23 an23 cd23 ct23), sl23⟩)
    (c23 : PySem.W.codeIn K cd23 "Run.__init__" = true)
    (k23 : PySem.W.keepIn K (.ref f23) = true)
    (a24 : PySem.W.findIn K (.ref cC2) "finish" = some (some (.ref f24)))
    (i24 : PySem.W.isFn K (.ref f24) = true)
    (l24 : K.lookup f24 = some ⟨oc24, od24, .func (PySem.W.fnOf "finish" "Run.finish" (defArgs s_Run_finish) (defBody s_Run_finish) (defScope s_Run_finish) .none kV24 dc24 pm24 an24 cd24 ct24), sl24⟩)
    (c24 : PySem.W.codeIn K cd24 "Run.finish" = true)
    (k24 : PySem.W.keepIn K (.ref f24) = true)
    (a25 : PySem.W.findIn K (.ref cC2) "play" = some (some (.ref f25)))
    (i25 : PySem.W.isFn K (.ref f25) = true)
    (l25 : K.lookup f25 = some ⟨oc25, od25, .func (PySem.W.fnOf "play" "Run.play" (defArgs s_Run_play) (defBody s_Run_play) (defScope s_Run_play) .none kV25 dc25 pm25 an25 cd25 ct25), sl25⟩)
    (c25 : PySem.W.codeIn K cd25 "Run.play" = true)
    (k25 : PySem.W.keepIn K (.ref f25) = true)
    (a26 : PySem.W.findIn K (.ref cC2) "step" = some (some (.ref f26)))
    (i26 : PySem.W.isFn K (.ref f26) = true)
    (l26 : K.lookup f26 = some ⟨oc26, od26, .func (PySem.W.fnOf "step" "Run.step" (defArgs s_Run_step) (defBody s_Run_step) (defScope s_Run_step) .none kV26 dc26 pm26 an26 cd26 ct26), sl26⟩)
    (c26 : PySem.W.codeIn K cd26 "Run.step" = true)
    (k26 : PySem.W.keepIn K (.ref f26) = true)
    (a27 : PySem.W.findIn K (.ref cC2) "__len__" = some (some (.ref f27)))
    (ti27 : PySem.W.typeIn K (.ref f27) = some (.type "function"))
    (l27 : K.lookup f27 = some ⟨oc27, od27, .func (PySem.W.fnOf "__len__" "Run.__len__" (defArgs s_Run___len__) (defBody s_Run___len__) (defScope s_Run___len__) .none kV27 dc27 pm27 an27 cd27 ct27), sl27⟩)
    (c27 : PySem.W.codeIn K cd27 "Run.__len__" = true)
    (k27 : PySem.W.keepIn K (.ref f27) = true)
    (a28 : PySem.W.findIn K (.ref cC3) "__init__" = some (some (.ref f28)))
    (i28 : PySem.W.isFn K (.ref f28) = true)
    (l28 : K.lookup f28 = some ⟨oc28, od28, .func (PySem.W.fnOf "__init__" "Desk.__init__" (defArgs s_Desk___init__) (defBody s_Desk___init__) (defScope s_Desk___init__) .none kV28 dc28 pm28 an28 cd28 ct28), sl28⟩)
    (c28 : PySem.W.codeIn K cd28 "Desk.__init__" = true)
    (k28 : PySem.W.keepIn K (.ref f28) = true)
    (a29 : PySem.W.nsIn K mainGlobals "read_number" = some (some (.ref f29)))
    (l29 : K.lookup f29 = some ⟨oc29, od29, .func (PySem.W.fnOf "read_number" "read_number" (defArgs s_read_number) (defBody s_read_number) (defScope s_read_number) .none kV29 dc29 pm29 an29 cd29 ct29), sl29⟩)
    (c29 : PySem.W.codeIn K cd29 "read_number" = true)
    (k29 : PySem.W.keepIn K (.ref f29) = true)
    (a30 : PySem.W.nsIn K mainGlobals "_read_argument" = some (some (.ref f30)))
    (l30 : K.lookup f30 = some ⟨oc30, od30, .func (PySem.W.fnOf "_read_argument" "_read_argument" (defArgs s_read_argument) (defBody s_read_argument) (defScope s_read_argument) .none kV30 dc30 pm30 an30 cd30 ct30), sl30⟩)
    (c30 : PySem.W.codeIn K cd30 "_read_argument" = true)
    (k30 : PySem.W.keepIn K (.ref f30) = true)
    (a31 : PySem.W.nsIn K mainGlobals "_read_command" = some (some (.ref f31)))
    (l31 : K.lookup f31 = some ⟨oc31, od31, .func (PySem.W.fnOf "_read_command" "_read_command" (defArgs s_read_command) (defBody s_read_command) (defScope s_read_command) .none kV31 dc31 pm31 an31 cd31 ct31), sl31⟩)
    (c31 : PySem.W.codeIn K cd31 "_read_command" = true)
    (k31 : PySem.W.keepIn K (.ref f31) = true)
    (a32 : PySem.W.nsIn K mainGlobals "_show_or" = some (some (.ref f32)))
    (l32 : K.lookup f32 = some ⟨oc32, od32, .func (PySem.W.fnOf "_show_or" "_show_or" (defArgs s_show_or) (defBody s_show_or) (defScope s_show_or) .none kV32 dc32 pm32 an32 cd32 ct32), sl32⟩)
    (c32 : PySem.W.codeIn K cd32 "_show_or" = true)
    (k32 : PySem.W.keepIn K (.ref f32) = true)
    (a33 : PySem.W.nsIn K mainGlobals "_names" = some (some (.ref f33)))
    (l33 : K.lookup f33 = some ⟨oc33, od33, .func (PySem.W.fnOf "_names" "_names" (defArgs s_names) (defBody s_names) (defScope s_names) .none kV33 dc33 pm33 an33 cd33 ct33), sl33⟩)
    (c33 : PySem.W.codeIn K cd33 "_names" = true)
    (k33 : PySem.W.keepIn K (.ref f33) = true)
    (a34 : PySem.W.nsIn K mainGlobals "_places" = some (some (.ref f34)))
    (l34 : K.lookup f34 = some ⟨oc34, od34, .func (PySem.W.fnOf "_places" "_places" (defArgs s_places) (defBody s_places) (defScope s_places) .none kV34 dc34 pm34 an34 cd34 ct34), sl34⟩)
    (c34 : PySem.W.codeIn K cd34 "_places" = true)
    (k34 : PySem.W.keepIn K (.ref f34) = true)
    (a35 : PySem.W.nsIn K mainGlobals "_text" = some (some (.ref f35)))
    (l35 : K.lookup f35 = some ⟨oc35, od35, .func (PySem.W.fnOf "_text" "_text" (defArgs s_text) (defBody s_text) (defScope s_text) .none kV35 dc35 pm35 an35 cd35 ct35), sl35⟩)
    (c35 : PySem.W.codeIn K cd35 "_text" = true)
    (k35 : PySem.W.keepIn K (.ref f35) = true)
    (a36 : PySem.W.nsIn K mainGlobals "_undo" = some (some (.ref f36)))
    (l36 : K.lookup f36 = some ⟨oc36, od36, .func (PySem.W.fnOf "_undo" "_undo" (defArgs s_undo) (defBody s_undo) (defScope s_undo) .none kV36 dc36 pm36 an36 cd36 ct36), sl36⟩)
    (c36 : PySem.W.codeIn K cd36 "_undo" = true)
    (k36 : PySem.W.keepIn K (.ref f36) = true)
    (a37 : PySem.W.nsIn K mainGlobals "_finish" = some (some (.ref f37)))
    (l37 : K.lookup f37 = some ⟨oc37, od37, .func (PySem.W.fnOf "_finish" "_finish" (defArgs s_finish) (defBody s_finish) (defScope s_finish) .none kV37 dc37 pm37 an37 cd37 ct37), sl37⟩)
    (c37 : PySem.W.codeIn K cd37 "_finish" = true)
    (k37 : PySem.W.keepIn K (.ref f37) = true)
    (a38 : PySem.W.nsIn K mainGlobals "_step" = some (some (.ref f38)))
    (l38 : K.lookup f38 = some ⟨oc38, od38, .func (PySem.W.fnOf "_step" "_step" (defArgs s_step) (defBody s_step) (defScope s_step) .none kV38 dc38 pm38 an38 cd38 ct38), sl38⟩)
    (c38 : PySem.W.codeIn K cd38 "_step" = true)
    (k38 : PySem.W.keepIn K (.ref f38) = true)
    (a39 : PySem.W.findIn K (.ref cC3) "execute" = some (some (.ref f39)))
    (i39 : PySem.W.isFn K (.ref f39) = true)
    (l39 : K.lookup f39 = some ⟨oc39, od39, .func (PySem.W.fnOf "execute" "Desk.execute" (defArgs s_Desk_execute) (defBody s_Desk_execute) (defScope s_Desk_execute) .none kV39 dc39 pm39 an39 cd39 ct39), sl39⟩)
    (c39 : PySem.W.codeIn K cd39 "Desk.execute" = true)
    (k39 : PySem.W.keepIn K (.ref f39) = true)
    (a40 : PySem.W.nsIn K mainGlobals "_law_urn" = some (some (.ref f40)))
    (l40 : K.lookup f40 = some ⟨oc40, od40, .func (PySem.W.fnOf "_law_urn" "_law_urn" (defArgs s_law_urn) (defBody s_law_urn) (defScope s_law_urn) .none kV40 dc40 pm40 an40 cd40 ct40), sl40⟩)
    (c40 : PySem.W.codeIn K cd40 "_law_urn" = true)
    (k40 : PySem.W.keepIn K (.ref f40) = true)
    (a41 : PySem.W.nsIn K mainGlobals "_law_dip" = some (some (.ref f41)))
    (l41 : K.lookup f41 = some ⟨oc41, od41, .func (PySem.W.fnOf "_law_dip" "_law_dip" (defArgs s_law_dip) (defBody s_law_dip) (defScope s_law_dip) .none kV41 dc41 pm41 an41 cd41 ct41), sl41⟩)
    (c41 : PySem.W.codeIn K cd41 "_law_dip" = true)
    (k41 : PySem.W.keepIn K (.ref f41) = true)
    (a42 : PySem.W.nsIn K mainGlobals "_law_equal" = some (some (.ref f42)))
    (l42 : K.lookup f42 = some ⟨oc42, od42, .func (PySem.W.fnOf "_law_equal" "_law_equal" (defArgs s_law_equal) (defBody s_law_equal) (defScope s_law_equal) .none kV42 dc42 pm42 an42 cd42 ct42), sl42⟩)
    (c42 : PySem.W.codeIn K cd42 "_law_equal" = true)
    (k42 : PySem.W.keepIn K (.ref f42) = true)
    (a43 : PySem.W.nsIn K mainGlobals "_law_called" = some (some (.ref f43)))
    (l43 : K.lookup f43 = some ⟨oc43, od43, .func (PySem.W.fnOf "_law_called" "_law_called" (defArgs s_law_called) (defBody s_law_called) (defScope s_law_called) .none kV43 dc43 pm43 an43 cd43 ct43), sl43⟩)
    (c43 : PySem.W.codeIn K cd43 "_law_called" = true)
    (k43 : PySem.W.keepIn K (.ref f43) = true)
    (a44 : PySem.W.nsIn K mainGlobals "law" = some (some (.ref f44)))
    (l44 : K.lookup f44 = some ⟨oc44, od44, .func (PySem.W.fnOf "law" "law" (defArgs s_law) (defBody s_law) (defScope s_law) .none kV44 dc44 pm44 an44 cd44 ct44), sl44⟩)
    (c44 : PySem.W.codeIn K cd44 "law" = true)
    (k44 : PySem.W.keepIn K (.ref f44) = true)
    (pg0 : PySem.W.plainGet K cC0 Str.empty = true)
    (hd0 : PySem.W.hasDictIn K cC0 = true)
    (po0 : PySem.W.plainOver K cC0 = true)
    (sa0 : PySem.W.findIn K (.ref cC0) "__setattr__" = some (some (.builtin "object.__setattr__")))
    (mk0 : PySem.W.makesIn K cC0 = true)
    (kc0 : PySem.W.keepIn K (.ref cC0) = true)
    (x0_writer : PySem.W.findIn K (.ref cC0) "writer" = some none)
    (x0_closed : PySem.W.findIn K (.ref cC0) "closed" = some none)
    (pg1 : PySem.W.plainGet K cC1 Str.empty = true)
    (hd1 : PySem.W.hasDictIn K cC1 = true)
    (po1 : PySem.W.plainOver K cC1 = true)
    (sa1 : PySem.W.findIn K (.ref cC1) "__setattr__" = some (some (.builtin "object.__setattr__")))
    (mk1 : PySem.W.makesIn K cC1 = true)
    (kc1 : PySem.W.keepIn K (.ref cC1) = true)
    (x1_cells : PySem.W.findIn K (.ref cC1) "cells" = some none)
    (x1_places : PySem.W.findIn K (.ref cC1) "places" = some none)
    (x1_done : PySem.W.findIn K (.ref cC1) "done" = some none)
    (x1_names : PySem.W.findIn K (.ref cC1) "names" = some none)
    (x1_steps : PySem.W.findIn K (.ref cC1) "steps" = some none)
    (x1_reports : PySem.W.findIn K (.ref cC1) "reports" = some none)
    (pg2 : PySem.W.plainGet K cC2 Str.empty = true)
    (hd2 : PySem.W.hasDictIn K cC2 = true)
    (po2 : PySem.W.plainOver K cC2 = true)
    (sa2 : PySem.W.findIn K (.ref cC2) "__setattr__" = some (some (.builtin "object.__setattr__")))
    (mk2 : PySem.W.makesIn K cC2 = true)
    (kc2 : PySem.W.keepIn K (.ref cC2) = true)
    (x2__walk : PySem.W.findIn K (.ref cC2) "_walk" = some none)
    (x2__marks : PySem.W.findIn K (.ref cC2) "_marks" = some none)
    (pg3 : PySem.W.plainGet K cC3 Str.empty = true)
    (hd3 : PySem.W.hasDictIn K cC3 = true)
    (po3 : PySem.W.plainOver K cC3 = true)
    (sa3 : PySem.W.findIn K (.ref cC3) "__setattr__" = some (some (.builtin "object.__setattr__")))
    (mk3 : PySem.W.makesIn K cC3 = true)
    (kc3 : PySem.W.keepIn K (.ref cC3) = true)
    (x3__run : PySem.W.findIn K (.ref cC3) "_run" = some none)
    (z_bool : PySem.W.nsIn K mainGlobals "bool" = some none)
    (z_enumerate : PySem.W.nsIn K mainGlobals "enumerate" = some none)
    (z_int : PySem.W.nsIn K mainGlobals "int" = some none)
    (z_isinstance : PySem.W.nsIn K mainGlobals "isinstance" = some none)
    (z_len : PySem.W.nsIn K mainGlobals "len" = some none)
    (z_list : PySem.W.nsIn K mainGlobals "list" = some none)
    (z_max : PySem.W.nsIn K mainGlobals "max" = some none)
    (z_min : PySem.W.nsIn K mainGlobals "min" = some none)
    (z_range : PySem.W.nsIn K mainGlobals "range" = some none)
    (z_str : PySem.W.nsIn K mainGlobals "str" = some none)
    (z_zip : PySem.W.nsIn K mainGlobals "zip" = some none)
    (q0 : PySem.W.nsIn K mainGlobals "DONE" = some (some (.str "ok" tk0)))
    (q1 : PySem.W.nsIn K mainGlobals "EMPTY_SCHEDULE" = some (some (.str "-" tk1)))
    (q2 : PySem.W.nsIn K mainGlobals "GREATEST_COORDINATE" = some (some (.int (1000000000000000) tk2)))
    (q3 : PySem.W.nsIn K mainGlobals "GREATEST_COUNT_splitters" = some (some (.int (40) tk3)))
    (q4 : PySem.W.nsIn K mainGlobals "MOST_DIGITS_desk" = some (some (.int (9) tk4)))
    (q5 : PySem.W.nsIn K mainGlobals "NOTHING" = some (some (.str "-" tk5)))
    {kA_PLAIN_ACTIONS : Addr} {kN_PLAIN_ACTIONS : Nat} {kT_PLAIN_ACTIONS_0 kT_PLAIN_ACTIONS_1 kT_PLAIN_ACTIONS_2 kT_PLAIN_ACTIONS_3 : Tok}
    (kq_PLAIN_ACTIONS : PySem.W.nsIn K mainGlobals "PLAIN_ACTIONS" = some (some (.ref kA_PLAIN_ACTIONS)))
    (kl_PLAIN_ACTIONS : K.lookup kA_PLAIN_ACTIONS = some ⟨.type "dict", none, .dict #[⟨PyData.keyHash w.params "undo", .str "undo" kT_PLAIN_ACTIONS_0, .ref f36⟩, ⟨PyData.keyHash w.params "names", .str "names" kT_PLAIN_ACTIONS_1, .ref f33⟩, ⟨PyData.keyHash w.params "places", .str "places" kT_PLAIN_ACTIONS_2, .ref f34⟩, ⟨PyData.keyHash w.params "text", .str "text" kT_PLAIN_ACTIONS_3, .ref f35⟩] kN_PLAIN_ACTIONS, #[]⟩)
    (kw_PLAIN_ACTIONS : (kA_PLAIN_ACTIONS == sysModules) = false)
    {kA_PROCESS_ACTIONS : Addr} {kN_PROCESS_ACTIONS : Nat} {kT_PROCESS_ACTIONS_0 kT_PROCESS_ACTIONS_1 : Tok}
    (kq_PROCESS_ACTIONS : PySem.W.nsIn K mainGlobals "PROCESS_ACTIONS" = some (some (.ref kA_PROCESS_ACTIONS)))
    (kl_PROCESS_ACTIONS : K.lookup kA_PROCESS_ACTIONS = some ⟨.type "dict", none, .dict #[⟨PyData.keyHash w.params "step", .str "step" kT_PROCESS_ACTIONS_0, .ref f38⟩, ⟨PyData.keyHash w.params "finish", .str "finish" kT_PROCESS_ACTIONS_1, .ref f37⟩] kN_PROCESS_ACTIONS, #[]⟩)
    (kw_PROCESS_ACTIONS : (kA_PROCESS_ACTIONS == sysModules) = false)
    {kA_QUESTIONS : Addr} {kN_QUESTIONS : Nat} {kT_QUESTIONS_0 kT_QUESTIONS_1 kT_QUESTIONS_2 kT_QUESTIONS_3 : Tok} {kU_QUESTIONS_0 : Addr} {kU_QUESTIONS_1 : Addr} {kU_QUESTIONS_2 : Addr} {kU_QUESTIONS_3 : Addr}
    (kq_QUESTIONS : PySem.W.nsIn K mainGlobals "QUESTIONS" = some (some (.ref kA_QUESTIONS)))
    (kl_QUESTIONS : K.lookup kA_QUESTIONS = some ⟨.type "dict", none, .dict #[⟨PyData.keyHash w.params "possible", .str "possible" kT_QUESTIONS_0, .ref kU_QUESTIONS_0⟩, ⟨PyData.keyHash w.params "stuck", .str "stuck" kT_QUESTIONS_1, .ref kU_QUESTIONS_1⟩, ⟨PyData.keyHash w.params "least", .str "least" kT_QUESTIONS_2, .ref kU_QUESTIONS_2⟩, ⟨PyData.keyHash w.params "plan", .str "plan" kT_QUESTIONS_3, .ref kU_QUESTIONS_3⟩] kN_QUESTIONS, #[]⟩)
    (kw_QUESTIONS : (kA_QUESTIONS == sysModules) = false) :
    ∃ fd : FuncData, (∀ (s : Shared) (v : Value), BindsTo s fd ⟨[v], []⟩ [("script", v)]) ∧ ∀ bs : Heap, K.In bs → bs.Ns mainGlobals mg → (PyProof.Rows.importsNone q = true → ∃ mm, bs.Ns sysModules mm) → Fg l.prog w K mg bs CX0 14 fa fd ["script"] (sp_law K) := by
  have e := hfa.symm.trans (PySem.W.mg_of X G a44)
  cases e
  have F0 := fun_mk (st := s_is_integer) l0 c0 k0
  have b0 := F0.binds (ps := ["value"]) fun _ _ _ _ _ _ us hl => match us, hl with | [_], _ => rfl
  have F1 := fun_mk (st := s_is_integer_within) l1 c1 k1
  have b1 := F1.binds (ps := ["value", "least", "greatest"]) fun _ _ _ _ _ _ us hl => match us, hl with | [_, _, _], _ => rfl
  have F2 := fun_mk (st := s_check_coordinate) l2 c2 k2
  have b2 := F2.binds (ps := ["value"]) fun _ _ _ _ _ _ us hl => match us, hl with | [_], _ => rfl
  have F3 := fun_mk (st := s_cells_before) l3 c3 k3
  have b3 := F3.binds (ps := ["diagonal"]) fun _ _ _ _ _ _ us hl => match us, hl with | [_], _ => rfl
  have F4 := fun_mk (st := s_name_of) l4 c4 k4
  have b4 := F4.binds (ps := ["right", "down"]) fun _ _ _ _ _ _ us hl => match us, hl with | [_, _], _ => rfl
  have F5 := fun_mk (st := s_check_count) l5 c5 k5
  have b5 := F5.binds (ps := ["count", "greatest"]) fun _ _ _ _ _ _ us hl => match us, hl with | [_, _], _ => rfl
  have F6 := fun_mk (st := s_Walk___init__) l6 c6 k6
  have b6 := F6.binds (ps := ["self", "count"]) fun _ _ _ _ _ _ us hl => match us, hl with | [_, _], _ => rfl
  have F7 := fun_mk (st := s_Splitter_perform) l7 c7 k7
  have b7 := F7.binds (ps := ["self", "process", "done"]) fun _ _ _ _ _ _ us hl => match us, hl with | [_, _, _], _ => rfl
  have F8 := fun_mk (st := s_Walk__end_in_cell) l8 c8 k8
  have b8 := F8.binds (ps := ["self", "process", "result"]) fun _ _ _ _ _ _ us hl => match us, hl with | [_, _, _], _ => rfl
  have F9 := fun_mk (st := s_Splitter___init__) l9 c9 k9
  have b9 := F9.binds (ps := ["self"]) fun _ _ _ _ _ _ us hl => match us, hl with | [_], _ => rfl
  have F10 := fun_mk (st := s_Walk__splitter_at) l10 c10 k10
  have b10 := F10.binds (ps := ["self", "place"]) fun _ _ _ _ _ _ us hl => match us, hl with | [_, _], _ => rfl
  have F11 := fun_mk (st := s_Walk_step) l11 c11 k11
  have b11 := F11.binds (ps := ["self", "process"]) fun _ _ _ _ _ _ us hl => match us, hl with | [_, _], _ => rfl
  have F12 := fun_mk (st := s_Walk_can_step) l12 c12 k12
  have b12 := F12.binds (ps := ["self", "process"]) fun _ _ _ _ _ _ us hl => match us, hl with | [_, _], _ => rfl
  have F13 := fun_mk (st := s_perform_schedule) l13 c13 k13
  have b13 := F13.binds (ps := ["run", "schedule"]) fun _ _ _ _ _ _ us hl => match us, hl with | [_, _], _ => rfl
  have F14 := fun_mk (st := s_walk_after) l14 c14 k14
  have b14 := F14.binds (ps := ["count", "schedule"]) fun _ _ _ _ _ _ us hl => match us, hl with | [_, _], _ => rfl
  have F15 := fun_mk (st := s_show_schedule) l15 c15 k15
  have b15 := F15.binds (ps := ["schedule"]) fun _ _ _ _ _ _ us hl => match us, hl with | [_], _ => rfl
  have F16 := fun_mk (st := s_show_run) l16 c16 k16
  have b16 := F16.binds (ps := ["count", "schedule"]) fun _ _ _ _ _ _ us hl => match us, hl with | [_, _], _ => rfl
  have F17 := fun_mk (st := s_Run_names_now) l17 c17 k17
  have b17 := F17.binds (ps := ["self"]) fun _ _ _ _ _ _ us hl => match us, hl with | [_], _ => rfl
  have F18 := fun_mk (st := s_Run_places_now) l18 c18 k18
  have b18 := F18.binds (ps := ["self"]) fun _ _ _ _ _ _ us hl => match us, hl with | [_], _ => rfl
  have F19 := fun_mk (st := s_Run_process_count) l19 c19 k19
  have b19 := F19.binds (ps := ["self"]) fun _ _ _ _ _ _ us hl => match us, hl with | [_], _ => rfl
  have F20 := fun_mk (st := s_Run_steps_done) l20 c20 k20
  have b20 := F20.binds (ps := ["self"]) fun _ _ _ _ _ _ us hl => match us, hl with | [_], _ => rfl
  have F21 := fun_mk (st := s_Run__return_to) l21 c21 k21
  have b21 := F21.binds (ps := ["self", "mark"]) fun _ _ _ _ _ _ us hl => match us, hl with | [_, _], _ => rfl
  have F22 := fun_mk (st := s_Run_undo) l22 c22 k22
  have b22 := F22.binds (ps := ["self"]) fun _ _ _ _ _ _ us hl => match us, hl with | [_], _ => rfl
  have F23 := fun_mk (st := s_Run___init__) l23 c23 k23
  have b23 := F23.binds (ps := ["self", "count"]) fun _ _ _ _ _ _ us hl => match us, hl with | [_, _], _ => rfl
  have F24 := fun_mk (st := s_Run_finish) l24 c24 k24
  have b24 := F24.binds (ps := ["self", "process"]) fun _ _ _ _ _ _ us hl => match us, hl with | [_, _], _ => rfl
  have F25 := fun_mk (st := s_Run_play) l25 c25 k25
  have F26 := fun_mk (st := s_Run_step) l26 c26 k26
  have b26 := F26.binds (ps := ["self", "process"]) fun _ _ _ _ _ _ us hl => match us, hl with | [_, _], _ => rfl
  have F27 := fun_mk (st := s_Run___len__) l27 c27 k27
  have b27 := F27.binds (ps := ["self"]) fun _ _ _ _ _ _ us hl => match us, hl with | [_], _ => rfl
  have F28 := fun_mk (st := s_Desk___init__) l28 c28 k28
  have b28 := F28.binds (ps := ["self"]) fun _ _ _ _ _ _ us hl => match us, hl with | [_], _ => rfl
  have F29 := fun_mk (st := s_read_number) l29 c29 k29
  have b29 := F29.binds (ps := ["word", "most_digits"]) fun _ _ _ _ _ _ us hl => match us, hl with | [_, _], _ => rfl
  have F30 := fun_mk (st := s_read_argument) l30 c30 k30
  have b30 := F30.binds (ps := ["word", "rest"]) fun _ _ _ _ _ _ us hl => match us, hl with | [_, _], _ => rfl
  have F31 := fun_mk (st := s_read_command) l31 c31 k31
  have b31 := F31.binds (ps := ["row"]) fun _ _ _ _ _ _ us hl => match us, hl with | [_], _ => rfl
  have F32 := fun_mk (st := s_show_or) l32 c32 k32
  have b32 := F32.binds (ps := ["number", "otherwise"]) fun _ _ _ _ _ _ us hl => match us, hl with | [_, _], _ => rfl
  have F33 := fun_mk (st := s_names) l33 c33 k33
  have b33 := F33.binds (ps := ["run"]) fun _ _ _ _ _ _ us hl => match us, hl with | [_], _ => rfl
  have F34 := fun_mk (st := s_places) l34 c34 k34
  have b34 := F34.binds (ps := ["run"]) fun _ _ _ _ _ _ us hl => match us, hl with | [_], _ => rfl
  have F35 := fun_mk (st := s_text) l35 c35 k35
  have b35 := F35.binds (ps := ["run"]) fun _ _ _ _ _ _ us hl => match us, hl with | [_], _ => rfl
  have F36 := fun_mk (st := s_undo) l36 c36 k36
  have b36 := F36.binds (ps := ["run"]) fun _ _ _ _ _ _ us hl => match us, hl with | [_], _ => rfl
  have F37 := fun_mk (st := s_finish) l37 c37 k37
  have b37 := F37.binds (ps := ["run", "process"]) fun _ _ _ _ _ _ us hl => match us, hl with | [_, _], _ => rfl
  have F38 := fun_mk (st := s_step) l38 c38 k38
  have b38 := F38.binds (ps := ["run", "process"]) fun _ _ _ _ _ _ us hl => match us, hl with | [_, _], _ => rfl
  have F39 := fun_mk (st := s_Desk_execute) l39 c39 k39
  have b39 := F39.binds (ps := ["self", "row"]) fun _ _ _ _ _ _ us hl => match us, hl with | [_, _], _ => rfl
  have F40 := fun_mk (st := s_law_urn) l40 c40 k40
  have b40 := F40.binds (ps := ["script", "k"]) fun _ _ _ _ _ _ us hl => match us, hl with | [_, _], _ => rfl
  have F41 := fun_mk (st := s_law_dip) l41 c41 k41
  have b41 := F41.binds (ps := ["urn", "size"]) fun _ _ _ _ _ _ us hl => match us, hl with | [_, _], _ => rfl
  have F42 := fun_mk (st := s_law_equal) l42 c42 k42
  have b42 := F42.binds (ps := ["desk", "held"]) fun _ _ _ _ _ _ us hl => match us, hl with | [_, _], _ => rfl
  have F43 := fun_mk (st := s_law_called) l43 c43 k43
  have b43 := F43.binds (ps := ["urn", "desk", "held", "past"]) fun _ _ _ _ _ _ us hl => match us, hl with | [_, _, _, _], _ => rfl
  have F44 := fun_mk (st := s_law) l44 c44 k44
  have b44 := F44.binds (ps := ["script"]) fun _ _ _ _ _ _ us hl => match us, hl with | [_], _ => rfl
  have m : Mo w K mg ⟨f0, (PySem.W.fnOf "is_integer" "is_integer" (defArgs s_is_integer) (defBody s_is_integer) (defScope s_is_integer) .none kV0 dc0 pm0 an0 cd0 ct0), f1, (PySem.W.fnOf "is_integer_within" "is_integer_within" (defArgs s_is_integer_within) (defBody s_is_integer_within) (defScope s_is_integer_within) .none kV1 dc1 pm1 an1 cd1 ct1), f2, (PySem.W.fnOf "_check_coordinate" "_check_coordinate" (defArgs s_check_coordinate) (defBody s_check_coordinate) (defScope s_check_coordinate) .none kV2 dc2 pm2 an2 cd2 ct2), f3, (PySem.W.fnOf "_cells_before" "_cells_before" (defArgs s_cells_before) (defBody s_cells_before) (defScope s_cells_before) .none kV3 dc3 pm3 an3 cd3 ct3), f4, (PySem.W.fnOf "name_of" "name_of" (defArgs s_name_of) (defBody s_name_of) (defScope s_name_of) .none kV4 dc4 pm4 an4 cd4 ct4), f5, (PySem.W.fnOf "check_count" "check_count" (defArgs s_check_count) (defBody s_check_count) (defScope s_check_count) .none kV5 dc5 pm5 an5 cd5 ct5), f6, (PySem.W.fnOf "__init__" "Walk.__init__" (defArgs s_Walk___init__) (defBody s_Walk___init__) (defScope s_Walk___init__) .none kV6 dc6 pm6 an6 cd6 ct6), f7, (PySem.W.fnOf "perform" "Splitter.perform" (defArgs s_Splitter_perform) (defBody s_Splitter_perform) (defScope s_Splitter_perform) .none kV7 dc7 pm7 an7 cd7 ct7), f8, (PySem.W.fnOf "_end_in_cell" "Walk._end_in_cell" (defArgs s_Walk__end_in_cell) (defBody s_Walk__end_in_cell) (defScope s_Walk__end_in_cell) .none kV8 dc8 pm8 an8 cd8 ct8), f9, (PySem.W.fnOf "__init__" "Splitter.__init__" (defArgs s_Splitter___init__) (defBody s_Splitter___init__) (defScope s_Splitter___init__) .none kV9 dc9 pm9 an9 cd9 ct9), f10, (PySem.W.fnOf "_splitter_at" "Walk._splitter_at" (defArgs s_Walk__splitter_at) (defBody s_Walk__splitter_at) (defScope s_Walk__splitter_at) .none kV10 dc10 pm10 an10 cd10 ct10), f11, (PySem.W.fnOf "step" "Walk.step" (defArgs s_Walk_step) (defBody s_Walk_step) (defScope s_Walk_step) .none kV11 dc11 pm11 an11 cd11 ct11), f12, (PySem.W.fnOf "can_step" "Walk.can_step" (defArgs s_Walk_can_step) (defBody s_Walk_can_step) (defScope s_Walk_can_step) .none kV12 dc12 pm12 an12 cd12 ct12), f13, (PySem.W.fnOf "perform_schedule" "perform_schedule" (defArgs s_perform_schedule) (defBody s_perform_schedule) (defScope s_perform_schedule) .none kV13 dc13 pm13 an13 cd13 ct13), f14, (PySem.W.fnOf "walk_after" "walk_after" (defArgs s_walk_after) (defBody s_walk_after) (defScope s_walk_after) .none kV14 dc14 pm14 an14 cd14 ct14), f15, (PySem.W.fnOf "show_schedule" "show_schedule" (defArgs s_show_schedule) (defBody s_show_schedule) (defScope s_show_schedule) .none kV15 dc15 pm15 an15 cd15 ct15), f16, (PySem.W.fnOf "show_run" "show_run" (defArgs s_show_run) (defBody s_show_run) (defScope s_show_run) .none kV16 dc16 pm16 an16 cd16 ct16), f17, (PySem.W.fnOf "names_now" "Run.names_now" (defArgs s_Run_names_now) (defBody s_Run_names_now) (defScope s_Run_names_now) .none kV17 dc17 pm17 an17 cd17 ct17), pp17, f18, (PySem.W.fnOf "places_now" "Run.places_now" (defArgs s_Run_places_now) (defBody s_Run_places_now) (defScope s_Run_places_now) .none kV18 dc18 pm18 an18 cd18 ct18), pp18, f19, (PySem.W.fnOf "process_count" "Run.process_count" (defArgs s_Run_process_count) (defBody s_Run_process_count) (defScope s_Run_process_count) .none kV19 dc19 pm19 an19 cd19 ct19), pp19, f20, (PySem.W.fnOf "steps_done" "Run.steps_done" (defArgs s_Run_steps_done) (defBody s_Run_steps_done) (defScope s_Run_steps_done) .none kV20 dc20 pm20 an20 cd20 ct20), pp20, f21, (PySem.W.fnOf "_return_to" "Run._return_to" (defArgs s_Run__return_to) (defBody s_Run__return_to) (defScope s_Run__return_to) .none kV21 dc21 pm21 an21 cd21 ct21), f22, (PySem.W.fnOf "undo" "Run.undo" (defArgs s_Run_undo) (defBody s_Run_undo) (defScope s_Run_undo) .none kV22 dc22 pm22 an22 cd22 ct22), f23, (PySem.W.fnOf "__init__" "Run.__init__" (defArgs s_Run___init__) (defBody s_Run___init__) (defScope s_Run___init__) .none kV23 dc23 pm23 an23 cd23 ct23), f24, (PySem.W.fnOf "finish" "Run.finish" (defArgs s_Run_finish) (defBody s_Run_finish) (defScope s_Run_finish) .none kV24 dc24 pm24 an24 cd24 ct24), f25, (PySem.W.fnOf "play" "Run.play" (defArgs s_Run_play) (defBody s_Run_play) (defScope s_Run_play) .none kV25 dc25 pm25 an25 cd25 ct25), f26, (PySem.W.fnOf "step" "Run.step" (defArgs s_Run_step) (defBody s_Run_step) (defScope s_Run_step) .none kV26 dc26 pm26 an26 cd26 ct26), f27, (PySem.W.fnOf "__len__" "Run.__len__" (defArgs s_Run___len__) (defBody s_Run___len__) (defScope s_Run___len__) .none kV27 dc27 pm27 an27 cd27 ct27), f28, (PySem.W.fnOf "__init__" "Desk.__init__" (defArgs s_Desk___init__) (defBody s_Desk___init__) (defScope s_Desk___init__) .none kV28 dc28 pm28 an28 cd28 ct28), f29, (PySem.W.fnOf "read_number" "read_number" (defArgs s_read_number) (defBody s_read_number) (defScope s_read_number) .none kV29 dc29 pm29 an29 cd29 ct29), f30, (PySem.W.fnOf "_read_argument" "_read_argument" (defArgs s_read_argument) (defBody s_read_argument) (defScope s_read_argument) .none kV30 dc30 pm30 an30 cd30 ct30), f31, (PySem.W.fnOf "_read_command" "_read_command" (defArgs s_read_command) (defBody s_read_command) (defScope s_read_command) .none kV31 dc31 pm31 an31 cd31 ct31), f32, (PySem.W.fnOf "_show_or" "_show_or" (defArgs s_show_or) (defBody s_show_or) (defScope s_show_or) .none kV32 dc32 pm32 an32 cd32 ct32), f33, (PySem.W.fnOf "_names" "_names" (defArgs s_names) (defBody s_names) (defScope s_names) .none kV33 dc33 pm33 an33 cd33 ct33), f34, (PySem.W.fnOf "_places" "_places" (defArgs s_places) (defBody s_places) (defScope s_places) .none kV34 dc34 pm34 an34 cd34 ct34), f35, (PySem.W.fnOf "_text" "_text" (defArgs s_text) (defBody s_text) (defScope s_text) .none kV35 dc35 pm35 an35 cd35 ct35), f36, (PySem.W.fnOf "_undo" "_undo" (defArgs s_undo) (defBody s_undo) (defScope s_undo) .none kV36 dc36 pm36 an36 cd36 ct36), f37, (PySem.W.fnOf "_finish" "_finish" (defArgs s_finish) (defBody s_finish) (defScope s_finish) .none kV37 dc37 pm37 an37 cd37 ct37), f38, (PySem.W.fnOf "_step" "_step" (defArgs s_step) (defBody s_step) (defScope s_step) .none kV38 dc38 pm38 an38 cd38 ct38), f39, (PySem.W.fnOf "execute" "Desk.execute" (defArgs s_Desk_execute) (defBody s_Desk_execute) (defScope s_Desk_execute) .none kV39 dc39 pm39 an39 cd39 ct39), f40, (PySem.W.fnOf "_law_urn" "_law_urn" (defArgs s_law_urn) (defBody s_law_urn) (defScope s_law_urn) .none kV40 dc40 pm40 an40 cd40 ct40), f41, (PySem.W.fnOf "_law_dip" "_law_dip" (defArgs s_law_dip) (defBody s_law_dip) (defScope s_law_dip) .none kV41 dc41 pm41 an41 cd41 ct41), f42, (PySem.W.fnOf "_law_equal" "_law_equal" (defArgs s_law_equal) (defBody s_law_equal) (defScope s_law_equal) .none kV42 dc42 pm42 an42 cd42 ct42), f43, (PySem.W.fnOf "_law_called" "_law_called" (defArgs s_law_called) (defBody s_law_called) (defScope s_law_called) .none kV43 dc43 pm43 an43 cd43 ct43), fa, (PySem.W.fnOf "law" "law" (defArgs s_law) (defBody s_law) (defScope s_law) .none kV44 dc44 pm44 an44 cd44 ct44), cC0, cC1, cC2, cC3, kA_PLAIN_ACTIONS, kA_PROCESS_ACTIONS, kA_QUESTIONS, kU_QUESTIONS_0, kU_QUESTIONS_1, kU_QUESTIONS_2, kU_QUESTIONS_3⟩ := by
    constructor
    · exact F0
    · exact b0
    · exact PySem.W.mg_of X G a0
    · exact F1
    · exact b1
    · exact PySem.W.mg_of X G a1
    · exact F2
    · exact b2
    · exact PySem.W.mg_of X G a2
    · exact F3
    · exact b3
    · exact PySem.W.mg_of X G a3
    · exact F4
    · exact b4
    · exact PySem.W.mg_of X G a4
    · exact F5
    · exact b5
    · exact PySem.W.mg_of X G a5
    · exact F6
    · exact b6
    · exact F7
    · exact b7
    · exact ⟨a7, i7, k7⟩
    · exact F8
    · exact b8
    · exact ⟨a8, i8, k8⟩
    · exact F9
    · exact b9
    · exact F10
    · exact b10
    · exact ⟨a10, i10, k10⟩
    · exact F11
    · exact b11
    · exact ⟨a11, i11, k11⟩
    · exact F12
    · exact b12
    · exact ⟨a12, i12, k12⟩
    · exact F13
    · exact b13
    · exact PySem.W.mg_of X G a13
    · exact F14
    · exact b14
    · exact PySem.W.mg_of X G a14
    · exact F15
    · exact b15
    · exact PySem.W.mg_of X G a15
    · exact F16
    · exact b16
    · exact PySem.W.mg_of X G a16
    · exact F17
    · exact b17
    · exact ⟨a17, pg_17, pt_17, ⟨_, pc_17⟩⟩
    · exact F18
    · exact b18
    · exact ⟨a18, pg_18, pt_18, ⟨_, pc_18⟩⟩
    · exact F19
    · exact b19
    · exact ⟨a19, pg_19, pt_19, ⟨_, pc_19⟩⟩
    · exact F20
    · exact b20
    · exact ⟨a20, pg_20, pt_20, ⟨_, pc_20⟩⟩
    · exact F21
    · exact b21
    · exact ⟨a21, i21, k21⟩
    · exact F22
    · exact b22
    · exact ⟨a22, i22, k22⟩
    · exact F23
    · exact b23
    · exact F24
    · exact b24
    · exact ⟨a24, i24, k24⟩
    · exact F25
    · exact ⟨a25, i25, k25⟩
    · exact F26
    · exact b26
    · exact ⟨a26, i26, k26⟩
    · exact F27
    · exact b27
    · exact ⟨a27, ti27⟩
    · exact F28
    · exact b28
    · exact F29
    · exact b29
    · exact PySem.W.mg_of X G a29
    · exact F30
    · exact b30
    · exact PySem.W.mg_of X G a30
    · exact F31
    · exact b31
    · exact PySem.W.mg_of X G a31
    · exact F32
    · exact b32
    · exact PySem.W.mg_of X G a32
    · exact F33
    · exact b33
    · exact PySem.W.mg_of X G a33
    · exact F34
    · exact b34
    · exact PySem.W.mg_of X G a34
    · exact F35
    · exact b35
    · exact PySem.W.mg_of X G a35
    · exact F36
    · exact b36
    · exact PySem.W.mg_of X G a36
    · exact F37
    · exact b37
    · exact PySem.W.mg_of X G a37
    · exact F38
    · exact b38
    · exact PySem.W.mg_of X G a38
    · exact F39
    · exact b39
    · exact ⟨a39, i39, k39⟩
    · exact F40
    · exact b40
    · exact PySem.W.mg_of X G a40
    · exact F41
    · exact b41
    · exact PySem.W.mg_of X G a41
    · exact F42
    · exact b42
    · exact PySem.W.mg_of X G a42
    · exact F43
    · exact b43
    · exact PySem.W.mg_of X G a43
    · exact F44
    · exact b44
    · exact PySem.W.mg_of X G a44
    · exact PySem.W.mg_of X G ac0
    · exact ⟨pg0, hd0, po0, sa0⟩
    · exact ⟨mk0, a9, i9, kc0⟩
    · exact x0_writer
    · exact x0_closed
    · exact PySem.W.mg_of X G ac1
    · exact ⟨pg1, hd1, po1, sa1⟩
    · exact ⟨mk1, a6, i6, kc1⟩
    · exact x1_cells
    · exact x1_places
    · exact x1_done
    · exact x1_names
    · exact x1_steps
    · exact x1_reports
    · exact PySem.W.mg_of X G ac2
    · exact ⟨pg2, hd2, po2, sa2⟩
    · exact ⟨mk2, a23, i23, kc2⟩
    · exact x2__walk
    · exact x2__marks
    · exact PySem.W.mg_of X G ac3
    · exact ⟨pg3, hd3, po3, sa3⟩
    · exact ⟨mk3, a28, i28, kc3⟩
    · exact x3__run
    · exact PySem.W.mg_none_of X G z_bool
    · exact PySem.W.mg_none_of X G z_enumerate
    · exact PySem.W.mg_none_of X G z_int
    · exact PySem.W.mg_none_of X G z_isinstance
    · exact PySem.W.mg_none_of X G z_len
    · exact PySem.W.mg_none_of X G z_list
    · exact PySem.W.mg_none_of X G z_max
    · exact PySem.W.mg_none_of X G z_min
    · exact PySem.W.mg_none_of X G z_range
    · exact PySem.W.mg_none_of X G z_str
    · exact PySem.W.mg_none_of X G z_zip
    · exact ⟨_, PySem.W.mg_of X G q0⟩
    · exact ⟨_, PySem.W.mg_of X G q1⟩
    · exact ⟨_, PySem.W.mg_of X G q2⟩
    · exact ⟨_, PySem.W.mg_of X G q3⟩
    · exact ⟨_, PySem.W.mg_of X G q4⟩
    · exact ⟨_, PySem.W.mg_of X G q5⟩
    · exact PySem.W.mg_of X G kq_PLAIN_ACTIONS
    · exact KD.mk' (l := [("undo", kT_PLAIN_ACTIONS_0, f36), ("names", kT_PLAIN_ACTIONS_1, f33), ("places", kT_PLAIN_ACTIONS_2, f34), ("text", kT_PLAIN_ACTIONS_3, f35)]) kw_PLAIN_ACTIONS kl_PLAIN_ACTIONS
    · exact PySem.W.mg_of X G kq_PROCESS_ACTIONS
    · exact KD.mk' (l := [("step", kT_PROCESS_ACTIONS_0, f38), ("finish", kT_PROCESS_ACTIONS_1, f37)]) kw_PROCESS_ACTIONS kl_PROCESS_ACTIONS
    · exact PySem.W.mg_of X G kq_QUESTIONS
    · exact KD.mk' (l := [("possible", kT_QUESTIONS_0, kU_QUESTIONS_0), ("stuck", kT_QUESTIONS_1, kU_QUESTIONS_1), ("least", kT_QUESTIONS_2, kU_QUESTIONS_2), ("plan", kT_QUESTIONS_3, kU_QUESTIONS_3)]) kw_QUESTIONS kl_QUESTIONS
  refine ⟨(PySem.W.fnOf "law" "law" (defArgs s_law) (defBody s_law) (defScope s_law) .none kV44 dc44 pm44 an44 cd44 ct44), fun s v => .of_eq rfl, fun bs _ _ smq => ?_⟩
  have G_is_integer := ok_is_integer (P := l.prog) (w := w) (bs := bs) m (smq hq) 
  have G_is_integer_within := ok_is_integer_within (P := l.prog) (w := w) (bs := bs) m (smq hq) G_is_integer
  have G_check_coordinate := ok_check_coordinate (P := l.prog) (w := w) (bs := bs) m (smq hq) G_is_integer_within
  have G_cells_before := ok_cells_before (P := l.prog) (w := w) (bs := bs) m (smq hq) 
  have G_name_of := ok_name_of (P := l.prog) (w := w) (bs := bs) m (smq hq) G_check_coordinate G_cells_before
  have G_check_count := ok_check_count (P := l.prog) (w := w) (bs := bs) m (smq hq) G_is_integer_within
  have G_Walk___init__ := ok_Walk___init__ (P := l.prog) (w := w) (bs := bs) m (smq hq) 
  have G_Splitter_perform := ok_Splitter_perform (P := l.prog) (w := w) (bs := bs) m (smq hq) 
  have G_Walk__end_in_cell := ok_Walk__end_in_cell (P := l.prog) (w := w) (bs := bs) m (smq hq) G_name_of
  have G_Splitter___init__ := ok_Splitter___init__ (P := l.prog) (w := w) (bs := bs) m (smq hq) 
  have G_Walk__splitter_at := ok_Walk__splitter_at (P := l.prog) (w := w) (bs := bs) m (smq hq) G_Splitter___init__
  have G_Walk_step := ok_Walk_step (P := l.prog) (w := w) (bs := bs) m (smq hq) G_Splitter_perform G_Walk__end_in_cell G_Walk__splitter_at
  have G_Walk_can_step := ok_Walk_can_step (P := l.prog) (w := w) (bs := bs) m (smq hq) G_is_integer_within
  have G_perform_schedule := ok_perform_schedule (P := l.prog) (w := w) (bs := bs) m (smq hq) G_Walk_step G_Walk_can_step
  have G_walk_after := ok_walk_after (P := l.prog) (w := w) (bs := bs) m (smq hq) G_check_count G_Walk___init__ G_perform_schedule
  have G_show_schedule := ok_show_schedule (P := l.prog) (w := w) (bs := bs) m (smq hq) 
  have G_show_run := ok_show_run (P := l.prog) (w := w) (bs := bs) m (smq hq) G_walk_after G_show_schedule
  have G_Run_names_now := ok_Run_names_now (P := l.prog) (w := w) (bs := bs) m (smq hq) 
  have G_Run_places_now := ok_Run_places_now (P := l.prog) (w := w) (bs := bs) m (smq hq) G_name_of
  have G_Run_process_count := ok_Run_process_count (P := l.prog) (w := w) (bs := bs) m (smq hq) 
  have G_Run_steps_done := ok_Run_steps_done (P := l.prog) (w := w) (bs := bs) m (smq hq) 
  have G_Run__return_to := ok_Run__return_to (P := l.prog) (w := w) (bs := bs) m (smq hq) G_walk_after G_Run_process_count
  have G_Run_undo := ok_Run_undo (P := l.prog) (w := w) (bs := bs) m (smq hq) G_Run__return_to
  have G_Run___init__ := ok_Run___init__ (P := l.prog) (w := w) (bs := bs) m (smq hq) G_walk_after
  have G_Run_finish := ok_Run_finish (P := l.prog) (w := w) (bs := bs) m (smq hq) G_Walk_step G_Walk_can_step
  have G_Run_play := ok_Run_play (P := l.prog) (w := w) (bs := bs) m (smq hq) G_Walk_step G_Walk_can_step
  have G_Run_step := ok_Run_step (P := l.prog) (w := w) (bs := bs) m (smq hq) G_Run_play
  have G_Run___len__ := ok_Run___len__ (P := l.prog) (w := w) (bs := bs) m (smq hq) 
  have G_Desk___init__ := ok_Desk___init__ (P := l.prog) (w := w) (bs := bs) m (smq hq) 
  have G_read_number := ok_read_number (P := l.prog) (w := w) (bs := bs) m (smq hq) 
  have G_read_argument := ok_read_argument (P := l.prog) (w := w) (bs := bs) m (smq hq) G_read_number
  have G_read_command := ok_read_command (P := l.prog) (w := w) (bs := bs) m (smq hq) G_read_argument
  have G_show_or := ok_show_or (P := l.prog) (w := w) (bs := bs) m (smq hq) 
  have G_names := ok_names (P := l.prog) (w := w) (bs := bs) m (smq hq) G_Run_names_now G_show_or
  have G_places := ok_places (P := l.prog) (w := w) (bs := bs) m (smq hq) G_Run_places_now
  have G_text := ok_text (P := l.prog) (w := w) (bs := bs) m (smq hq) G_show_run G_Run_process_count G_Run_steps_done
  have G_undo := ok_undo (P := l.prog) (w := w) (bs := bs) m (smq hq) G_Run_undo
  have G_finish := ok_finish (P := l.prog) (w := w) (bs := bs) m (smq hq) G_Run_finish
  have G_step := ok_step (P := l.prog) (w := w) (bs := bs) m (smq hq) G_Run_step
  have G_Desk_execute := ok_Desk_execute (P := l.prog) (w := w) (bs := bs) m (smq hq) G_Run___init__ G_read_command G_names G_places G_text G_undo G_finish G_step
  have G_law_urn := ok_law_urn (P := l.prog) (w := w) (bs := bs) m (smq hq) 
  have G_law_dip := ok_law_dip (P := l.prog) (w := w) (bs := bs) m (smq hq) 
  have G_law_equal := ok_law_equal (P := l.prog) (w := w) (bs := bs) m (smq hq) G_show_run G_Run_names_now G_Run_places_now G_Run_process_count G_Run_steps_done G_Desk_execute
  have G_law_called := ok_law_called (P := l.prog) (w := w) (bs := bs) m (smq hq) G_Run_names_now G_Run_undo G_Run_finish G_Run_step G_Run___len__ G_Desk_execute G_law_dip
  have G_law := ok_law (P := l.prog) (w := w) (bs := bs) m (smq hq) G_Run___init__ G_Desk___init__ G_Desk_execute G_law_urn G_law_dip G_law_equal G_law_called
  exact G_law
end My
open PySem PySem.W PyProof.Rows
set_option maxHeartbeats 0 in
theorem PySem.Challenge.cw_splitnames_k46_desks_beside_runs_holds : PySem.Challenge.rw_splitnames_k46_desks_beside_runs.Holds := by
  w_on; o_law; k_head; (case hw => w_witness2)
  k_fill
  refine Vg.walk_q (l := PySem.Challenge.rw_splitnames_k46_desks_beside_runs) (n := 63) (k := 14) (x := "script") (C := fun _ => L2.CX0) (sp := fun w => My.sp_law _) rfl (by decide) rfl ⟨rfl, by decide, by decide⟩ (fun w h Y => PySem.W.kIn_of Y) ?F (fun _ _ a ns hl hb _ hS => My.law_end hl hb hS) (fun _ _ _ _ _ h => h)
  case F =>
    intro w mg fa h KX G hmg
    refine' My.all_mk (by decide +kernel) KX G hmg ?ac0 ?ac1 ?ac2 ?ac3 ?a0 ?l0 ?c0 ?k0 ?a1 ?l1 ?c1 ?k1 ?a2 ?l2 ?c2 ?k2 ?a3 ?l3 ?c3 ?k3 ?a4 ?l4 ?c4 ?k4 ?a5 ?l5 ?c5 ?k5 ?a6 ?i6 ?l6 ?c6 ?k6 ?a7 ?i7 ?l7 ?c7 ?k7 ?a8 ?i8 ?l8 ?c8 ?k8 ?a9 ?i9 ?l9 ?c9 ?k9 ?a10 ?i10 ?l10 ?c10 ?k10 ?a11 ?i11 ?l11 ?c11 ?k11 ?a12 ?i12 ?l12 ?c12 ?k12 ?a13 ?l13 ?c13 ?k13 ?a14 ?l14 ?c14 ?k14 ?a15 ?l15 ?c15 ?k15 ?a16 ?l16 ?c16 ?k16 ?a17 ?pg_17 ?pt_17 ?pc_17 ?l17 ?c17 ?k17 ?a18 ?pg_18 ?pt_18 ?pc_18 ?l18 ?c18 ?k18 ?a19 ?pg_19 ?pt_19 ?pc_19 ?l19 ?c19 ?k19 ?a20 ?pg_20 ?pt_20 ?pc_20 ?l20 ?c20 ?k20 ?a21 ?i21 ?l21 ?c21 ?k21 ?a22 ?i22 ?l22 ?c22 ?k22 ?a23 ?i23 ?l23 ?c23 ?k23 ?a24 ?i24 ?l24 ?c24 ?k24 ?a25 ?i25 ?l25 ?c25 ?k25 ?a26 ?i26 ?l26 ?c26 ?k26 ?a27 ?ti27 ?l27 ?c27 ?k27 ?a28 ?i28 ?l28 ?c28 ?k28 ?a29 ?l29 ?c29 ?k29 ?a30 ?l30 ?c30 ?k30 ?a31 ?l31 ?c31 ?k31 ?a32 ?l32 ?c32 ?k32 ?a33 ?l33 ?c33 ?k33 ?a34 ?l34 ?c34 ?k34 ?a35 ?l35 ?c35 ?k35 ?a36 ?l36 ?c36 ?k36 ?a37 ?l37 ?c37 ?k37 ?a38 ?l38 ?c38 ?k38 ?a39 ?i39 ?l39 ?c39 ?k39 ?a40 ?l40 ?c40 ?k40 ?a41 ?l41 ?c41 ?k41 ?a42 ?l42 ?c42 ?k42 ?a43 ?l43 ?c43 ?k43 ?a44 ?l44 ?c44 ?k44 ?pg0 ?hd0 ?po0 ?sa0 ?mk0 ?kc0 ?x0_writer ?x0_closed ?pg1 ?hd1 ?po1 ?sa1 ?mk1 ?kc1 ?x1_cells ?x1_places ?x1_done ?x1_names ?x1_steps ?x1_reports ?pg2 ?hd2 ?po2 ?sa2 ?mk2 ?kc2 ?x2__walk ?x2__marks ?pg3 ?hd3 ?po3 ?sa3 ?mk3 ?kc3 ?x3__run ?z_bool ?z_enumerate ?z_int ?z_isinstance ?z_len ?z_list ?z_max ?z_min ?z_range ?z_str ?z_zip ?q0 ?q1 ?q2 ?q3 ?q4 ?q5 ?kq_PLAIN_ACTIONS ?kl_PLAIN_ACTIONS ?kw_PLAIN_ACTIONS ?kq_PROCESS_ACTIONS ?kl_PROCESS_ACTIONS ?kw_PROCESS_ACTIONS ?kq_QUESTIONS ?kl_QUESTIONS ?kw_QUESTIONS
    (case ac0 => k_is)
    (case ac1 => k_is)
    (case ac2 => k_is)
    (case ac3 => k_is)
    (case a0 => k_is)
    (case l0 => k_is)
    (case c0 => k_is)
    (case k0 => k_is)
    (case a1 => k_is)
    (case l1 => k_is)
    (case c1 => k_is)
    (case k1 => k_is)
    (case a2 => k_is)
    (case l2 => k_is)
    (case c2 => k_is)
    (case k2 => k_is)
    (case a3 => k_is)
    (case l3 => k_is)
    (case c3 => k_is)
    (case k3 => k_is)
    (case a4 => k_is)
    (case l4 => k_is)
    (case c4 => k_is)
    (case k4 => k_is)
    (case a5 => k_is)
    (case l5 => k_is)
    (case c5 => k_is)
    (case k5 => k_is)
    (case a6 => k_is)
    (case i6 => k_is)
    (case l6 => k_is)
    (case c6 => k_is)
    (case k6 => k_is)
    (case a7 => k_is)
    (case i7 => k_is)
    (case l7 => k_is)
    (case c7 => k_is)
    (case k7 => k_is)
    (case a8 => k_is)
    (case i8 => k_is)
    (case l8 => k_is)
    (case c8 => k_is)
    (case k8 => k_is)
    (case a9 => k_is)
    (case i9 => k_is)
    (case l9 => k_is)
    (case c9 => k_is)
    (case k9 => k_is)
    (case a10 => k_is)
    (case i10 => k_is)
    (case l10 => k_is)
    (case c10 => k_is)
    (case k10 => k_is)
    (case a11 => k_is)
    (case i11 => k_is)
    (case l11 => k_is)
    (case c11 => k_is)
    (case k11 => k_is)
    (case a12 => k_is)
    (case i12 => k_is)
    (case l12 => k_is)
    (case c12 => k_is)
    (case k12 => k_is)
    (case a13 => k_is)
    (case l13 => k_is)
    (case c13 => k_is)
    (case k13 => k_is)
    (case a14 => k_is)
    (case l14 => k_is)
    (case c14 => k_is)
    (case k14 => k_is)
    (case a15 => k_is)
    (case l15 => k_is)
    (case c15 => k_is)
    (case k15 => k_is)
    (case a16 => k_is)
    (case l16 => k_is)
    (case c16 => k_is)
    (case k16 => k_is)
    (case a17 => k_is)
    (case pg_17 => k_is)
    (case pt_17 => k_is)
    (case pc_17 => k_is)
    (case l17 => k_is)
    (case c17 => k_is)
    (case k17 => k_is)
    (case a18 => k_is)
    (case pg_18 => k_is)
    (case pt_18 => k_is)
    (case pc_18 => k_is)
    (case l18 => k_is)
    (case c18 => k_is)
    (case k18 => k_is)
    (case a19 => k_is)
    (case pg_19 => k_is)
    (case pt_19 => k_is)
    (case pc_19 => k_is)
    (case l19 => k_is)
    (case c19 => k_is)
    (case k19 => k_is)
    (case a20 => k_is)
    (case pg_20 => k_is)
    (case pt_20 => k_is)
    (case pc_20 => k_is)
    (case l20 => k_is)
    (case c20 => k_is)
    (case k20 => k_is)
    (case a21 => k_is)
    (case i21 => k_is)
    (case l21 => k_is)
    (case c21 => k_is)
    (case k21 => k_is)
    (case a22 => k_is)
    (case i22 => k_is)
    (case l22 => k_is)
    (case c22 => k_is)
    (case k22 => k_is)
    (case a23 => k_is)
    (case i23 => k_is)
    (case l23 => k_is)
    (case c23 => k_is)
    (case k23 => k_is)
    (case a24 => k_is)
    (case i24 => k_is)
    (case l24 => k_is)
    (case c24 => k_is)
    (case k24 => k_is)
    (case a25 => k_is)
    (case i25 => k_is)
    (case l25 => k_is)
    (case c25 => k_is)
    (case k25 => k_is)
    (case a26 => k_is)
    (case i26 => k_is)
    (case l26 => k_is)
    (case c26 => k_is)
    (case k26 => k_is)
    (case a27 => k_is)
    (case ti27 => k_is)
    (case l27 => k_is)
    (case c27 => k_is)
    (case k27 => k_is)
    (case a28 => k_is)
    (case i28 => k_is)
    (case l28 => k_is)
    (case c28 => k_is)
    (case k28 => k_is)
    (case a29 => k_is)
    (case l29 => k_is)
    (case c29 => k_is)
    (case k29 => k_is)
    (case a30 => k_is)
    (case l30 => k_is)
    (case c30 => k_is)
    (case k30 => k_is)
    (case a31 => k_is)
    (case l31 => k_is)
    (case c31 => k_is)
    (case k31 => k_is)
    (case a32 => k_is)
    (case l32 => k_is)
    (case c32 => k_is)
    (case k32 => k_is)
    (case a33 => k_is)
    (case l33 => k_is)
    (case c33 => k_is)
    (case k33 => k_is)
    (case a34 => k_is)
    (case l34 => k_is)
    (case c34 => k_is)
    (case k34 => k_is)
    (case a35 => k_is)
    (case l35 => k_is)
    (case c35 => k_is)
    (case k35 => k_is)
    (case a36 => k_is)
    (case l36 => k_is)
    (case c36 => k_is)
    (case k36 => k_is)
    (case a37 => k_is)
    (case l37 => k_is)
    (case c37 => k_is)
    (case k37 => k_is)
    (case a38 => k_is)
    (case l38 => k_is)
    (case c38 => k_is)
    (case k38 => k_is)
    (case a39 => k_is)
    (case i39 => k_is)
    (case l39 => k_is)
    (case c39 => k_is)
    (case k39 => k_is)
    (case a40 => k_is)
    (case l40 => k_is)
    (case c40 => k_is)
    (case k40 => k_is)
    (case a41 => k_is)
    (case l41 => k_is)
    (case c41 => k_is)
    (case k41 => k_is)
    (case a42 => k_is)
    (case l42 => k_is)
    (case c42 => k_is)
    (case k42 => k_is)
    (case a43 => k_is)
    (case l43 => k_is)
    (case c43 => k_is)
    (case k43 => k_is)
    (case a44 => k_is)
    (case l44 => k_is)
    (case c44 => k_is)
    (case k44 => k_is)
    (case pg0 => k_is)
    (case hd0 => k_is)
    (case po0 => k_is)
    (case sa0 => k_is)
    (case mk0 => k_is)
    (case kc0 => k_is)
    (case x0_writer => k_is)
    (case x0_closed => k_is)
    (case pg1 => k_is)
    (case hd1 => k_is)
    (case po1 => k_is)
    (case sa1 => k_is)
    (case mk1 => k_is)
    (case kc1 => k_is)
    (case x1_cells => k_is)
    (case x1_places => k_is)
    (case x1_done => k_is)
    (case x1_names => k_is)
    (case x1_steps => k_is)
    (case x1_reports => k_is)
    (case pg2 => k_is)
    (case hd2 => k_is)
    (case po2 => k_is)
    (case sa2 => k_is)
    (case mk2 => k_is)
    (case kc2 => k_is)
    (case x2__walk => k_is)
    (case x2__marks => k_is)
    (case pg3 => k_is)
    (case hd3 => k_is)
    (case po3 => k_is)
    (case sa3 => k_is)
    (case mk3 => k_is)
    (case kc3 => k_is)
    (case x3__run => k_is)
    (case z_bool => k_is)
    (case z_enumerate => k_is)
    (case z_int => k_is)
    (case z_isinstance => k_is)
    (case z_len => k_is)
    (case z_list => k_is)
    (case z_max => k_is)
    (case z_min => k_is)
    (case z_range => k_is)
    (case z_str => k_is)
    (case z_zip => k_is)
    (case q0 => k_is)
    (case q1 => k_is)
    (case q2 => k_is)
    (case q3 => k_is)
    (case q4 => k_is)
    (case q5 => k_is)
    (case kq_PLAIN_ACTIONS => k_is)
    (case kl_PLAIN_ACTIONS => k_is)
    (case kw_PLAIN_ACTIONS => first | rfl | decide)
    (case kq_PROCESS_ACTIONS => k_is)
    (case kl_PROCESS_ACTIONS => k_is)
    (case kw_PROCESS_ACTIONS => first | rfl | decide)
    (case kq_QUESTIONS => k_is)
    (case kl_QUESTIONS => k_is)
    (case kw_QUESTIONS => first | rfl | decide)

