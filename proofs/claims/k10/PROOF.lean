import PyProof.Rows.All
import Wide.All
import OpenK.AllK
import Wide.FinOn
import PyProof.ReprRoads
import HandS.ForMost
import HandS.ForExc
import HandS.Wide
import HandS.EndBits
import HandS.FStrTup
import HandS.Flow
import HandS.IsInst
import HandS.SetFor
import HandS.Conv
import HandS.Style
import HandS.Sort
import PyProof.StrBlock2
import HandS.Text
import HandS.StrMore
import HandS.Property
import HandS.MethStar
import HandS.ClsMeth
import HandS.WordsExc
import HandS.ExcOwn
import HandS.RaiseMore
import HandS.FStr
import HandS.TryOnly
import HandS.ExcIs
import HandS.NoneIn
import KE.DataMinMax
import Flt.Sum
import PySem.Challenge.RW_splitnames_k10_names_that_are_reached
set_option Elab.async false
set_option linter.all false
set_option maxRecDepth 100000
set_option maxHeartbeats 2000000
namespace Vg
open PySem PySem.Spec PyProof.Rows L2

/-- a def's promise where no repr is under way around the call -/
structure Fg (P : Program) (w : World) (K : PySem.W.Frag) (mg : Str → Option Value) (bs : Heap) (C : CXT) (n : Nat) (f : Addr) (fd : FuncData) (ps : List Str) (sp : Sp) : Prop where
  ar : ∀ vs H Q E, sp vs H Q E → vs.length = ps.length
  go : ∀ (A : Around) (fr : List Env) (s : Shared) (H : Hp) (gs : Args) (us : List Value) (vs : List V) (Q : VK) (E : XK), A.guards = some [] → Room n A → Env0 P w K mg bs A fr s H →
    BindsTo s fd gs (ps.zip us) → Vals vs us → sp vs H Q E → codeAny (model P w) A (.call (.ref f) gs) (CR C fr P w H s Q E) s

section
variable {P : Program} {w : World} {K : PySem.W.Frag} {mg : Str → Option Value} {bs : Heap} {C : CXT} {n : Nat} {f : Addr} {fd : FuncData} {ps : List Str} {sp : Sp}
theorem Fg.up {m : Nat} (F : Fg P w K mg bs C n f fd ps sp) (h : n ≤ m) : Fg P w K mg bs C m f fd ps sp :=
  ⟨F.ar, fun A fr s H gs us vs Q E g r => F.go A fr s H gs us vs Q E g (r.mono h)⟩
theorem Fg.weaker {sq : Sp} (F : Fg P w K mg bs C n f fd ps sp) (h : ∀ vs H Q E, sq vs H Q E → sp vs H Q E) : Fg P w K mg bs C n f fd ps sq :=
  ⟨fun vs H Q E q => F.ar vs H Q E (h _ _ _ _ q), fun A fr s H gs us vs Q E g r e b v q => F.go A fr s H gs us vs Q E g r e b v (h _ _ _ _ q)⟩

/-- from a body's reading -/
theorem Fg.mk' {N : List Str} {nm qual : Str} {pr : Arguments} {body : List Stmt} {sc : Scope} {dV kV doc pm cdv ct oc : Value} {an od : Option Addr} {osl : Array (Option Value)}
    (lk : K.lookup f = some ⟨oc, od, .func (PySem.W.fnOf nm qual pr body sc dV kV doc pm an cdv ct), osl⟩) (hc : PySem.W.codeIn K cdv qual = true) (S : FnScope N ps sc)
    (ar : ∀ vs H Q E, sp vs H Q E → vs.length = ps.length)
    (hb : ∀ (A : Around) (fr : List Env) (s : Shared) (H : Hp) (vs : List V) (Q : VK) (E : XK), A.guards = some [] → Room n (A.deeper (envOfC qual sc s.heap.objs.size f cdv)) → sp vs H Q E →
      ∃ t, PSs (cxOf C P w K mg bs N qual sc f cdv A fr s H E) body t ∧ t { nx := fun _ H' => Q .non H', rt := Q } (start N vs) H) :
    Fg P w K mg bs C (n + 1) f (PySem.W.fnOf nm qual pr body sc dV kV doc pm an cdv ct) ps sp := by
  refine ⟨ar, fun A fr s H gs us vs Q E hg rm e0 bd rv q => ?_⟩
  have ln := ar _ _ _ _ q
  have kx : K.In s.heap := e0.mod.kin.keeps (fun b o z => (e0.bs b o z).1)
  have nl : s.heap.NoLimit := e0.mod.nolimit.keeps (fun b o z => (e0.bs b o z).1)
  have kd : ∀ y ∈ ps.zip us, sc.names.lookup y.1 = some .local ∨ (sc.names.lookup y.1 = some .cell ∧ ((cellsFrom (s.heap.objs.size + 1) sc.names []).lookup y.1).isSome = true) := by
    rintro ⟨y, v⟩ hy
    cases S.par y (List.of_mem_zip hy).1 with
    | inl z => exact Or.inl z
    | inr z => exact Or.inr ⟨z, PySem.W.cellsFrom_some _ _ _ (Or.inl z)⟩
  refine codeAny_call_function rm.depth (kx _ _ lk) rfl S.co S.gen rfl (PySem.W.codeRec_of kx hc) (bd _ _ _ _ ?_)
  refine wpAny_newFunctionEnv_cells S.kind kd fun en he s1 x => ?_
  subst he
  refine ⟨nl.keeps x.toInCall.keep, codeAny_func ?_⟩
  obtain ⟨t, ht, hq⟩ := hb A fr s H vs Q E hg (rm.deeper _) q
  have I : Inv (cxOf C P w K mg bs N qual sc f cdv A fr s H E) [] (start N vs) H s1 := inv_start S rm.hd e0 ln rv x
  refine wpAny_mono (ht.run [] s1 (start N vs) H _ I hq) (fun fl s' z => ?_) fun e s' z => z
  cases fl with
  | ret u =>
    obtain ⟨v, σ', H', J, r, q'⟩ := z
    exact ⟨v, H', J.os, J.bare, J.base, J.hok, r, q'⟩
  | next =>
    obtain ⟨σ', H', J, q'⟩ := z
    exact ⟨V.non, H', J.os, J.bare, J.base, J.hok, rfl, q'⟩
  | brk => exact z.elim fun _ z => z.elim fun _ z => z.2.elim
  | cont => exact z.elim fun _ z => z.elim fun _ z => z.2.elim
/-- a def of the text; the body may raise -/
theorem okX {N : List Str} {x qual : Str} {st : Stmt} (F : Fun K x qual st f fd) (S : FnScope N ps (defScope st)) (ar : ∀ vs H Q E, sp vs H Q E → vs.length = ps.length)
    (hb : ∀ (cdv : Value) (A : Around) (fr : List Env) (s : Shared) (H : Hp) (vs : List V) (Q : VK) (E : XK), A.guards = some [] → Room n (A.deeper (envOfC qual (defScope st) s.heap.objs.size f cdv)) → sp vs H Q E →
      ∃ t, PSs (cxOf C P w K mg bs N qual (defScope st) f cdv A fr s H E) (defBody st) t ∧ t { nx := fun _ H' => Q .non H', rt := Q } (start N vs) H) : Fg P w K mg bs C (n + 1) f fd ps sp := by
  obtain ⟨oc, od, kV, doc, pm, an, cdv, ct, osl, rfl, lk, hc⟩ := F.ex
  exact Fg.mk' lk hc S ar fun A fr s H vs Q E => hb cdv A fr s H vs Q E
/-- a def of the text that lets nothing out -/
theorem ok {N : List Str} {x qual : Str} {st : Stmt} (F : Fun K x qual st f fd) (S : FnScope N ps (defScope st)) (ar : ∀ vs H Q E, sp vs H Q E → vs.length = ps.length)
    (hb : ∀ (cdv : Value) (A : Around) (fr : List Env) (s : Shared) (H : Hp) (vs : List V) (Q : VK) (E : XK), A.guards = some [] → Room n (A.deeper (envOfC qual (defScope st) s.heap.objs.size f cdv)) → sp vs H Q E →
      ∃ t, PSs (cxOf CX0 P w K mg bs N qual (defScope st) f cdv A fr s H E).nox (defBody st) t ∧ t { nx := fun _ H' => Q .non H', rt := Q } (start N vs) H) : Fg P w K mg bs CX0 (n + 1) f fd ps sp := by
  obtain ⟨oc, od, kV, doc, pm, an, cdv, ct, osl, rfl, lk, hc⟩ := F.ex
  refine Fg.mk' lk hc S ar fun A fr s H vs Q E g r q => ?_
  obtain ⟨t, h1, h2⟩ := hb cdv A fr s H vs Q E g r q
  exact ⟨t, h1.nox, h2⟩
end

section
variable {X : Cx} {C : CXT} {n : Nat} {f : Addr} {fd : FuncData} {ps : List Str} {sp : Sp} {dvs : List V} {ds : List Value} {E : XK} {x m : Str} {p pos apos : Pos} {e o : Expr} {es : List Expr} {ta : TE} {t : TA}
theorem goS {pins : List (Addr × Obj)} {σ : L2.St} {H : Hp} {s : Shared} {Q : VK} {us : List Value} {vs : List V} (F : Fg X.prog X.w X.K X.mg X.base C n f fd ps sp) (g : X.A.guards = some []) (r : Room n X.A)
    (b : Binds X.K fd ps ds) (d : Vals dvs ds) {E : XK} (hx : PassesAt C X σ E) (I : Inv X pins σ H s) (v : Vals vs us) (h : sp (vs ++ dvs) H Q E) : wpAny (model X.prog X.w) X.A (call (.ref f) us) (EP X pins σ Q) X.xe s := by
  have v2 : Vals (vs ++ dvs) (us ++ ds) := v.append d
  have hl : (us ++ ds).length = ps.length := v2.length ▸ F.ar _ _ _ _ h
  refine wpAny_call (codeAny_mono (F.go X.A X.stack s H ⟨us, []⟩ (us ++ ds) (vs ++ dvs) Q E g r I.env0 (b s us I.kIn hl) v2 h) fun z s' hz => ?_)
  match z, hz with
  | .error e, hz => exact hx pins H s e s' I hz
  | .ok (.ret u), hz => exact I.after hz
/-- f(..) -/
def tG (sp : Sp) (dvs : List V) (E : L2.St → XK) (t : TA) : TE := fun σ H Q => t σ H fun vs H1 => sp (vs ++ dvs) H1 Q (E σ)
def tMG (C : Addr) (m : Str) (sp : Sp) (dvs : List V) (E : L2.St → XK) (ta : TE) (t : TA) : TE := fun σ H Q => ta σ H fun x H1 => ∃ a dx fs, x = .ref a ∧ H1 a = some (.ins C dx fs) ∧ fs.lookup m = none ∧
  t σ H1 fun vs H2 => sp (x :: (vs ++ dvs)) H2 Q (E σ)
theorem passG {X : Cx} {σ : L2.St} : PassesAt CX0 X σ E0 := fun _ _ _ _ _ _ h => h.elim
theorem pg_call {E : L2.St → XK} (F : Fg X.prog X.w X.K X.mg X.base C n f fd ps sp) (g : X.A.guards = some []) (r : Room n X.A) (hg : Gl X x) (hm : X.mg x = some (.ref f)) (hk : PySem.W.keepIn X.K (.ref f) = true)
    (b : Binds X.K fd ps ds) (d : Vals dvs ds) (hx : ∀ σ, PassesAt C X σ (E σ)) (ha : PA X (e :: es) t) (hdb : (x == ("__debug__" : Str)) = false := by decide)
    (he : starEach (e :: es) X.env = (false, eval e X.env) :: starEach es X.env := by rfl) (hp : (backTo pos (starEach es X.env)).any (·.1) = false := by rfl) :
    PE X (.Call (.Name x p) (e :: es) [] pos) (tG sp dvs E t) := by
  refine ⟨fun pins s σ H Q I h => ?_⟩
  refine wpAny_Call_Name_kw (ld_glob I hg hm (PySem.W.callWith_K (h₀ := X.base) I.ok.mod.kin hk (thn (ha.run pos pins s σ H _ I h) ?_) he hp) hdb)
  rintro us s1 ⟨vs, H1, J, v, q⟩
  exact ⟨J.kIn, goS F g r b d (hx σ) J v q⟩
theorem pg_call0 {E : L2.St → XK} (F : Fg X.prog X.w X.K X.mg X.base C n f fd ps sp) (g : X.A.guards = some []) (r : Room n X.A) (hg : Gl X x) (hm : X.mg x = some (.ref f)) (hk : PySem.W.keepIn X.K (.ref f) = true)
    (b : Binds X.K fd ps ds) (d : Vals dvs ds) (hx : ∀ σ, PassesAt C X σ (E σ)) (hdb : (x == ("__debug__" : Str)) = false := by decide) : PE X (.Call (.Name x p) [] [] pos) (tG sp dvs E tNil) := by
  refine ⟨fun pins s σ H Q I h => ?_⟩
  exact wpAny_Call_Name_kw (ld_glob I hg hm (PySem.W.callWith_K0 I.kIn hk (goS (us := []) F g r b d (hx σ) I .nil h)) hdb)
theorem pg_meth {Cl : Addr} {E : L2.St → XK} {pl : Sem Bool} (he : PE X o ta) (c : Cls X.K Cl) (hm : Meth X.K Cl m f) (F : Fg X.prog X.w X.K X.mg X.base C n f fd ps sp) (g : X.A.guards = some []) (r : Room n X.A)
    (b : Binds X.K fd ps ds) (d : Vals dvs ds) (hx : ∀ σ, PassesAt C X σ (E σ)) (ha : PA X (e :: es) t)
    (hst : starEach (e :: es) X.env = (false, eval e X.env) :: starEach es X.env := by rfl) (hp : (backTo pos (starEach es X.env)).any (·.1) = false := by rfl)
    (ht : eval (.Call (.Attribute o m apos) (e :: es) [] pos) X.env = (do
      let ov ← eval o X.env
      standAt apos.atName
      let (f, first) ← holding [ov] (getMethod ov m pl)
      callWith pos f first (backTo pos (starEach (e :: es) X.env)) (backToKw pos (keywordEach [] X.env))) := by rfl) :
    PE X (.Call (.Attribute o m apos) (e :: es) [] pos) (tMG Cl m sp dvs E ta t) := by
  refine ⟨fun pins s σ H Q I h => ?_⟩
  refine PySem.W.methodCall_KW (pl := pl) (thn (he.run pins s σ H _ I h) ?_) ht
  rintro u s1 ⟨y, H1, J, ry, a, dx, fs, ey, ea, l, q⟩
  subst ey
  obtain rfl : u = Value.ref a := ry
  refine getmeth_ok J ea c hm l (PySem.W.callWith_K (first := [.ref a]) (h₀ := X.base) I.ok.mod.kin hm.kp (thn (ha.run pos pins s1 σ H1 _ J q) ?_) hst hp)
  rintro us s2 ⟨vs, H2, J2, v, q2⟩
  exact ⟨J2.kIn, goS (us := .ref a :: us) (vs := .ref a :: vs) F g r b d (hx σ) J2 (.cons rfl v) q2⟩
theorem pg_meth0 {Cl : Addr} {E : L2.St → XK} {pl : Sem Bool} (he : PE X o ta) (c : Cls X.K Cl) (hm : Meth X.K Cl m f) (F : Fg X.prog X.w X.K X.mg X.base C n f fd ps sp) (g : X.A.guards = some []) (r : Room n X.A)
    (b : Binds X.K fd ps ds) (d : Vals dvs ds) (hx : ∀ σ, PassesAt C X σ (E σ))
    (ht : eval (.Call (.Attribute o m apos) [] [] pos) X.env = (do
      let ov ← eval o X.env
      standAt apos.atName
      let (f, first) ← holding [ov] (getMethod ov m pl)
      callWith pos f first (backTo pos (starEach [] X.env)) (backToKw pos (keywordEach [] X.env))) := by rfl) :
    PE X (.Call (.Attribute o m apos) [] [] pos) (tMG Cl m sp dvs E ta tNil) := by
  refine ⟨fun pins s σ H Q I h => ?_⟩
  refine PySem.W.methodCall_KW (pl := pl) (thn (he.run pins s σ H _ I h) ?_) ht
  rintro u s1 ⟨y, H1, J, ry, a, dx, fs, ey, ea, l, q⟩
  subst ey
  obtain rfl : u = Value.ref a := ry
  exact getmeth_ok J ea c hm l (PySem.W.callWith_K0 (first := [.ref a]) J.kIn hm.kp (goS (us := [.ref a]) (vs := [.ref a]) F g r b d (hx σ) J (.cons rfl .nil) q))
theorem make_guards {A : Around} {D : Addr} {us : List Value} {kw : List (Str × Value)} (g : A.guards = some []) : (A.under (.builtin "type.__call__" ⟨.ref D :: us, kw⟩)).guards = some [] := by
  first
  | exact g
  | (have h : (Code.builtin "type.__call__" ⟨.ref D :: us, kw⟩).guards = [] := by
       first | rfl | simp [Code.guards, Code.isGuard, guardIds]
     show pushGuards _ A.guards = _
     rw [h, g]; rfl)
/-- C(..) -/
def tKG (Cl : Addr) (sp : Sp) (dvs : List V) (E : L2.St → XK) (t : TA) : TE := fun σ H Q => t σ H fun vs H1 => ∀ x dx, H1 x = none → H1 dx = none → dx ≠ x →
  sp (.ref x :: (vs ++ dvs)) (upd (upd H1 dx (.own x)) x (.ins Cl dx [])) (fun v H2 => v = .non ∧ Q (.ref x) H2) (E σ)
theorem goK {Cl : Addr} {pins : List (Addr × Obj)} {σ : L2.St} {H : Hp} {s : Shared} {Q : VK} {us : List Value} {vs : List V} {E : XK} (M : Mk X.K Cl f) (F : Fg X.prog X.w X.K X.mg X.base C n f fd ps sp) (g : X.A.guards = some [])
    (r : Room (n + 1) X.A) (b : Binds X.K fd ps ds) (d : Vals dvs ds) (hx : PassesAt C X σ E) (I : Inv X pins σ H s) (v : Vals vs us)
    (h : ∀ x dx, H x = none → H dx = none → dx ≠ x → sp (.ref x :: (vs ++ dvs)) (upd (upd H dx (.own x)) x (.ins Cl dx [])) (fun v H2 => v = .non ∧ Q (.ref x) H2) E) :
    wpAny (model X.prog X.w) X.A (call (.ref Cl) us) (EP X pins σ Q) X.xe s := by
  have q := h (s.heap.objs.size + 1) s.heap.objs.size (I.hok.fresh (Nat.le_succ _)) (I.hok.fresh (Nat.le_refl _)) (Nat.ne_of_lt (Nat.lt_succ_self _))
  have J := Inv.made (C := Cl) I
  have v2 : Vals (V.ref (s.heap.objs.size + 1) :: (vs ++ dvs)) (Value.ref (s.heap.objs.size + 1) :: (us ++ ds)) := .cons rfl (v.append d)
  have hl : (Value.ref (s.heap.objs.size + 1) :: us ++ ds).length = ps.length := (v2.length.symm.trans (F.ar _ _ _ _ q) : _)
  refine wpAny_call (make_map (f := f) I.kIn M.makes M.init (beq_iff_eq.mp M.fn) (codeAny_mono (F.go _ X.stack _ _ ⟨Value.ref (s.heap.objs.size + 1) :: us, []⟩ (Value.ref (s.heap.objs.size + 1) :: (us ++ ds)) _ _ E
    (make_guards g) (r.make Cl us []) (J.env0.make Cl us []) (b _ (Value.ref (s.heap.objs.size + 1) :: us) J.kIn hl) v2 q) fun z s' hz => ?_))
  match z, hz with
  | .error e, hz => exact hx pins _ _ e s' J hz
  | .ok (.ret u), hz =>
    obtain ⟨y, H', J3, ry, ey, q3⟩ := J.after hz
    subst ey
    exact ⟨ry, ⟨V.ref (s.heap.objs.size + 1), H', J3, rfl, q3⟩⟩
theorem pg_make {Cl : Addr} {E : L2.St → XK} (M : Mk X.K Cl f) (F : Fg X.prog X.w X.K X.mg X.base C n f fd ps sp) (g : X.A.guards = some []) (r : Room (n + 1) X.A) (hg : Gl X x) (hm : X.mg x = some (.ref Cl))
    (b : Binds X.K fd ps ds) (d : Vals dvs ds) (hx : ∀ σ, PassesAt C X σ (E σ)) (ha : PA X (e :: es) t) (hdb : (x == ("__debug__" : Str)) = false := by decide)
    (he : starEach (e :: es) X.env = (false, eval e X.env) :: starEach es X.env := by rfl) (hp : (backTo pos (starEach es X.env)).any (·.1) = false := by rfl) :
    PE X (.Call (.Name x p) (e :: es) [] pos) (tKG Cl sp dvs E t) := by
  refine ⟨fun pins s σ H Q I h => ?_⟩
  refine wpAny_Call_Name_kw (ld_glob I hg hm (PySem.W.callWith_K (h₀ := X.base) I.ok.mod.kin M.kp (thn (ha.run pos pins s σ H _ I h) ?_) he hp) hdb)
  rintro us s1 ⟨vs, H1, J, v, q⟩
  exact ⟨J.kIn, goK M F g r b d (hx σ) J v q⟩
theorem pg_make0 {Cl : Addr} {E : L2.St → XK} (M : Mk X.K Cl f) (F : Fg X.prog X.w X.K X.mg X.base C n f fd ps sp) (g : X.A.guards = some []) (r : Room (n + 1) X.A) (hg : Gl X x) (hm : X.mg x = some (.ref Cl))
    (b : Binds X.K fd ps ds) (d : Vals dvs ds) (hx : ∀ σ, PassesAt C X σ (E σ)) (hdb : (x == ("__debug__" : Str)) = false := by decide) : PE X (.Call (.Name x p) [] [] pos) (tKG Cl sp dvs E tNil) := by
  refine ⟨fun pins s σ H Q I h => ?_⟩
  exact wpAny_Call_Name_kw (ld_glob I hg hm (PySem.W.callWith_K0 I.kIn M.kp (goK (us := []) M F g r b d (hx σ) I .nil h)) hdb)
end

/-! ### the law's own call -/
section
variable {P : Program} {w : World} {K : PySem.W.Frag} {mg mb : Str → Option Value} {C : CXT} {n : Nat} {fa a : Addr} {fd : FuncData} {x : Str} {sp : Sp} {s1 : Shared} {us : List Value} {ns : List Int}
/-- from an abstract heap that tracks the script at most -/
theorem law_from (H : Hp) (KX : K.In s1.heap) (n1 : s1.heap.Ns mainGlobals mg) (n2 : s1.heap.Ns builtinsNs mb) (n3 : ∀ x : Str, x ≠ "__name__" → mb x = bootBuiltins x) (n4 : s1.heap.NoLimit) (n5 : s1.gens = #[])
    (ha : s1.heap.get? a = some { cls := .type "list", data := .seq us.toArray }) (hr : Room n callerA)
    (F : ∀ bs : Heap, K.In bs → bs.Ns mainGlobals mg → (s1.heap.NoSeer → ∃ mm, bs.Ns sysModules mm) → Fg P w K mg bs C n fa fd [x] sp) (hb : ∀ (s : Shared) (u : Value), BindsTo s fd ⟨[u], []⟩ [(x, u)])
    (hO : Only H) (hok : HOk P w H s1.heap) (hA : ∀ b, H b ≠ none → b = a ∧ K.lookup a = none) (q : sp [.ref a] H (fun v _ => v = .bl true) fun _ _ _ => False)
    (hC : ∀ e s', C [] H s1 (fun _ _ _ => False) e s' → False) :
    codeAny (model P w) callerA (.call (.ref fa) ⟨[.ref a], []⟩) (fun r s' => r = .ok (.ret (.bool true)) ∧ OldK s1.heap s'.heap ∧ s'.os = s1.os ∧ AllBare s'.gens) s1 := by
  have nf : ∀ {b : Addr}, b ≠ a → H b = none := fun {b} hb => Classical.byContradiction fun z => hb (hA b z).1
  have und : ∀ {b : Addr} {o : Obj}, s1.heap.get? b = some o → H b = none → (hidT s1.heap H).get? b = some o := fun z1 z2 => hidT_get z1 z2
  have nd : ∀ {b : Addr} {o : Obj} {es : Array DictEntry} {ep : Nat}, s1.heap.get? b = some o → o.data = .dict es ep → H b = none := by
    intro b o es ep z1 z2
    refine nf fun e => ?_
    subst e
    rw [ha] at z1
    cases z1
    exact absurd z2 (by intro z; cases z)
  have nsH : ∀ {b : Addr} {m : Str → Option Value}, s1.heap.Ns b m → (hidT s1.heap H).Ns b m := fun ⟨o, es, ep, z1, z2, r⟩ => ⟨o, es, ep, und z1 (nd z1 z2), z2, r⟩
  have kH : K.In (hidT s1.heap H) := by
    intro b o z
    refine und (KX b o z) (Classical.byContradiction fun c => ?_)
    obtain ⟨e, l⟩ := hA b c
    rw [e, l] at z
    cases z
  have md : Mod K mg (hidT s1.heap H) := ⟨kH, nsH n1, ⟨mb, nsH n2, n3⟩, n4.elim fun mc z => ⟨mc, nsH z.1, z.2⟩⟩
  have e0 : Env0 P w K mg (hidT s1.heap H) callerA [] s1 H := ⟨rfl, md, fun b o z => of_hidT z, Nat.le_of_eq (hidT_size _ _), trivial, fun b z => (List.not_mem_nil z).elim, hok, AllBare.of_eq n5⟩
  refine codeAny_mono ((F _ kH (nsH n1) fun z => z.mods.elim fun mm h => ⟨mm, nsH h.1⟩).go callerA [] s1 H ⟨[.ref a], []⟩ [.ref a] [.ref a] _ _ rfl hr e0 (hb s1 (.ref a)) (.cons rfl .nil) q) fun r s' z => ?_
  match r, z with
  | .error e, z => exact (hC e s' z).elim
  | .ok (.ret u), ⟨v, H', o1, o2, un, hok', rv, ev⟩ =>
    have ev' : v = .bl true := ev
    subst ev'
    obtain rfl : u = Value.bool true := rv
    refine ⟨rfl, OldK.of_keep fun b o z => ?_, o1, o2⟩
    rcases hO b with c | ⟨ob, xs, c⟩
    · exact un.keep b o z c (fun y => (List.not_mem_nil y).elim) (fun y => (List.not_mem_nil y).elim)
    · obtain ⟨z1, _⟩ := hok b _ c
      obtain ⟨z2, _⟩ := hok' b _ (un.frzs b ob _ c)
      rw [z] at z1
      cases z1
      exact z2
theorem law_go (KX : K.In s1.heap) (n1 : s1.heap.Ns mainGlobals mg) (n2 : s1.heap.Ns builtinsNs mb) (n3 : ∀ x : Str, x ≠ "__name__" → mb x = bootBuiltins x) (n4 : s1.heap.NoLimit) (n5 : s1.gens = #[])
    (ha : s1.heap.get? a = some { cls := .type "list", data := .seq us.toArray }) (hi : IntsAre us ns) (hl : ns.length ≤ sizeLine) (hr : Room n callerA)
    (F : ∀ bs : Heap, K.In bs → bs.Ns mainGlobals mg → (s1.heap.NoSeer → ∃ mm, bs.Ns sysModules mm) → Fg P w K mg bs C n fa fd [x] sp) (hb : ∀ (s : Shared) (u : Value), BindsTo s fd ⟨[u], []⟩ [(x, u)])
    (q : ∀ H : Hp, Only H → SqL K H a (ns.map V.int) → sp [.ref a] H (fun v _ => v = .bl true) fun _ _ _ => False) (hC : ∀ H e s', C [] H s1 (fun _ _ _ => False) e s' → False) :
    codeAny (model P w) callerA (.call (.ref fa) ⟨[.ref a], []⟩) (fun r s' => r = .ok (.ret (.bool true)) ∧ OldK s1.heap s'.heap ∧ s'.os = s1.os ∧ AllBare s'.gens) s1 := by
  have lu := hi.length
  cases hk : K.lookup a with
  | some o =>
    have e := KX a o hk
    rw [ha] at e
    cases e
    have hO : Only (fun _ => none) := fun _ => Or.inl rfl
    refine law_from (fun _ => none) KX n1 n2 n3 n4 n5 ha hr F hb hO (fun b u z => (by cases z)) (fun b z => absurd rfl z) (q _ hO (Or.inr ⟨_, us.toArray, _, hk, rfl, rfl, rfl, ?_, ?_⟩)) fun e s' => hC _ e s'
    · rw [List.size_toArray, lu]
      exact hl
    · exact vals_ints hi
  | none =>
    let H0 : Hp := fun b => if b = a then some (.frz { cls := .type "list", data := .seq us.toArray } (.lst (ns.map V.int))) else none
    have h1 : H0 a = some (.frz { cls := .type "list", data := .seq us.toArray } (.lst (ns.map V.int))) := if_pos rfl
    have h2 : ∀ {b : Addr}, b ≠ a → H0 b = none := fun z => if_neg z
    have hO : Only H0 := fun b => by
      by_cases c : b = a
      · subst c
        exact Or.inr ⟨_, _, h1⟩
      · exact Or.inl (h2 c)
    refine law_from H0 KX n1 n2 n3 n4 n5 ha hr F hb hO (fun b u z => ?_) (fun b z => ⟨Classical.byContradiction fun c => z (h2 c), hk⟩) (q _ hO (Or.inl (Or.inr ⟨_, h1⟩))) fun e s' => hC _ e s'
    by_cases c : b = a
    · subst c
      cases h1.symm.trans z
      exact ⟨ha, by rw [List.length_map]; exact hl, us, _, vals_ints hi, ha⟩
    · cases (h2 c).symm.trans z
end
theorem walk_q {l : PySem.W.OpenLaw} {n k : Nat} {q : Program} {loose : List Str} {XP : (Str → Option Value) → Heap → Prop} {YP : World → Heap → Prop} {d : DefRec} {K : Params → PySem.W.Frag} {C : World → CXT} {sp : World → Sp} {x : Str}
    (hn : l.most = some n) (hn2 : n ≤ sizeLine) (hdf : d.params.defaults = []) (hr : Room k callerA) (hY : ∀ (w : World) (h : Heap), YP w h → (K w.params).In h)
    (F : ∀ (w : World) (mg : Str → Option Value) (fa : Addr) (h : Heap), (K w.params).In h → h.Ns mainGlobals mg → mg d.name = some (.ref fa) →
      ∃ fd : FuncData, (∀ (s : Shared) (u : Value), BindsTo s fd ⟨[u], []⟩ [(x, u)]) ∧ ∀ bs : Heap, (K w.params).In bs → bs.Ns mainGlobals mg → (PyProof.Rows.importsNone q = true → ∃ mm, bs.Ns sysModules mm) → Fg l.prog w (K w.params) mg bs (C w) k fa fd [x] (sp w))
    (hsp : ∀ (w : World) (H : Hp) (a : Addr) (ns : List Int), ns.length ≤ n → (∀ z ∈ ns, Builtin.Int.intBits z ≤ 1048576) → Only H → SqL (K w.params) H a (ns.map V.int) → sp w [.ref a] H (fun v _ => v = .bl true) fun _ _ _ => False)
    (hC : ∀ (w : World) (H : Hp) (s : Shared) (e : Value) (s' : Shared), C w [] H s (fun _ _ _ => False) e s' → False) :
    PySem.W.WalkO q loose XP YP l.row.toRowW d [] (fun f vs => PySem.call f vs) := by
  refine Att.attach_callB hn hdf fun w s0 s1 mg mb fa o pm cd doc a us ns G Y ho hd hcd hmg hobj hi hlen hbits hg => ?_
  obtain ⟨fd, hb, hF⟩ := F w mg fa _ (hY w _ Y) G.T.g hmg
  exact law_go (hY w _ Y) G.T.g G.T.b G.T.builtins G.T.nolimit hg hobj hi (Nat.le_trans hlen hn2) hr (fun bs h1 h2 h3 => hF bs h1 h2 fun z => h3 (G.T.seer z)) hb (fun H hO hS => hsp w H a ns hlen hbits hO hS) fun H e s' => hC w H s1 e s'
theorem walk_g {l : PySem.W.OpenLaw} {n k : Nat} {q : Program} {loose : List Str} {XP : (Str → Option Value) → Heap → Prop} {YP : World → Heap → Prop} {d : DefRec} {K : Params → PySem.W.Frag} {C : World → CXT} {sp : World → Sp} {x : Str}
    (hn : l.most = some n) (hn2 : n ≤ sizeLine) (hdf : d.params.defaults = []) (hr : Room k callerA) (hY : ∀ (w : World) (h : Heap), YP w h → (K w.params).In h)
    (F : ∀ (w : World) (mg : Str → Option Value) (fa : Addr) (h : Heap), (K w.params).In h → h.Ns mainGlobals mg → mg d.name = some (.ref fa) →
      ∃ fd : FuncData, (∀ (s : Shared) (u : Value), BindsTo s fd ⟨[u], []⟩ [(x, u)]) ∧ ∀ bs : Heap, (K w.params).In bs → bs.Ns mainGlobals mg → Fg l.prog w (K w.params) mg bs (C w) k fa fd [x] (sp w))
    (hsp : ∀ (w : World) (H : Hp) (a : Addr) (ns : List Int), ns.length ≤ n → (∀ z ∈ ns, Builtin.Int.intBits z ≤ 1048576) → Only H → SqL (K w.params) H a (ns.map V.int) → sp w [.ref a] H (fun v _ => v = .bl true) fun _ _ _ => False)
    (hC : ∀ (w : World) (H : Hp) (s : Shared) (e : Value) (s' : Shared), C w [] H s (fun _ _ _ => False) e s' → False) :
    PySem.W.WalkO q loose XP YP l.row.toRowW d [] (fun f vs => PySem.call f vs) :=
  walk_q hn hn2 hdf hr hY (fun w mg fa h h1 h2 h3 => let ⟨fd, hb, hF⟩ := F w mg fa h h1 h2 h3; ⟨fd, hb, fun bs k1 k2 _ => hF bs k1 k2⟩) hsp hC
end Vg


set_option Elab.async false
set_option linter.all false
set_option maxRecDepth 100000
set_option maxHeartbeats 2000000
namespace Vg
open PySem PySem.Spec PyProof.Rows L2

/-! ### how long a text repr gives -/
theorem lt_one {n : Nat} (ts : List Str) (h : ∀ t ∈ ts, t.length ≤ n) : piled ts ≤ ts.length * (n + 2) := by
  induction ts with
  | nil => exact Nat.zero_le _
  | cons t r ih =>
    have h1 := h t List.mem_cons_self
    have h2 := ih fun u hu => h u (List.mem_cons_of_mem _ hu)
    rw [piled_cons, List.length_cons, Nat.succ_mul]
    omega
theorem listText_le (ts : List Str) : (listText ts).length ≤ piled ts + 2 := by
  cases ts with
  | nil => exact Nat.le_refl _
  | cons t r =>
    have h := textFrom_length_pos r 1 (("[" : Str) ++ (if (0 : Nat) > 0 then ", " else "" : String) ++ t) (Nat.succ_pos 0)
    have e : (("[" : Str) ++ (if (0 : Nat) > 0 then ", " else "" : String) ++ t).length = 1 + t.length := by
      rw [strLen_append, strLen_append]; rfl
    have x : (listText (t :: r)).length = (textFrom 0 "[" (t :: r)).length + 1 := by
      show (textFrom 0 "[" (t :: r) ++ "]").length = _
      rw [strLen_append]; rfl
    have y : textFrom 0 "[" (t :: r) = textFrom 1 (("[" : Str) ++ (if (0 : Nat) > 0 then ", " else "" : String) ++ t) r := rfl
    rw [x, y, h, e, piled_cons]
    omega
theorem shownAll_map : ∀ ds : List PyData, PyData.shownAll ds = ds.map PyData.shown
  | [] => rfl
  | d :: r => by
    rw [PyData.shownAll, shownAll_map r]; rfl
theorem showableAll_all : ∀ ds : List PyData, (∀ d ∈ ds, d.showable = true) → PyData.showableAll ds = true
  | [], _ => rfl
  | d :: r, h => by
    rw [PyData.showableAll, h d List.mem_cons_self, showableAll_all r fun e he => h e (List.mem_cons_of_mem _ he)]; rfl
theorem hasDictAll_all : ∀ ds : List PyData, (∀ d ∈ ds, d.hasDict = false) → PyData.hasDictAll ds = false
  | [], _ => rfl
  | d :: r, h => by
    rw [PyData.hasDictAll, h d List.mem_cons_self, hasDictAll_all r fun e he => h e (List.mem_cons_of_mem _ he)]; rfl
theorem depthAll_le {k : Nat} : ∀ ds : List PyData, (∀ d ∈ ds, d.depth ≤ k) → PyData.depthAll ds ≤ k
  | [], _ => Nat.zero_le _
  | d :: r, h => by
    rw [PyData.depthAll]
    exact Nat.max_le.mpr ⟨h d List.mem_cons_self, depthAll_le r fun e he => h e (List.mem_cons_of_mem _ he)⟩
/-- data that repr writes in at most n signs, nested at most k deep -/
structure Shw (n k : Nat) (d : PyData) : Prop where
  sh : d.showable = true
  nd : d.hasDict = false
  dp : d.depth ≤ k
  sz : d.shown.length ≤ n
theorem Shw.up {n k m j : Nat} {d : PyData} (h : Shw n k d) (h1 : n ≤ m) (h2 : k ≤ j) : Shw m j d := ⟨h.sh, h.nd, Nat.le_trans h.dp h2, Nat.le_trans h.sz h1⟩
theorem Shw.non : Shw 4 1 .none := ⟨rfl, rfl, by decide +kernel, by decide +kernel⟩
theorem Shw.bl (b : Bool) : Shw 5 1 (.bool b) := by cases b <;> exact ⟨rfl, rfl, by decide +kernel, by decide +kernel⟩
theorem Shw.str (x : Str) (h : ∀ c ∈ x.cps.toList, c < 16 ^ 8) : Shw (10 * x.length + 2) 1 (.str x) := ⟨by rw [PyData.showable], by rw [PyData.hasDict], by simp [PyData.depth], by rw [PyData.shown]; exact StrLaws.reprText_len x h⟩
theorem Shw.int {k : Nat} {i : Int} (hk : 0 < k) (hk2 : k ≤ 1920) (h : i.natAbs < 2 ^ k) : Shw (k + 1) 1 (.int i) := by
  refine ⟨?_, by rw [PyData.hasDict], by simp [PyData.depth], ?_⟩
  · rw [PyData.showable]
    exact decide_eq_true (Nat.lt_of_lt_of_le (PySem.Flt.log2_lt_of hk h) hk2)
  · rw [PyData.shown]
    show (Str.ofString (toString i)).length ≤ _
    rw [PySem.ofString_length]
    exact int_text_length_le hk (PySem.Flt.log2_lt_of hk h)
theorem Shw.lst {n k : Nat} {ds : List PyData} (h : ∀ d ∈ ds, Shw n k d) : Shw (ds.length * (n + 2) + 2) (k + 1) (.list ds) := by
  refine ⟨?_, ?_, ?_, ?_⟩
  · rw [PyData.showable]
    exact showableAll_all ds fun d hd => (h d hd).sh
  · rw [PyData.hasDict]
    exact hasDictAll_all ds fun d hd => (h d hd).nd
  · simp only [PyData.depth]
    have := depthAll_le ds fun d hd => (h d hd).dp
    omega
  · rw [PyData.shown, shownAll_map]
    refine Nat.le_trans (listText_le _) ?_
    have := lt_one (n := n) (ds.map PyData.shown) (by
      intro t ht
      obtain ⟨d, hd, rfl⟩ := List.mem_map.mp ht
      exact (h d hd).sz)
    rw [List.length_map] at this
    omega
theorem Shw.tup {n k : Nat} {ds : List PyData} (h : ∀ d ∈ ds, Shw n k d) : Shw (ds.length * (n + 2) + 2) (k + 1) (.tuple ds) := by
  refine ⟨?_, ?_, ?_, ?_⟩
  · rw [PyData.showable]
    exact showableAll_all ds fun d hd => (h d hd).sh
  · rw [PyData.hasDict]
    exact hasDictAll_all ds fun d hd => (h d hd).nd
  · simp only [PyData.depth]
    have := depthAll_le ds fun d hd => (h d hd).dp
    omega
  · rw [PyData.shown, shownAll_map]
    refine Nat.le_trans (fmt_text _) ?_
    have := lt_one (n := n) (ds.map PyData.shown) (by
      intro t ht
      obtain ⟨d, hd, rfl⟩ := List.mem_map.mp ht
      exact (h d hd).sz)
    rw [List.length_map] at this
    omega

/-! ### repr -/
def rRepr (K : PySem.W.Frag) : List V → Hp → VK → Prop := fun xs H Q => ∃ x d, xs = [x] ∧ Dp K H x d ∧ Shw 16000000 60 d ∧ Q (.str d.shown) H
theorem call_repr {X : Cx} {n : Nat} (g : X.A.guards = some []) (r : Room n X.A) : CallR X (.builtin "repr") (rRepr X.K) := by
  intro pins s σ H xs us Q I rv h
  obtain ⟨x, d, rfl, hd, sw, q⟩ := h
  obtain ⟨u, rfl, ru⟩ := vals1 rv
  have hz : d.shown.length ≤ sizeLine := Nat.le_trans sw.sz (by decide)
  have hu := r.units
  cases hd with
  | non =>
    cases ru
    rw [PyData.shown] at q
    exact PySem.P.repr_of_none ⟨.str _, H, I.tok _, ⟨_, rfl⟩, q⟩
  | bl b =>
    cases ru
    rw [PyData.shown] at q
    exact PySem.P.repr_of_bool ⟨.str _, H, I.tok _, ⟨_, rfl⟩, q⟩
  | int i =>
    obtain ⟨t, rfl⟩ := ru
    have hs := sw.sh
    rw [PyData.showable] at hs
    rw [PyData.shown] at q
    exact PySem.P.repr_of_int (of_decide_eq_true hs) ⟨.str _, H, I.tok _, ⟨_, rfl⟩, q⟩
  | str y =>
    obtain ⟨t, rfl⟩ := ru
    rw [PyData.shown] at hz q
    exact PySem.P.repr_of_str ⟨.str _, H, I.tok _, ⟨_, rfl⟩, q⟩ hz
  | lst hs ha =>
    obtain rfl : u = Value.ref _ := ru
    obtain ⟨as, rd⟩ := Dp.reads I _ _ _ (Dp.lst hs ha) rfl
    refine repr_of_reads' rd sw.sh (fun z => by rw [sw.nd] at z; cases z) g (by have := sw.dp; omega) (fun _ _ z => z) (fun h' u tk hk => ?_) hz
    exact ⟨.str _, H, I.call' (s' := { s with heap := h', toks := tk }) (ch := []) rfl (Un.kept hk) (I.hok.kept hk) I.bare (fun b z => (List.not_mem_nil z).elim), ⟨u, rfl⟩, q⟩
  | tup hs ha =>
    obtain rfl : u = Value.ref _ := ru
    obtain ⟨as, rd⟩ := Dp.reads I _ _ _ (Dp.tup hs ha) rfl
    refine repr_of_reads' rd sw.sh (fun z => by rw [sw.nd] at z; cases z) g (by have := sw.dp; omega) (fun _ _ z => z) (fun h' u tk hk => ?_) hz
    exact ⟨.str _, H, I.call' (s' := { s with heap := h', toks := tk }) (ch := []) rfl (Un.kept hk) (I.hok.kept hk) I.bare (fun b z => (List.not_mem_nil z).elim), ⟨u, rfl⟩, q⟩

/-! ### x ** k of great numbers -/
theorem op_powW {X : Cx} : OpR X (binaryOp .Pow) (rI (fun i j => 0 ≤ j ∧ (Builtin.Int.intBits i : Int) * j ≤ 2 ^ 27) fun i j => .int (i ^ j.toNat)) := opI fun _ _ _ _ _ _ _ hc q => pow_int hc.1 hc.2 q
theorem bits_le {i : Int} {n : Nat} (hn : 0 < n) (h : i.natAbs < 2 ^ n) : Builtin.Int.intBits i ≤ n := by
  have := PySem.Flt.log2_lt_of hn h
  unfold Builtin.Int.intBits
  split <;> omega
end Vg


set_option Elab.async false
set_option linter.all false
set_option maxRecDepth 100000
set_option maxHeartbeats 2000000
namespace Vg
open PySem PySem.Spec PyProof.Rows L2

/-! ### the ledger: over a heap B that stands, what is owned -/
structure Led (B H : Hp) (l : List (Addr × HO)) : Prop where
  sm : Same B H
  nd : (l.map (·.1)).Nodup
  fr : ∀ e ∈ l, B e.1 = none
  hs : ∀ e ∈ l, H e.1 = some e.2
inductive Put : List (Addr × HO) → Addr → HO → List (Addr × HO) → Prop
  | hd {p : Addr} {o o' : HO} {l : List (Addr × HO)} : Put ((p, o) :: l) p o' ((p, o') :: l)
  | tl {e : Addr × HO} {p : Addr} {o' : HO} {l l' : List (Addr × HO)} : Put l p o' l' → Put (e :: l) p o' (e :: l')
/-- the entries of l' are, one by one, entries of l -/
inductive Pick : List (Addr × HO) → Addr × HO → List (Addr × HO) → Prop
  | hd {e : Addr × HO} {l : List (Addr × HO)} : Pick (e :: l) e l
  | tl {d e : Addr × HO} {l l' : List (Addr × HO)} : Pick l e l' → Pick (d :: l) e (d :: l')
inductive Sel : List (Addr × HO) → List (Addr × HO) → Prop
  | nil {l : List (Addr × HO)} : Sel l []
  | all {l : List (Addr × HO)} : Sel l l
  | cons {e : Addr × HO} {l r l' : List (Addr × HO)} : Pick l e r → Sel r l' → Sel l (e :: l')
  | skip {e : Addr × HO} {l l' : List (Addr × HO)} : Sel l l' → Sel (e :: l) l'
section
variable {B H : Hp} {l l' : List (Addr × HO)} {p q : Addr} {o o' : HO}
theorem Led.nil (H : Hp) : Led H H [] := ⟨Same.refl H, List.nodup_nil, fun _ h => (List.not_mem_nil h).elim, fun _ h => (List.not_mem_nil h).elim⟩
theorem Led.at (L : Led B H l) (h : (p, o) ∈ l) : H p = some o := L.hs _ h
theorem Led.seq {K : PySem.W.Frag} {a : Addr} {xs : List V} (L : Led B H l) (h : SqL K B a xs) : SqL K H a xs := L.sm.seq h
theorem Led.lstAt {K : PySem.W.Frag} {a : Addr} {xs : List V} (L : Led B H l) (h : (a, HO.lst xs) ∈ l) : SqL K H a xs := Or.inl (Or.inl (L.at h))
theorem Led.tupAt {K : PySem.W.Frag} {a : Addr} {xs : List V} (L : Led B H l) (h : (a, HO.tup xs) ∈ l) : SqT K H a xs := Or.inl (Or.inl (L.at h))
theorem Led.new (L : Led B H l) (h : H p = none) : Led B (upd H p o) ((p, o) :: l) := by
  have hb : B p = none := L.sm.free h
  have ne : ∀ e ∈ l, e.1 ≠ p := fun e he z => by
    have := L.hs e he
    rw [z, h] at this
    cases this
  refine ⟨fun a u z => ?_, ?_, fun e he => ?_, fun e he => ?_⟩
  · rw [upd_ne (ne_of_none (L.sm a u z) h)]
    exact L.sm a u z
  · rw [List.map_cons]
    refine List.nodup_cons.mpr ⟨fun z => ?_, L.nd⟩
    obtain ⟨e, he, e2⟩ := List.mem_map.mp z
    exact ne e he e2
  · rcases List.mem_cons.mp he with z | z
    · rw [z]; exact hb
    · exact L.fr e z
  · rcases List.mem_cons.mp he with z | z
    · rw [z]; exact upd_same
    · rw [upd_ne (ne e z)]; exact L.hs e z
theorem Put.map (h : Put l p o' l') : l'.map (·.1) = l.map (·.1) := by
  induction h with
  | hd => rfl
  | tl _ ih => rw [List.map_cons, List.map_cons, ih]
theorem Put.mem (h : Put l p o' l') : ∀ e ∈ l', e = (p, o') ∨ e ∈ l := by
  induction h with
  | hd => intro e he; exact (List.mem_cons.mp he).imp id fun z => List.mem_cons_of_mem _ z
  | tl _ ih =>
    intro e he
    rcases List.mem_cons.mp he with z | z
    · exact Or.inr (z ▸ List.mem_cons_self)
    · exact (ih e z).imp id fun z => List.mem_cons_of_mem _ z
theorem Put.of (h : Put l p o' l') : p ∈ l.map (·.1) := by
  induction h with
  | hd => exact List.mem_cons_self
  | tl _ ih => exact List.mem_cons_of_mem _ ih
theorem Put.pm (h : Put l p o' l') : (p, o') ∈ l' := by
  induction h with
  | hd => exact List.mem_cons_self
  | tl _ ih => exact List.mem_cons_of_mem _ ih
theorem mem_apart {l : List (Addr × HO)} (nd : (l.map (·.1)).Nodup) {e d : Addr × HO} (h1 : e ∈ l) (h2 : d ∈ l) (h : e.1 = d.1) : e = d := by
  induction l with
  | nil => cases h1
  | cons x r ih =>
    rw [List.map_cons] at nd
    obtain ⟨n1, n2⟩ := List.nodup_cons.mp nd
    rcases List.mem_cons.mp h1 with z1 | z1
    · rcases List.mem_cons.mp h2 with z2 | z2
      · rw [z1, z2]
      · exact (n1 (by rw [← z1, h]; exact List.mem_map_of_mem z2)).elim
    · rcases List.mem_cons.mp h2 with z2 | z2
      · exact (n1 (by rw [← z2, ← h]; exact List.mem_map_of_mem z1)).elim
      · exact ih n2 z1 z2
theorem Led.put (L : Led B H l) (h : Put l p o' l') : Led B (upd H p o') l' := by
  obtain ⟨e0, he0, e1⟩ := List.mem_map.mp h.of
  have hp : B p = none := by rw [← e1]; exact L.fr e0 he0
  have nd' : (l'.map (·.1)).Nodup := by rw [h.map]; exact L.nd
  have pm : (p, o') ∈ l' := h.pm
  refine ⟨fun a u z => ?_, nd', fun e he => ?_, fun e he => ?_⟩
  · rw [upd_ne (ne_of_none z hp)]
    exact L.sm a u z
  · rcases h.mem e he with z | z
    · rw [z]; exact hp
    · exact L.fr e z
  · by_cases c : e.1 = p
    · have e2 : e = (p, o') := mem_apart nd' he pm c
      rw [e2]; exact upd_same
    · rw [upd_ne c]
      rcases h.mem e he with z | z
      · exact absurd (by rw [z]) c
      · exact L.hs e z
theorem Pick.sub {e : Addr × HO} (h : Pick l e l') : (∀ d ∈ e :: l', d ∈ l) ∧ ((l.map (·.1)).Nodup → ((e :: l').map (·.1)).Nodup) := by
  induction h with
  | hd => exact ⟨fun _ h => h, fun h => h⟩
  | @tl d e l l' _ ih =>
    refine ⟨fun c hc => ?_, fun n => ?_⟩
    · rcases List.mem_cons.mp hc with z | z
      · exact List.mem_cons_of_mem _ (ih.1 c (z ▸ List.mem_cons_self))
      · rcases List.mem_cons.mp z with z | z
        · exact z ▸ List.mem_cons_self
        · exact List.mem_cons_of_mem _ (ih.1 c (List.mem_cons_of_mem _ z))
    · rw [List.map_cons] at n
      obtain ⟨n1, n2⟩ := List.nodup_cons.mp n
      have n3 := ih.2 n2
      rw [List.map_cons] at n3
      obtain ⟨n4, n5⟩ := List.nodup_cons.mp n3
      rw [List.map_cons, List.map_cons]
      refine List.nodup_cons.mpr ⟨fun z => ?_, List.nodup_cons.mpr ⟨fun z => ?_, n5⟩⟩
      · rcases List.mem_cons.mp z with z | z
        · exact n1 (by rw [← z]; exact List.mem_map_of_mem (ih.1 e List.mem_cons_self))
        · exact n4 z
      · obtain ⟨c, hc, ec⟩ := List.mem_map.mp z
        exact n1 (by rw [← ec]; exact List.mem_map_of_mem (ih.1 c (List.mem_cons_of_mem _ hc)))
theorem Sel.sub (h : Sel l l') : (∀ d ∈ l', d ∈ l) ∧ ((l.map (·.1)).Nodup → (l'.map (·.1)).Nodup) := by
  induction h with
  | nil => exact ⟨fun _ h => (List.not_mem_nil h).elim, fun _ => List.nodup_nil⟩
  | all => exact ⟨fun _ h => h, fun h => h⟩
  | @skip e l l' _ ih => exact ⟨fun d hd => List.mem_cons_of_mem _ (ih.1 d hd), fun n => ih.2 (by rw [List.map_cons] at n; exact (List.nodup_cons.mp n).2)⟩
  | @cons e l r l' hp hs ih =>
    obtain ⟨p1, p2⟩ := hp.sub
    refine ⟨fun d hd => ?_, fun n => ?_⟩
    · rcases List.mem_cons.mp hd with z | z
      · exact p1 d (z ▸ List.mem_cons_self)
      · exact p1 d (List.mem_cons_of_mem _ (ih.1 d z))
    · have n2 := p2 n
      rw [List.map_cons] at n2
      obtain ⟨n3, n4⟩ := List.nodup_cons.mp n2
      rw [List.map_cons]
      refine List.nodup_cons.mpr ⟨fun z => n3 ?_, ih.2 n4⟩
      obtain ⟨d, hd, ed⟩ := List.mem_map.mp z
      rw [← ed]; exact List.mem_map_of_mem (ih.1 d hd)
/-- keep some entries, in any order -/
theorem Led.sel (L : Led B H l) (h : Sel l l') : Led B H l' := ⟨L.sm, h.sub.2 L.nd, fun e he => L.fr e (h.sub.1 e he), fun e he => L.hs e (h.sub.1 e he)⟩
theorem Led.drop {n : Nat} (L : Led B H l) : Led B H (l.drop n) := ⟨L.sm, (L.nd.sublist ((List.drop_sublist n l).map _)), fun e he => L.fr e (List.mem_of_mem_drop he), fun e he => L.hs e (List.mem_of_mem_drop he)⟩
/-- what a callee, that was given H as a base, leaves -/
theorem Led.join {H' : Hp} {m : List (Addr × HO)} (L : Led B H l) (M : Led H H' m) : Led B H' (m ++ l) := by
  refine ⟨L.sm.trans M.sm, ?_, fun e he => ?_, fun e he => ?_⟩
  · rw [List.map_append]
    refine List.nodup_append.mpr ⟨M.nd, L.nd, fun a ha b hb z => ?_⟩
    obtain ⟨e, he, e1⟩ := List.mem_map.mp ha
    obtain ⟨d, hd, d1⟩ := List.mem_map.mp hb
    have h1 := M.fr e he
    have h2 := L.hs d hd
    rw [e1, z] at h1
    rw [d1, h1] at h2
    cases h2
  · rcases List.mem_append.mp he with z | z
    · exact L.sm.free (M.fr e z)
    · exact L.fr e z
  · rcases List.mem_append.mp he with z | z
    · exact M.hs e z
    · exact M.sm _ _ (L.hs e z)
theorem Led.same {H' : Hp} (L : Led B H l) (s : Same H H') : Led B H' l := ⟨L.sm.trans s, L.nd, L.fr, fun e he => s _ _ (L.hs e he)⟩
theorem Led.base {B' : Hp} (L : Led B H l) (h : Same B' B) : Led B' H l := ⟨h.trans L.sm, L.nd, fun e he => h.free (L.fr e he), L.hs⟩
theorem less_put {l : List (Addr × HO)} (L : Led B H ((p, o) :: l)) : Led (upd B p o) H l := by
  have nd := L.nd
  rw [List.map_cons] at nd
  obtain ⟨n1, n2⟩ := List.nodup_cons.mp nd
  refine ⟨fun a u z => ?_, n2, fun e he => ?_, fun e he => L.hs e (List.mem_cons_of_mem _ he)⟩
  · by_cases c : a = p
    · subst c
      rw [upd_same] at z
      cases z
      exact L.hs _ List.mem_cons_self
    · rw [upd_ne c] at z
      exact L.sm a u z
  · rw [upd_ne fun z => n1 (by rw [← z]; exact List.mem_map.mpr ⟨e, he, rfl⟩)]
    exact L.fr e (List.mem_cons_of_mem _ he)
/-- what will not change any more goes to the base -/
theorem Led.sink (L : Led B H ((p, o) :: l)) : ∃ B', Same B B' ∧ B' p = some o ∧ Led B' H l := ⟨upd B p o, fun a u z => by rw [upd_ne (ne_of_none z (L.fr _ List.mem_cons_self))]; exact z, upd_same, less_put L⟩
/-- the heap without what is owned -/
def less (H : Hp) (ps : List Addr) : Hp := fun a => if a ∈ ps then none else H a
theorem Led.ofLess {l : List (Addr × HO)} (n : (l.map (·.1)).Nodup) (h : ∀ e ∈ l, H e.1 = some e.2) : Led (less H (l.map (·.1))) H l := by
  refine ⟨fun a u z => ?_, n, fun e he => ?_, h⟩
  · unfold less at z
    split at z
    · cases z
    · exact z
  · unfold less
    rw [if_pos (List.mem_map_of_mem he)]
end

/-! ### the readings, one step each -/
/-- a new object -/
def NewK (o : HO) (H : Hp) (G : Addr → Hp → Prop) : Prop := ∀ p, H p = none → G p (upd H p o)
/-- a list's item, a tuple's -/
def IxLK (K : PySem.W.Frag) (p : Addr) (i : Int) (H : Hp) (G : V → Prop) : Prop := ∃ xs v, SqL K H p xs ∧ atI xs i = some v ∧ G v
def IxTK (K : PySem.W.Frag) (p : Addr) (i : Int) (H : Hp) (G : V → Prop) : Prop := ∃ xs v, SqT K H p xs ∧ atI xs i = some v ∧ G v
/-- p[i] = v, p.append(v), p.extend(q) -/
def SetK (p : Addr) (i : Int) (v : V) (H : Hp) (G : Hp → Prop) : Prop := ∃ xs j, H p = some (.lst xs) ∧ ixN xs.length i = some j ∧ G (upd H p (.lst (xs.set j v)))
def AppK (p : Addr) (v : V) (H : Hp) (G : Hp → Prop) : Prop := ∃ xs, H p = some (.lst xs) ∧ xs.length < sizeLine ∧ G (upd H p (.lst (xs ++ [v])))
def ExtK (p q : Addr) (H : Hp) (G : Hp → Prop) : Prop := ∃ xs ys, H p = some (.lst xs) ∧ H q = some (.lst ys) ∧ xs.length + ys.length ≤ sizeLine ∧ G (upd H p (.lst (xs ++ ys)))
def CatK (p q : Addr) (H : Hp) (G : Addr → Hp → Prop) : Prop := ∃ xs ys, H p = some (.lst xs) ∧ H q = some (.lst ys) ∧ xs.length + ys.length ≤ sizeLine ∧ NewK (.lst (xs ++ ys)) H G
def LenK (K : PySem.W.Frag) (p : Addr) (H : Hp) (G : Int → Prop) : Prop := ∃ xs : List V, (SqL K H p xs ∨ SqT K H p xs) ∧ G xs.length
/-- a tuple's items, n of them -/
def UnpK (K : PySem.W.Frag) (p : Addr) (n : Nat) (H : Hp) (G : List V → Prop) : Prop := ∃ xs, SqT K H p xs ∧ xs.length = n ∧ G xs
def IterLK (K : PySem.W.Frag) (p : Addr) (H : Hp) (G : Prop) : Prop := (∃ xs, SqL K H p xs) ∧ G
def SlLK (K : PySem.W.Frag) (p : Addr) (lo hi : Option Int) (H : Hp) (G : Addr → Hp → Prop) : Prop := ∃ xs, SqL K H p xs ∧ NewK (.lst (cutV xs lo hi)) H G
/-- repr(x) -/
def RepK (K : PySem.W.Frag) (x : V) (H : Hp) (G : Str → Prop) : Prop := ∃ d, Dp K H x d ∧ Shw 16000000 60 d ∧ G d.shown
def InK (K : PySem.W.Frag) (neg : Bool) (x : V) (p : Addr) (H : Hp) (G : Bool → Prop) : Prop := ∃ xs, (SqL K H p xs ∨ SqT K H p xs) ∧ flatV x = true ∧ xs.all flatV = true ∧ G (if neg then !inV x xs else inV x xs)
section
variable {K : PySem.W.Frag} {B H : Hp} {l l' : List (Addr × HO)} {p q : Addr} {o : HO} {i : Int} {v : V} {xs ys : List V} {n : Nat}
theorem NewK.of {G : Addr → Hp → Prop} (L : Led B H l) (k : ∀ p H1, Led B H1 ((p, o) :: l) → G p H1) : NewK o H G := fun p hp => k p _ (L.new hp)
theorem NewK.ofS {G : Addr → Hp → Prop} (k : ∀ p H1, Same H H1 → H p = none → H1 p = some o → G p H1) : NewK o H G := fun p hp => k p _ (fun a u z => by rw [upd_ne (ne_of_none z hp)]; exact z) hp upd_same
theorem IxLK.of {G : V → Prop} (h : SqL K H p xs) (a : atI xs i = some v) (k : G v) : IxLK K p i H G := ⟨xs, v, h, a, k⟩
theorem IxTK.of {G : V → Prop} (h : SqT K H p xs) (a : atI xs i = some v) (k : G v) : IxTK K p i H G := ⟨xs, v, h, a, k⟩
theorem SetK.of {G : Hp → Prop} {j : Nat} (L : Led B H l) (h : (p, HO.lst xs) ∈ l) (a : ixN xs.length i = some j) (t : Put l p (.lst (xs.set j v)) l') (k : ∀ H1, Led B H1 l' → G H1) : SetK p i v H G := ⟨xs, j, L.at h, a, k _ (L.put t)⟩
theorem AppK.of {G : Hp → Prop} (L : Led B H l) (h : (p, HO.lst xs) ∈ l) (a : xs.length < sizeLine) (t : Put l p (.lst (xs ++ [v])) l') (k : ∀ H1, Led B H1 l' → G H1) : AppK p v H G := ⟨xs, L.at h, a, k _ (L.put t)⟩
theorem ExtK.of {G : Hp → Prop} (L : Led B H l) (h : (p, HO.lst xs) ∈ l) (h2 : (q, HO.lst ys) ∈ l) (a : xs.length + ys.length ≤ sizeLine) (t : Put l p (.lst (xs ++ ys)) l') (k : ∀ H1, Led B H1 l' → G H1) : ExtK p q H G := ⟨xs, ys, L.at h, L.at h2, a, k _ (L.put t)⟩
theorem CatK.of {G : Addr → Hp → Prop} (L : Led B H l) (h : (p, HO.lst xs) ∈ l) (h2 : (q, HO.lst ys) ∈ l) (a : xs.length + ys.length ≤ sizeLine) (k : ∀ p H1, Led B H1 ((p, .lst (xs ++ ys)) :: l) → G p H1) : CatK p q H G := ⟨xs, ys, L.at h, L.at h2, a, NewK.of L k⟩
theorem LenK.ofL {G : Int → Prop} (h : SqL K H p xs) (k : G xs.length) : LenK K p H G := ⟨xs, Or.inl h, k⟩
theorem LenK.ofT {G : Int → Prop} (h : SqT K H p xs) (k : G xs.length) : LenK K p H G := ⟨xs, Or.inr h, k⟩
theorem UnpK.of {G : List V → Prop} (h : SqT K H p xs) (e : xs.length = n) (k : G xs) : UnpK K p n H G := ⟨xs, h, e, k⟩
theorem IterLK.of {G : Prop} (h : SqL K H p xs) (k : G) : IterLK K p H G := ⟨⟨xs, h⟩, k⟩
theorem SlLK.of {G : Addr → Hp → Prop} {lo hi : Option Int} (L : Led B H l) (h : SqL K H p xs) (k : ∀ p H1, Led B H1 ((p, .lst (cutV xs lo hi)) :: l) → G p H1) : SlLK K p lo hi H G := ⟨xs, h, NewK.of L k⟩
variable {Q : VK} {j : Int}
theorem x_I {C : Int → Int → Prop} {g : Int → Int → V} : rI C g (.int i) (.int j) H Q ↔ C i j ∧ Q (g i j) H := ⟨fun ⟨_, _, e1, e2, c, q⟩ => by cases e1; cases e2; exact ⟨c, q⟩, fun ⟨c, q⟩ => ⟨i, j, rfl, rfl, c, q⟩⟩
theorem x_I0 {g : Int → Int → V} : rI0 g (.int i) (.int j) H Q ↔ Q (g i j) H := ⟨fun ⟨_, _, e1, e2, q⟩ => by cases e1; cases e2; exact q, fun q => ⟨i, j, rfl, rfl, q⟩⟩
theorem x_U {g : Int → V} : rU g (.int i) H Q ↔ Q (g i) H := ⟨fun ⟨_, e1, q⟩ => by cases e1; exact q, fun q => ⟨i, rfl, q⟩⟩
theorem x_eq {x y : V} : rEq x y H Q ↔ scal x y = true ∧ Q (.bl (decide (x = y))) H := ⟨fun h => h, fun h => h⟩
theorem x_ne {x y : V} : rNe x y H Q ↔ scal x y = true ∧ Q (.bl (!decide (x = y))) H := ⟨fun h => h, fun h => h⟩
theorem x_ixL : rIxL K (.ref p) (.int i) H Q ↔ IxLK K p i H fun v => Q v H := ⟨fun ⟨_, xs, _, v, e1, e2, a, b, q⟩ => by cases e1; cases e2; exact ⟨xs, v, a, b, q⟩, fun ⟨xs, v, a, b, q⟩ => ⟨p, xs, i, v, rfl, rfl, a, b, q⟩⟩
theorem x_ixT : rIxT K (.ref p) (.int i) H Q ↔ IxTK K p i H fun v => Q v H := ⟨fun ⟨_, xs, _, v, e1, e2, a, b, q⟩ => by cases e1; cases e2; exact ⟨xs, v, a, b, q⟩, fun ⟨xs, v, a, b, q⟩ => ⟨p, xs, i, v, rfl, rfl, a, b, q⟩⟩
theorem x_setL {N : Hp → Prop} : rSetL (.ref p) (.int i) v H N ↔ SetK p i v H N := ⟨fun ⟨_, xs, _, j, e1, e2, a, b, q⟩ => by cases e1; cases e2; exact ⟨xs, j, a, b, q⟩, fun ⟨xs, j, a, b, q⟩ => ⟨p, xs, i, j, rfl, rfl, a, b, q⟩⟩
theorem x_app : rAppend (.ref p) [v] H Q ↔ AppK p v H fun H1 => Q .non H1 := ⟨fun ⟨_, xs, _, e1, e2, a, b, q⟩ => by cases e1; cases e2; exact ⟨xs, a, b, q⟩, fun ⟨xs, a, b, q⟩ => ⟨p, xs, v, rfl, rfl, a, b, q⟩⟩
theorem x_ext : rExtend (.ref p) [.ref q] H Q ↔ ExtK p q H fun H1 => Q .non H1 := ⟨fun ⟨_, _, xs, ys, e1, e2, a, b, c, q⟩ => by cases e1; cases e2; exact ⟨xs, ys, a, b, c, q⟩, fun ⟨xs, ys, a, b, c, q'⟩ => ⟨p, q, xs, ys, rfl, rfl, a, b, c, q'⟩⟩
theorem x_cat : rCat (.ref p) (.ref q) H Q ↔ CatK p q H fun r H1 => Q (.ref r) H1 := ⟨fun ⟨_, _, xs, ys, e1, e2, a, b, c, q⟩ => by cases e1; cases e2; exact ⟨xs, ys, a, b, c, q⟩, fun ⟨xs, ys, a, b, c, q'⟩ => ⟨p, q, xs, ys, rfl, rfl, a, b, c, q'⟩⟩
theorem x_slL {lo hi : Option Int} : rSlL K (.ref p) lo hi H Q ↔ SlLK K p lo hi H fun r H1 => Q (.ref r) H1 := ⟨fun ⟨_, xs, e1, a, q⟩ => by cases e1; exact ⟨xs, a, q⟩, fun ⟨xs, a, q⟩ => ⟨p, xs, rfl, a, q⟩⟩
theorem x_in {neg : Bool} {x : V} : rIn K neg x (.ref p) H Q ↔ InK K neg x p H fun b => Q (.bl b) H := ⟨fun ⟨_, xs, e1, a, b, c, q⟩ => by cases e1; exact ⟨xs, a, b, c, q⟩, fun ⟨xs, a, b, c, q⟩ => ⟨p, xs, rfl, a, b, c, q⟩⟩
theorem x_repr {x : V} : rRepr K [x] H Q ↔ RepK K x H fun t => Q (.str t) H := ⟨fun ⟨_, d, e1, a, b, q⟩ => by cases e1; exact ⟨d, a, b, q⟩, fun ⟨d, a, b, q⟩ => ⟨x, d, rfl, a, b, q⟩⟩
end
section
variable {σ : L2.St} {H : Hp} {Q : VK} {D : Ends} {ta tb te : TE} {t u : TT} {s1 s2 : TS} {v : V} {i n : Nat} {r : R2} {K : PySem.W.Frag} {TQ : Bool → Hp → Prop} {AQ : List V → Hp → Prop} {al : TA}
theorem e_var : tVar i σ H Q = ∃ v, σ[i]? = some (some v) ∧ Q v H := propext ⟨fun h => h, fun h => h⟩
theorem e_c : tC v σ H Q = Q v H := propext ⟨fun h => h, fun h => h⟩
theorem e_op : tOp r ta tb σ H Q = ta σ H fun x H1 => tb σ H1 fun y H2 => r x y H2 Q := propext ⟨fun h => h, fun h => h⟩
theorem e_un {r : V → Hp → VK → Prop} : tUn r ta σ H Q = ta σ H fun x H1 => r x H1 Q := propext ⟨fun h => h, fun h => h⟩
theorem e_if : tIf t ta tb σ H Q = t σ H fun c H1 => if c = true then ta σ H1 Q else tb σ H1 Q := propext ⟨fun h => h, fun h => h⟩
theorem e_andV : tAndV ta tb σ H Q = ta σ H fun x H1 => ∃ c, x = .bl c ∧ if c = true then tb σ H1 Q else Q (.bl false) H1 := propext ⟨fun h => h, fun h => h⟩
theorem e_orV : tOrV ta tb σ H Q = ta σ H fun x H1 => ∃ c, x = .bl c ∧ if c = true then Q (.bl true) H1 else tb σ H1 Q := propext ⟨fun h => h, fun h => h⟩
theorem e_notV : tNotV ta σ H Q = ta σ H fun x H1 => ∃ c, x = .bl c ∧ Q (.bl (!c)) H1 := propext ⟨fun h => h, fun h => h⟩
theorem e_lst : tLst al σ H Q = al σ H fun xs H1 => xs.length ≤ sizeLine ∧ NewK (.lst xs) H1 fun p H2 => Q (.ref p) H2 := propext ⟨fun h => h, fun h => h⟩
theorem e_tup : tTup al σ H Q = al σ H fun xs H1 => xs.length ≤ sizeLine ∧ NewK (.tup xs) H1 fun p H2 => Q (.ref p) H2 := propext ⟨fun h => h, fun h => h⟩
theorem e_CB {r : List V → Hp → VK → Prop} : tCB r al σ H Q = al σ H fun vs H1 => r vs H1 Q := propext ⟨fun h => h, fun h => h⟩
theorem e_BM {T : String} {r : V → List V → Hp → VK → Prop} : tBM K T r ta al σ H Q = ta σ H fun x H1 => tyV K T x H1 ∧ al σ H1 fun xs H2 => r x xs H2 Q := propext ⟨fun h => h, fun h => h⟩
theorem e_BM0 {T : String} {r : V → List V → Hp → VK → Prop} : tBM0 K T r ta σ H Q = ta σ H fun x H1 => tyV K T x H1 ∧ r x [] H1 Q := propext ⟨fun h => h, fun h => h⟩
theorem e_G {sp : Sp} {dvs : List V} {E : L2.St → XK} : tG sp dvs E al σ H Q = al σ H fun vs H1 => sp (vs ++ dvs) H1 Q (E σ) := propext ⟨fun h => h, fun h => h⟩
theorem e_chain {r r' : R2} {tc : TE} : tChain r r' ta tb tc σ H Q = ta σ H fun x H1 => tb σ H1 fun y H2 => r x y H2 fun z H3 => ∃ k, z = .bl k ∧ if k = true then tc σ H3 fun z H4 => r' y z H4 Q else Q (.bl false) H3 := propext ⟨fun h => h, fun h => h⟩
theorem e_sl {r : V → Option Int → Option Int → Hp → VK → Prop} {tl th : TO} : tSl r te tl th σ H Q = te σ H fun x H1 => tl σ H1 fun l H2 => th σ H2 fun u H3 => r x l u H3 Q := propext ⟨fun h => h, fun h => h⟩
theorem e_part {OQ : Option Int → Hp → Prop} : tPart te σ H OQ = te σ H fun x H1 => ∃ i, x = .int i ∧ OQ (some i) H1 := propext ⟨fun h => h, fun h => h⟩
theorem e_nopart {OQ : Option Int → Hp → Prop} : tNoPart σ H OQ = OQ none H := propext ⟨fun h => h, fun h => h⟩
theorem a_nil : tNil σ H AQ = AQ [] H := propext ⟨fun h => h, fun h => h⟩
theorem a_cons : tCons ta al σ H AQ = ta σ H fun x H1 => al σ H1 fun xs H2 => AQ (x :: xs) H2 := propext ⟨fun h => h, fun h => h⟩
theorem e_callLen : tCB (fun xs H Q => ∃ p ys, xs = [V.ref p] ∧ (SqL K H p ys ∨ SqT K H p ys) ∧ Q (.int ys.length) H) (tCons ta tNil) σ H Q ↔ ta σ H fun x H1 => ∃ p, x = .ref p ∧ LenK K p H1 fun n => Q (.int n) H1 := Iff.of_eq (congrArg (ta σ H) (funext fun x => funext fun H1 => propext ⟨fun ⟨p, ys, e, h, q⟩ => by cases e; exact ⟨p, rfl, ys, h, q⟩, fun ⟨p, e, ys, h, q⟩ => ⟨p, ys, by rw [e], h, q⟩⟩))
theorem t_B : tB te σ H TQ = te σ H fun x H1 => ∃ c, x = .bl c ∧ TQ c H1 := propext ⟨fun h => h, fun h => h⟩
theorem t_test : tTest te σ H TQ = te σ H fun x H1 => ∃ c, x = .bl c ∧ TQ c H1 := propext ⟨fun h => h, fun h => h⟩
theorem t_and : tAnd t u σ H TQ = t σ H fun c H1 => if c = true then u σ H1 TQ else TQ false H1 := propext ⟨fun h => h, fun h => h⟩
theorem t_or : tOr t u σ H TQ = t σ H fun c H1 => if c = true then TQ true H1 else u σ H1 TQ := propext ⟨fun h => h, fun h => h⟩
theorem t_not : tNot t σ H TQ = t σ H fun c H1 => TQ (!c) H1 := propext ⟨fun h => h, fun h => h⟩
theorem t_yes : tYes σ H TQ = TQ true H := propext ⟨fun h => h, fun h => h⟩
theorem s_seq : tSeq s1 s2 D σ H = s1 { D with nx := s2 D } σ H := propext ⟨fun h => h, fun h => h⟩
theorem s_next : tNext D σ H = D.nx σ H := propext ⟨fun h => h, fun h => h⟩
theorem s_break : tBreak D σ H = D.bk σ H := propext ⟨fun h => h, fun h => h⟩
theorem s_cont : tCont D σ H = D.ct σ H := propext ⟨fun h => h, fun h => h⟩
theorem s_drop : tDrop te D σ H = te σ H fun _ H1 => D.nx σ H1 := propext ⟨fun h => h, fun h => h⟩
theorem s_ret : tRet te D σ H = te σ H D.rt := propext ⟨fun h => h, fun h => h⟩
theorem s_retN : tRetN D σ H = D.rt .non H := propext ⟨fun h => h, fun h => h⟩
theorem s_ifS : tIfS t s1 s2 D σ H = t σ H fun b H1 => if b = true then s1 D σ H1 else s2 D σ H1 := propext ⟨fun h => h, fun h => h⟩
theorem s_asg {g : TG} : tAsg te g D σ H = te σ H fun x H1 => g x σ H1 D.nx := propext ⟨fun h => h, fun h => h⟩
theorem s_aug {ti : TIp} : tAug i te ti D σ H = ∃ x, σ[i]? = some (some x) ∧ te σ H fun y H1 => ti x y H1 fun z H2 => D.nx (σ.set i (some z)) H2 := propext ⟨fun h => h, fun h => h⟩
variable {N : L2.St → Hp → Prop}
theorem s_par {j : Nat} : tPar i j al D σ H = al σ H fun vs H1 => ∃ v w, vs = [v, w] ∧ D.nx ((σ.set i (some v)).set j (some w)) H1 := propext ⟨fun h => h, fun h => h⟩
theorem g_name : gName i v σ H N = N (σ.set i (some v)) H := propext ⟨fun h => h, fun h => h⟩
theorem g_tup {gs : TGs} {a : Addr} : gTup K n gs (.ref a) σ H N ↔ UnpK K a n H fun xs => gs xs σ H N := ⟨fun ⟨_, xs, e, h, z, q⟩ => by cases e; exact ⟨xs, h, z, q⟩, fun ⟨xs, h, z, q⟩ => ⟨a, xs, rfl, h, z, q⟩⟩
theorem g_nil : gNil [] σ H N ↔ N σ H := ⟨fun h => h.2, fun h => ⟨rfl, h⟩⟩
theorem g_cons {g : TG} {gs : TGs} {v : V} {vs : List V} : gCons g gs (v :: vs) σ H N ↔ g v σ H fun σ' H' => gs vs σ' H' N := ⟨fun ⟨_, _, e, q⟩ => by cases e; exact q, fun q => ⟨v, vs, rfl, q⟩⟩
theorem g_sub {st : TSet} : gSub ta tb st v σ H N = ta σ H fun o H1 => tb σ H1 fun i H2 => st o i v H2 fun H3 => N σ H3 := propext ⟨fun h => h, fun h => h⟩
theorem i_list {R : It → Hp → Prop} : iList K te σ H R = te σ H fun x H1 => ∃ a, x = .ref a ∧ (∃ xs, SqL K H1 a xs) ∧ R (Itl K a) H1 := propext ⟨fun h => h, fun h => h⟩
theorem i_tup {R : It → Hp → Prop} : iTup K te σ H R = te σ H fun x H1 => ∃ a, x = .ref a ∧ (∃ xs, SqT K H1 a xs) ∧ R (Itt K a) H1 := propext ⟨fun h => h, fun h => h⟩
theorem i_rng1 {R : It → Hp → Prop} : iRng1 al σ H R = al σ H fun vs H1 => ∃ j : Int, vs = [.int j] ∧ -(2 ^ 62) ≤ j ∧ j < 2 ^ 62 ∧ R (Itr 0 j.toNat) H1 := propext ⟨fun h => h, fun h => h⟩
theorem i_rng2 {R : It → Hp → Prop} : iRng2 al σ H R = al σ H fun vs H1 => ∃ i j : Int, vs = [.int i, .int j] ∧ (-(2 ^ 62) ≤ i ∧ i < 2 ^ 62 ∧ -(2 ^ 62) ≤ j ∧ j < 2 ^ 62) ∧ R (Itr i (j - i).toNat) H1 := propext ⟨fun h => h, fun h => h⟩
theorem i_enum {R : It → Hp → Prop} : iEnum K al σ H R = al σ H fun vs H1 => ∃ a xs, vs = [.ref a] ∧ SqL K H1 a xs ∧ R (Ite K a) H1 := propext ⟨fun h => h, fun h => h⟩
/-- a loop, kept whole -/
def LoopK (J : It) (g : TG) (tb : TS) (D : Ends) (σ : L2.St) (H1 : Hp) : Prop := ∃ W : Nat → Nat → L2.St → Hp → Prop, (∃ m, W 0 m σ H1) ∧ ∀ i m σ H, W i m σ H →
  (J.stop i H ∧ D.nx σ H) ∨ (J.go i H ∧ ∃ N : L2.St → Hp → Prop, (∀ σ' H', N σ' H' → ∃ m', m' < m ∧ W (i + 1) m' σ' H') ∧ ∀ x H', J.yld i H x H' → g x σ H' fun σ2 H2 => tb { D with nx := N, ct := N, bk := D.nx } σ2 H2)
theorem s_for {wi : TI} {g : TG} {tb : TS} : tFor wi g tb D σ H = wi σ H fun J H1 => LoopK J g tb D σ H1 := propext ⟨fun h => h, fun h => h⟩
/-- a comprehension, kept whole -/
def LcK (J : It) (g : TG) (tt : TT) (te : TE) (vs : List Nat) (σ : L2.St) (H1 : Hp) (Q : VK) : Prop := tLc (fun _ H R => R J H) g tt te vs σ H1 Q
theorem e_lc {wi : TI} {g : TG} {tt : TT} {vs : List Nat} : tLc wi g tt te vs σ H Q = wi σ H fun J H1 => LcK J g tt te vs σ H1 Q := propext ⟨fun h => h, fun h => h⟩
end

section
variable {X : Cx}
def rLen (K : PySem.W.Frag) : List V → Hp → VK → Prop := fun xs H Q => ∃ p ys, xs = [.ref p] ∧ (SqL K H p ys ∨ SqT K H p ys) ∧ Q (.int ys.length) H
theorem cr_len : CallR X (.builtin "len") (rLen X.K) := call_len_seq
theorem x_len {K : PySem.W.Frag} {p : Addr} {H : Hp} {Q : VK} : rLen K [.ref p] H Q ↔ LenK K p H fun n => Q (.int n) H := ⟨fun ⟨_, ys, e, h, q⟩ => by cases e; exact ⟨ys, h, q⟩, fun ⟨ys, h, q⟩ => ⟨p, ys, rfl, h, q⟩⟩
def rMx : List V → Hp → VK → Prop := fun xs H Q => ∃ i j, xs = [.int i, .int j] ∧ Q (.int (max i j)) H
def rMn : List V → Hp → VK → Prop := fun xs H Q => ∃ i j, xs = [.int i, .int j] ∧ Q (.int (min i j)) H
theorem mx_eq (i j : Int) : (if j > i then j else i) = max i j := by split <;> omega
theorem mn_eq (i j : Int) : (if j < i then j else i) = min i j := by split <;> omega
theorem CallR.as {f : Value} {r r' : List V → Hp → VK → Prop} (h : CallR X f r) (i : ∀ xs H Q, r' xs H Q → r xs H Q) : CallR X f r' := fun pins s σ H xs us Q I v q => h pins s σ H xs us Q I v (i xs H Q q)
theorem cr_max2 (hc : X.calm = true) : CallR X (.builtin "max") rMx := CallR.as (call_max2 hc) fun _ _ _ ⟨i, j, e, q⟩ => ⟨i, j, e, by rw [mx_eq]; exact q⟩
theorem cr_min2 (hc : X.calm = true) : CallR X (.builtin "min") rMn := CallR.as (call_min2 hc) fun _ _ _ ⟨i, j, e, q⟩ => ⟨i, j, e, by rw [mn_eq]; exact q⟩
theorem x_mx {i j : Int} {H : Hp} {Q : VK} : rMx [.int i, .int j] H Q ↔ Q (.int (max i j)) H := ⟨fun ⟨_, _, e, q⟩ => by cases e; exact q, fun q => ⟨i, j, rfl, q⟩⟩
theorem x_mn {i j : Int} {H : Hp} {Q : VK} : rMn [.int i, .int j] H Q ↔ Q (.int (min i j)) H := ⟨fun ⟨_, _, e, q⟩ => by cases e; exact q, fun q => ⟨i, j, rfl, q⟩⟩
theorem k_cx {C : CXT} {P : Program} {w : World} {K : PySem.W.Frag} {mg : Str → Option Value} {bs : Heap} {N : List Str} {qual : Str} {sc : Scope} {f : Addr} {cd : Value} {A : Around} {fr : List Env} {s : Shared} {H : Hp} {E : XK} :
    (cxOf C P w K mg bs N qual sc f cd A fr s H E).nox.K = K := rfl
theorem k_cx2 {C : CXT} {P : Program} {w : World} {K : PySem.W.Frag} {mg : Str → Option Value} {bs : Heap} {N : List Str} {qual : Str} {sc : Scope} {f : Addr} {cd : Value} {A : Around} {fr : List Env} {s : Shared} {H : Hp} {E : XK} :
    (cxOf C P w K mg bs N qual sc f cd A fr s H E).K = K := rfl
end
/-! ### isinstance(x, T), T a built-in class -/
def tyB (K : PySem.W.Frag) (H : Hp) (x : V) (t : String) : Prop := TyX K H x (.type t)
def rIs (K : PySem.W.Frag) : List V → Hp → VK → Prop := fun xs H Q => ∃ x n t b, xs = [x, .ty n] ∧ tyB K H x t ∧ kitB t n = some b ∧ Q (.bl b) H
theorem cr_is {X : Cx} : CallR X (.builtin "isinstance") (rIs X.K) := CallR.as call_isi fun _ _ _ ⟨x, n, _, b, e, ht, hb, q⟩ => ⟨x, .ty n, _, _, b, e, ClsV.ty n, ht, kit_ty hb, q⟩
section
variable {K : PySem.W.Frag} {H : Hp} {Q : VK}
theorem ty_int {i : Int} {t : String} (h : tyB K H (.int i) t) : t = "int" := by
  cases h with
  | base h => cases h; rfl
theorem ty_bl {i : Bool} {t : String} (h : tyB K H (.bl i) t) : t = "bool" := by
  cases h with
  | base h => cases h; rfl
theorem ty_non {t : String} (h : tyB K H .non t) : t = "NoneType" := by
  cases h with
  | base h => cases h; rfl
theorem ty_str {i : Str} {t : String} (h : tyB K H (.str i) t) : t = "str" := by
  cases h with
  | base h => cases h; rfl
theorem x_is {x : V} {t n : String} {b : Bool} (h1 : tyB K H x t) (h2 : ∀ u, tyB K H x u → u = t) (h3 : kitB t n = some b) : rIs K [x, .ty n] H Q ↔ Q (.bl b) H := by
  constructor
  · rintro ⟨_, _, u, c, e, hu, hc, q⟩
    cases e
    rw [h2 u hu, h3] at hc
    cases hc
    exact q
  · intro q
    exact ⟨x, n, t, b, rfl, h1, h3, q⟩
theorem x_is_int {i : Int} : rIs K [.int i, .ty "int"] H Q ↔ Q (.bl true) H := x_is (.base (.int i)) (fun _ => ty_int) (by decide +kernel)
theorem x_is_bi {i : Int} : rIs K [.int i, .ty "bool"] H Q ↔ Q (.bl false) H := x_is (.base (.int i)) (fun _ => ty_int) (by decide +kernel)
theorem x_is_bool {i : Bool} : rIs K [.bl i, .ty "int"] H Q ↔ Q (.bl true) H := x_is (.base (.bl i)) (fun _ => ty_bl) (by decide +kernel)
theorem x_is_bb {i : Bool} : rIs K [.bl i, .ty "bool"] H Q ↔ Q (.bl true) H := x_is (.base (.bl i)) (fun _ => ty_bl) (by decide +kernel)
theorem x_is_nb : rIs K [.non, .ty "bool"] H Q ↔ Q (.bl false) H := x_is (.base .non) (fun _ => ty_non) (by decide +kernel)
theorem x_is_ni : rIs K [.non, .ty "int"] H Q ↔ Q (.bl false) H := x_is (.base .non) (fun _ => ty_non) (by decide +kernel)
theorem x_is_sb {i : Str} : rIs K [.str i, .ty "bool"] H Q ↔ Q (.bl false) H := x_is (.base (.str i)) (fun _ => ty_str) (by decide +kernel)
theorem x_is_si {i : Str} : rIs K [.str i, .ty "int"] H Q ↔ Q (.bl false) H := x_is (.base (.str i)) (fun _ => ty_str) (by decide +kernel)
theorem x_is_ib {i : Str} : rIs K [.str i, .ty "str"] H Q ↔ Q (.bl true) H := x_is (.base (.str i)) (fun _ => ty_str) (by decide +kernel)
/-- isinstance of an object -/
def IsK (K : PySem.W.Frag) (a : Addr) (n : String) (H : Hp) (G : Bool → Prop) : Prop := ∃ t b, tyB K H (.ref a) t ∧ kitB t n = some b ∧ G b
theorem x_isR {a : Addr} {n : String} : rIs K [.ref a, .ty n] H Q ↔ IsK K a n H fun b => Q (.bl b) H := ⟨fun ⟨_, _, t, b, e, h1, h2, q⟩ => by cases e; exact ⟨t, b, h1, h2, q⟩, fun ⟨t, b, h1, h2, q⟩ => ⟨_, _, t, b, rfl, h1, h2, q⟩⟩
theorem IsK.tup {a : Addr} {n : String} {xs : List V} {b : Bool} {G : Bool → Prop} (h : H a = some (.tup xs)) (k : kitB "tuple" n = some b) (q : G b) : IsK K a n H G := ⟨_, b, .base (.tup h), k, q⟩
theorem IsK.lst {a : Addr} {n : String} {xs : List V} {b : Bool} {G : Bool → Prop} (h : H a = some (.lst xs)) (k : kitB "list" n = some b) (q : G b) : IsK K a n H G := ⟨_, b, .base (.lst h), k, q⟩
end
/-! ### instances -/
def FldK (K : PySem.W.Frag) (p : Addr) (f : Str) (H : Hp) (G : V → Prop) : Prop := ∃ C dx fs v, H p = some (.ins C dx fs) ∧ Cls K C ∧ NoAttr K C f ∧ fs.lookup f = some v ∧ G v
def StK (K : PySem.W.Frag) (p : Addr) (f : Str) (y : V) (H : Hp) (G : Hp → Prop) : Prop := ∃ C dx fs, H p = some (.ins C dx fs) ∧ Cls K C ∧ NoAttr K C f ∧ fs.length < 1000 ∧ G (upd H p (.ins C dx (putF f y fs)))
section
variable {K : PySem.W.Frag} {B H : Hp} {l l' : List (Addr × HO)} {p C dx : Addr} {fs fs' : List (Str × V)} {f : Str} {v : V} {σ : L2.St} {Q : VK} {D : Ends} {ta tv : TE}
theorem e_fld : tFld K ta f σ H Q ↔ ta σ H fun x H1 => ∃ a, x = .ref a ∧ FldK K a f H1 fun v => Q v H1 := Iff.of_eq (congrArg (ta σ H) (funext fun x => funext fun H1 => propext ⟨fun ⟨a, C, dx, fs, v, e, r⟩ => ⟨a, e, C, dx, fs, v, r⟩, fun ⟨a, e, C, dx, fs, v, r⟩ => ⟨a, C, dx, fs, v, e, r⟩⟩))
theorem s_fld : sFld K ta tv f D σ H ↔ tv σ H fun y H1 => ta σ H1 fun x H2 => ∃ a, x = .ref a ∧ StK K a f y H2 fun H3 => D.nx σ H3 := Iff.of_eq (congrArg (tv σ H) (funext fun y => funext fun H1 => congrArg (ta σ H1) (funext fun x => funext fun H2 => propext ⟨fun ⟨a, C, dx, fs, e, r⟩ => ⟨a, e, C, dx, fs, r⟩, fun ⟨a, e, C, dx, fs, r⟩ => ⟨a, C, dx, fs, e, r⟩⟩)))
theorem FldK.of {G : V → Prop} (L : Led B H l) (m : (p, HO.ins C dx fs) ∈ l) (c : Cls K C) (n : NoAttr K C f) (e : fs.lookup f = some v) (k : G v) : FldK K p f H G := ⟨C, dx, fs, v, L.at m, c, n, e, k⟩
theorem StK.of {G : Hp → Prop} (L : Led B H l) (m : (p, HO.ins C dx fs) ∈ l) (c : Cls K C) (n : NoAttr K C f) (e : putF f v fs = fs') (t : Put l p (.ins C dx fs') l') (k : ∀ H1, Led B H1 l' → G H1) (h : fs.length < 1000 := by first | decide | (simp only [List.length_cons, List.length_nil]; decide) | omega) : StK K p f v H G :=
  ⟨C, dx, fs, L.at m, c, n, h, by rw [e]; exact k _ (L.put t)⟩
/-- o.m(..) -/
def MtK (p C : Addr) (m : Str) (H : Hp) (G : Prop) : Prop := ∃ dx fs, H p = some (.ins C dx fs) ∧ fs.lookup m = none ∧ G
theorem e_MG {m : Str} {sp : Sp} {dvs : List V} {E : L2.St → XK} {t : TA} : tMG C m sp dvs E ta t σ H Q ↔ ta σ H fun x H1 => ∃ a, x = .ref a ∧ MtK a C m H1 (t σ H1 fun vs H2 => sp (x :: (vs ++ dvs)) H2 Q (E σ)) :=
  Iff.of_eq (congrArg (ta σ H) (funext fun x => funext fun H1 => propext ⟨fun ⟨a, dx, fs, e, r1, r2, r3⟩ => ⟨a, e, dx, fs, r1, r2, r3⟩, fun ⟨a, e, dx, fs, r1, r2, r3⟩ => ⟨a, dx, fs, e, r1, r2, r3⟩⟩))
theorem MtK.of {m : Str} {G : Prop} (L : Led B H l) (h : (p, HO.ins C dx fs) ∈ l) (e : fs.lookup m = none) (k : G) : MtK p C m H G := ⟨dx, fs, L.at h, e, k⟩
/-- C(..) -/
def MkK (C : Addr) (H : Hp) (G : Addr → Hp → Prop) : Prop := ∀ x dx, H x = none → H dx = none → dx ≠ x → G x (upd (upd H dx (.own x)) x (.ins C dx []))
theorem e_KG {sp : Sp} {dvs : List V} {E : L2.St → XK} {t : TA} : tKG C sp dvs E t σ H Q = t σ H fun vs H1 => MkK C H1 fun x H2 => sp (.ref x :: (vs ++ dvs)) H2 (fun v H3 => v = .non ∧ Q (.ref x) H3) (E σ) := propext ⟨fun h => h, fun h => h⟩
theorem MkK.of {G : Addr → Hp → Prop} (L : Led B H l) (k : ∀ x dx H1, Led B H1 ((x, .ins C dx []) :: l) → G x H1) : MkK C H G := fun x dx hx hd ne =>
  k x dx _ (((L.new hd).new (by rw [upd_ne ne.symm]; exact hx)).sel (.cons .hd (.skip .all)))
/-! ### lists again -/
def RptK (l : Addr) (n : Int) (H : Hp) (G : Addr → Hp → Prop) : Prop := ∃ xs, H l = some (.lst xs) ∧ -(2 ^ 63) ≤ n ∧ n < 2 ^ 63 ∧ xs.length * n.toNat ≤ sizeLine ∧ NewK (.lst (List.replicate n.toNat xs).flatten) H G
theorem x_rpt {a : Addr} {n : Int} : rRep (.ref a) (.int n) H Q ↔ RptK a n H fun p H1 => Q (.ref p) H1 := ⟨fun ⟨_, _, xs, e1, e2, h, h1, h2, h3, q⟩ => by cases e1; cases e2; exact ⟨xs, h, h1, h2, h3, q⟩, fun ⟨xs, h, h1, h2, h3, q⟩ => ⟨a, n, xs, rfl, rfl, h, h1, h2, h3, q⟩⟩
theorem flat_one {α : Type} (n : Nat) (x : α) : (List.replicate n [x]).flatten = List.replicate n x := by
  induction n with
  | zero => rfl
  | succ n ih => rw [List.replicate_succ, List.flatten_cons, ih, List.replicate_succ]; rfl
theorem RptK.of {a : Addr} {n : Nat} {G : Addr → Hp → Prop} (L : Led B H l) (h : (a, HO.lst [v]) ∈ l) (hn : n ≤ 100000) (k : ∀ p H1, Led B H1 ((p, .lst (List.replicate n v)) :: l) → G p H1) : RptK a (n : Int) H G :=
  ⟨[v], L.at h, by omega, by omega, Nat.le_trans (m := 100000) (by rw [Int.toNat_natCast]; simpa using hn) (by decide), by rw [Int.toNat_natCast, flat_one]; exact NewK.of L k⟩
def RemK (a : Addr) (n : Int) (H : Hp) (G : Hp → Prop) : Prop := ∃ (ns : List Int) (j : Nat), H a = some (.lst (ns.map V.int)) ∧ ns[j]? = some n ∧ (∀ m : Nat, m < j → ns[m]? ≠ some n) ∧ G (upd H a (.lst ((ns.eraseIdx j).map V.int)))
theorem x_rem {a : Addr} {n : Int} : rRemI (.ref a) [.int n] H Q ↔ RemK a n H fun H1 => Q .non H1 := ⟨fun ⟨_, ns, _, j, e1, e2, h, h1, h2, q⟩ => by cases e1; cases e2; exact ⟨ns, j, h, h1, h2, q⟩, fun ⟨ns, j, h, h1, h2, q⟩ => ⟨a, ns, n, j, rfl, rfl, h, h1, h2, q⟩⟩
theorem first_at {n : Int} : ∀ {ns : List Int}, n ∈ ns → ∃ j, ns[j]? = some n ∧ (∀ m : Nat, m < j → ns[m]? ≠ some n) ∧ ns.eraseIdx j = ns.erase n
  | [], h => (List.not_mem_nil h).elim
  | x :: r, h => by
    by_cases c : x = n
    · subst c
      exact ⟨0, rfl, fun m hm => absurd hm (Nat.not_lt_zero _), by rw [List.erase_cons_head]; rfl⟩
    · obtain ⟨j, h1, h2, h3⟩ := first_at ((List.mem_cons.mp h).resolve_left fun z => c z.symm)
      refine ⟨j + 1, h1, fun m hm => ?_, ?_⟩
      · cases m with
        | zero => intro z; exact c (Option.some.inj z)
        | succ m => exact h2 m (by omega)
      · rw [List.erase_cons_tail (by simpa using c), List.eraseIdx_cons_succ, h3]
theorem RemK.of {a : Addr} {n : Int} {ns : List Int} {G : Hp → Prop} (L : Led B H l) (h : (a, HO.lst (ns.map V.int)) ∈ l) (hm : n ∈ ns) (t : Put l a (.lst ((ns.erase n).map V.int)) l') (k : ∀ H1, Led B H1 l' → G H1) : RemK a n H G := by
  obtain ⟨j, h1, h2, h3⟩ := first_at hm
  exact ⟨ns, j, L.at h, h1, h2, by rw [h3]; exact k _ (L.put t)⟩
def MinK (K : PySem.W.Frag) (a : Addr) (H : Hp) (G : Int → Prop) : Prop := ∃ ns : List Int, SqL K H a (ns.map V.int) ∧ 0 < ns.length ∧ ∀ m, m ∈ ns → (∀ y, y ∈ ns → m ≤ y) → G m
theorem x_min {a : Addr} : rMin K [.ref a] H Q ↔ MinK K a H fun m => Q (.int m) H := ⟨fun ⟨_, ns, e, r⟩ => by cases e; exact ⟨ns, r⟩, fun ⟨ns, r⟩ => ⟨a, ns, rfl, r⟩⟩
theorem e_lrg1 {te : L2.St → Hp → (Int → Int → Hp → Prop) → Prop} : tLstRg te σ H Q = te σ H fun a b H1 => RgOk a b ∧ NewK (.lst (rgV a b)) H1 fun p H2 => Q (.ref p) H2 := propext ⟨fun h => h, fun h => h⟩
theorem e_rg1 {R : Int → Int → Hp → Prop} : tRg1 ta σ H R = ta σ H fun x H1 => ∃ n, x = .int n ∧ R 0 n H1 := propext ⟨fun h => h, fun h => h⟩
def rRev : V → List V → Hp → VK → Prop := rReverse
def RevK (a : Addr) (H : Hp) (G : Hp → Prop) : Prop := ∃ xs, H a = some (.lst xs) ∧ G (upd H a (.lst xs.reverse))
theorem x_rev {a : Addr} : rReverse (.ref a) [] H Q ↔ RevK a H fun H1 => Q .non H1 := ⟨fun ⟨_, xs, e, _, h, q⟩ => by cases e; exact ⟨xs, h, q⟩, fun ⟨xs, h, q⟩ => ⟨a, xs, rfl, rfl, h, q⟩⟩
theorem RevK.of {a : Addr} {xs : List V} {G : Hp → Prop} (L : Led B H l) (h : (a, HO.lst xs) ∈ l) (t : Put l a (.lst xs.reverse) l') (k : ∀ H1, Led B H1 l' → G H1) : RevK a H G := ⟨xs, L.at h, k _ (L.put t)⟩
theorem s_augS {to ti te : TE} {tget : V → V → Hp → VK → Prop} {tip : TIp} {tset : TSet} : tAugS to ti te tget tip tset D σ H = to σ H fun o H1 => ti σ H1 fun i H2 => tget o i H2 fun x H3 => te σ H3 fun y H4 => tip x y H4 fun z H5 => tset o i z H5 fun H6 => D.nx σ H6 := propext ⟨fun h => h, fun h => h⟩
theorem x_ip {g : Int → Int → Int} {i j : Int} : ipI g (.int i) (.int j) H Q ↔ Q (.int (g i j)) H := ⟨fun ⟨_, _, e1, e2, q⟩ => by cases e1; cases e2; exact q, fun q => ⟨i, j, rfl, rfl, q⟩⟩
theorem i_rng3 {al : TA} {R : It → Hp → Prop} : iRng3 al σ H R = al σ H fun vs H1 => ∃ (i j c : Int) (n : Nat), vs = [.int i, .int j, .int c] ∧ RgC i j c n ∧ R (Itc i c n) H1 := propext ⟨fun h => h, fun h => h⟩
end
theorem pget_list {X : Cx} : PGet X (rIxL X.K) := by
  intro pins s σ H x y v u Q I rx ry h
  obtain ⟨p, xs, i, z, rfl, rfl, hq, he, q⟩ := h
  cases rx
  obtain ⟨t, rfl⟩ := ry
  obtain ⟨its, r, pl, hz⟩ := I.list hq
  obtain ⟨j, h1, h2, h3, h4, h5⟩ := atI_get he
  obtain ⟨w, ew, rw'⟩ := r.get h2
  have hl := r.length
  have hn := line63
  have fin : EP X pins σ Q w s := ⟨z, H, I, rw', q⟩
  by_cases h0 : 0 ≤ i
  · have hj : i.toNat = j := by
      have h1' := h1
      rw [seqIndex_of h0 h5] at h1'
      exact Option.some.inj h1'
    exact wpAny_getItem_list pl.isList h0 (by omega) (by rw [hj]; simpa using ew) fin
  · have hj : (i + (its.toArray.size : Int)).toNat = j := by
      have h1' := h1
      rw [seqIndex_neg (by omega) h4] at h1'
      rw [List.size_toArray, ← hl]
      exact Option.some.inj h1'
    exact wpAny_getItem_list_neg pl.isList (by omega) (by rw [List.size_toArray] <;> omega) (by omega) (by rw [hj]; simpa using ew) fin
/-! ### loops, kept whole -/
section
variable {K : PySem.W.Frag} {g : TG} {tb : TS} {D : Ends} {σ : L2.St} {H : Hp} {a : Addr} {xs : List V} {lo : Int} {n : Nat}
theorem loop_list (Pv : Nat → L2.St → Hp → Prop) (h0 : Pv 0 σ H) (hl : ∀ i σ H, i ≤ xs.length → Pv i σ H → SqL K H a xs)
    (hs : ∀ i x σ H (N : L2.St → Hp → Prop), xs[i]? = some x → Pv i σ H → (∀ σ' H', Pv (i + 1) σ' H' → N σ' H') → g x σ H fun σ2 H2 => tb { D with nx := N, ct := N, bk := D.nx } σ2 H2) (hd : ∀ σ H, Pv xs.length σ H → D.nx σ H) : LoopK (Itl K a) g tb D σ H :=
  for_list Pv h0 hl (fun i x σ H e p => hs i x σ H _ e p fun _ _ z => z) hd
theorem loop_tup (Pv : Nat → L2.St → Hp → Prop) (h0 : Pv 0 σ H) (hl : ∀ i σ H, i ≤ xs.length → Pv i σ H → SqT K H a xs)
    (hs : ∀ i x σ H (N : L2.St → Hp → Prop), xs[i]? = some x → Pv i σ H → (∀ σ' H', Pv (i + 1) σ' H' → N σ' H') → g x σ H fun σ2 H2 => tb { D with nx := N, ct := N, bk := D.nx } σ2 H2) (hd : ∀ σ H, Pv xs.length σ H → D.nx σ H) : LoopK (Itt K a) g tb D σ H :=
  for_tup Pv h0 hl (fun i x σ H e p => hs i x σ H _ e p fun _ _ z => z) hd
theorem loop_range (Pv : Nat → L2.St → Hp → Prop) (h0 : Pv 0 σ H)
    (hs : ∀ i σ H (N : L2.St → Hp → Prop), i < n → Pv i σ H → (∀ σ' H', Pv (i + 1) σ' H' → N σ' H') → g (.int (lo + i)) σ H fun σ2 H2 => tb { D with nx := N, ct := N, bk := D.nx } σ2 H2) (hd : ∀ σ H, Pv n σ H → D.nx σ H) : LoopK (Itr lo n) g tb D σ H :=
  for_range Pv h0 (fun i σ H e p => hs i σ H _ e p fun _ _ z => z) hd
theorem loop_rangeC {c : Int} (Pv : Nat → L2.St → Hp → Prop) (h0 : Pv 0 σ H)
    (hs : ∀ i σ H (N : L2.St → Hp → Prop), i < n → Pv i σ H → (∀ σ' H', Pv (i + 1) σ' H' → N σ' H') → g (.int (lo + (i : Nat) * c)) σ H fun σ2 H2 => tb { D with nx := N, ct := N, bk := D.nx } σ2 H2) (hd : ∀ σ H, Pv n σ H → D.nx σ H) : LoopK (Itc lo c n) g tb D σ H :=
  for_rangeC Pv h0 (fun i σ H e p => hs i σ H _ e p fun _ _ z => z) hd
variable {tt : TT} {te : TE} {vs : List Nat} {Q : VK}
/-- what a turn of a comprehension does, N behind it -/
def TurnK (g : TG) (tt : TT) (te : TE) (vs : List Nat) (σ : L2.St) (p : Addr) (N : Hp → Prop) (x : V) (H : Hp) : Prop :=
  g x (wipe σ vs) H fun σ2 H2 => wipe σ2 vs = wipe σ vs ∧ tt σ2 H2 fun b H3 => if b = true then te σ2 H3 fun y H4 => AppK p y H4 N else N H3
theorem comp_gen {J : It} (n : Nat) (R : Nat → Addr → List V → Hp → Prop) (h0 : ∀ p, H p = none → R 0 p [] (upd H p (.lst [])))
    (hn : ∀ p acc H', R n p acc H' → J.stop n H' ∧ Q (.ref p) H')
    (hs : ∀ i p acc H', i < n → R i p acc H' → J.go i H' ∧ ∀ x H2, J.yld i H' x H2 → TurnK g tt te vs σ p (fun H3 => ∃ acc, R (i + 1) p acc H3) x H2) : LcK J g tt te vs σ H Q := by
  intro p hp
  refine ⟨fun i m H' => m = n - i ∧ i ≤ n ∧ ∃ acc, R i p acc H', ⟨n, rfl, Nat.zero_le _, [], h0 p hp⟩, ?_⟩
  rintro i m H' ⟨rfl, hi, acc, r⟩
  by_cases c : i < n
  · obtain ⟨r1, r2⟩ := hs i p acc H' c r
    exact Or.inr ⟨r1, fun H'' => ∃ acc, R (i + 1) p acc H'', fun H'' z => ⟨n - (i + 1), by omega, rfl, c, z⟩, fun x H2 y => r2 x H2 y⟩
  · have e : i = n := by omega
    subst e
    exact Or.inl (hn p acc H' r)
/-- over a list that stands -/
theorem comp_list (R : Nat → Addr → List V → Hp → Prop) (h0 : ∀ p, H p = none → R 0 p [] (upd H p (.lst []))) (hl : ∀ i p acc H', R i p acc H' → SqL K H' a xs)
    (hn : ∀ p acc H', R xs.length p acc H' → Q (.ref p) H') (hs : ∀ i p acc H' x (N : Hp → Prop), xs[i]? = some x → R i p acc H' → (∀ acc H3, R (i + 1) p acc H3 → N H3) → TurnK g tt te vs σ p N x H') : LcK (Itl K a) g tt te vs σ H Q := by
  refine comp_gen xs.length R h0 (fun p acc H' r => ⟨⟨xs, hl _ _ _ _ r, Nat.le_refl _⟩, hn p acc H' r⟩) fun i p acc H' hi r => ?_
  refine ⟨⟨xs, xs[i], hl _ _ _ _ r, List.getElem?_eq_getElem hi⟩, ?_⟩
  rintro x H2 ⟨rfl, hx⟩
  exact hs i p acc _ x _ (hx xs (hl _ _ _ _ r)) r fun acc H3 z => ⟨acc, z⟩
theorem comp_tup (R : Nat → Addr → List V → Hp → Prop) (h0 : ∀ p, H p = none → R 0 p [] (upd H p (.lst []))) (hl : ∀ i p acc H', R i p acc H' → SqT K H' a xs)
    (hn : ∀ p acc H', R xs.length p acc H' → Q (.ref p) H') (hs : ∀ i p acc H' x (N : Hp → Prop), xs[i]? = some x → R i p acc H' → (∀ acc H3, R (i + 1) p acc H3 → N H3) → TurnK g tt te vs σ p N x H') : LcK (Itt K a) g tt te vs σ H Q := by
  refine comp_gen xs.length R h0 (fun p acc H' r => ⟨⟨xs, hl _ _ _ _ r, Nat.le_refl _⟩, hn p acc H' r⟩) fun i p acc H' hi r => ?_
  refine ⟨⟨xs, xs[i], hl _ _ _ _ r, List.getElem?_eq_getElem hi⟩, ?_⟩
  rintro x H2 ⟨rfl, hx⟩
  exact hs i p acc _ x _ (hx xs (hl _ _ _ _ r)) r fun acc H3 z => ⟨acc, z⟩
theorem comp_range (R : Nat → Addr → List V → Hp → Prop) (h0 : ∀ p, H p = none → R 0 p [] (upd H p (.lst [])))
    (hn : ∀ p acc H', R n p acc H' → Q (.ref p) H') (hs : ∀ i p acc H' (N : Hp → Prop), i < n → R i p acc H' → (∀ acc H3, R (i + 1) p acc H3 → N H3) → TurnK g tt te vs σ p N (.int (lo + i)) H') : LcK (Itr lo n) g tt te vs σ H Q := by
  refine comp_gen n R h0 (fun p acc H' r => ⟨Nat.le_refl _, hn p acc H' r⟩) fun i p acc H' hi r => ⟨hi, ?_⟩
  rintro x H2 ⟨rfl, rfl⟩
  exact hs i p acc _ _ hi r fun acc H3 z => ⟨acc, z⟩
/-- over enumerate of a list that stands -/
theorem comp_enum (R : Nat → Addr → List V → Hp → Prop) (h0 : ∀ p, H p = none → R 0 p [] (upd H p (.lst []))) (hl : ∀ i p acc H', R i p acc H' → SqL K H' a xs)
    (hn : ∀ p acc H', R xs.length p acc H' → Q (.ref p) H')
    (hs : ∀ i p acc H' x (N : Hp → Prop), xs[i]? = some x → R i p acc H' → (∀ acc H3, R (i + 1) p acc H3 → N H3) → NewK (.tup [.int (i : Nat), x]) H' fun t H2 => TurnK g tt te vs σ p N (.ref t) H2) : LcK (Ite K a) g tt te vs σ H Q := by
  refine comp_gen xs.length R h0 (fun p acc H' r => ⟨⟨xs, hl _ _ _ _ r, Nat.le_refl _⟩, hn p acc H' r⟩) fun i p acc H' hi r => ?_
  refine ⟨⟨xs, xs[i], hl _ _ _ _ r, List.getElem?_eq_getElem hi⟩, ?_⟩
  rintro v H2 ⟨t, x, rfl, ht, rfl, hx⟩
  exact hs i p acc _ x _ (hx xs (hl _ _ _ _ r)) r (fun acc H3 z => ⟨acc, z⟩) t ht
end

/-! ### small facts -/
theorem NeD.of {K : PySem.W.Frag} {H : Hp} {x y : V} {d e : PyData} {Q : VK} (h1 : Dp K H x d) (h2 : Dp K H y e) (s1 : SeqAt.shaped d = true) (s2 : SeqAt.shaped e = true) (q : Q (.bl (!PyData.eqv d e)) H) : rNeD K x y H Q := ⟨d, e, h1, h2, s1, s2, q⟩
theorem EqD.of {K : PySem.W.Frag} {H : Hp} {x y : V} {d e : PyData} {Q : VK} (h1 : Dp K H x d) (h2 : Dp K H y e) (s1 : SeqAt.shaped d = true) (s2 : SeqAt.shaped e = true) (q : Q (.bl (PyData.eqv d e)) H) : rEqD K x y H Q := ⟨d, e, h1, h2, s1, s2, q⟩
theorem RepK.of {K : PySem.W.Frag} {H : Hp} {x : V} {d : PyData} {n k : Nat} {G : Str → Prop} (h : Dp K H x d) (w : Shw n k d) (h1 : n ≤ 16000000) (h2 : k ≤ 60) (q : G d.shown) : RepK K x H G := ⟨d, h, w.up h1 h2, q⟩
theorem RepK.int {K : PySem.W.Frag} {H : Hp} {i : Int} {G : Str → Prop} (k : Nat) (h : i.natAbs < 2 ^ k) (q : G (PyData.int i).shown) (h0 : 0 < k := by decide) (h1 : k ≤ 1920 := by decide) : RepK K (.int i) H G := RepK.of (Dp.int i) (Shw.int h0 h1 h) (by omega) (by decide) q
theorem RepK.bl {K : PySem.W.Frag} {H : Hp} {b : Bool} {G : Str → Prop} (q : G (PyData.bool b).shown) : RepK K (.bl b) H G := RepK.of (Dp.bl b) (Shw.bl b) (by decide) (by decide) q
theorem canLayAll_all : ∀ ds : List PyData, (∀ d ∈ ds, d.canLay0 = true) → PyData.canLayAll0 ds = true
  | [], _ => rfl
  | d :: r, h => by
    rw [PyData.canLayAll0, h d List.mem_cons_self, canLayAll_all r fun e he => h e (List.mem_cons_of_mem _ he)]; rfl
/-- data that == takes -/
structure Eqd (k : Nat) (d : PyData) : Prop where
  c : d.canLay0 = true
  p : d.depth ≤ k
theorem Eqd.lst {k : Nat} {ds : List PyData} (h : ∀ d ∈ ds, Eqd k d) : Eqd (k + 1) (.list ds) := ⟨by rw [PyData.canLay0]; exact canLayAll_all ds fun d hd => (h d hd).c, by
  simp only [PyData.depth]
  have := depthAll_le ds fun d hd => (h d hd).p
  omega⟩
theorem Eqd.tup {k : Nat} {ds : List PyData} (h : ∀ d ∈ ds, Eqd k d) : Eqd (k + 1) (.tuple ds) := ⟨by rw [PyData.canLay0]; exact canLayAll_all ds fun d hd => (h d hd).c, by
  simp only [PyData.depth]
  have := depthAll_le ds fun d hd => (h d hd).p
  omega⟩
theorem Eqd.int (i : Int) : Eqd 1 (.int i) := ⟨by rw [PyData.canLay0], by simp [PyData.depth]⟩
theorem Eqd.str (i : Str) (h : PyData.strOk i = true) : Eqd 1 (.str i) := ⟨by rw [PyData.canLay0]; exact h, by simp [PyData.depth]⟩
theorem Eqd.bl (i : Bool) : Eqd 1 (.bool i) := ⟨by rw [PyData.canLay0], by simp [PyData.depth]⟩
theorem Eqd.non : Eqd 1 .none := ⟨by rw [PyData.canLay0], by simp [PyData.depth]⟩
theorem Eqd.sh {k : Nat} {d : PyData} (h : Eqd k d) (hk : k ≤ 64) : SeqAt.shaped d = true := by
  unfold SeqAt.shaped
  rw [h.c, Bool.true_and]
  exact decide_eq_true (Nat.le_trans h.p hk)
theorem eqv_nil (ds : List PyData) : PyData.eqv (.list ds) (.list []) = ds.isEmpty := by
  cases ds with
  | nil => exact rfl
  | cons d r => exact rfl
theorem EqD.nil {K : PySem.W.Frag} {H : Hp} {a b : Addr} {xs : List V} {ds : List PyData} {Q : VK} {k : Nat} (h : SqL K H a xs) (e : DpAll K H xs ds) (g : ∀ d ∈ ds, Eqd k d) (hk : k ≤ 60) (h2 : SqL K H b []) (q : Q (.bl ds.isEmpty) H) : rEqD K (.ref a) (.ref b) H Q :=
  EqD.of (.lst h e) (.lst h2 .nil) ((Eqd.lst g).sh (by omega)) ((Eqd.lst (k := 1) (ds := []) (fun _ z => (List.not_mem_nil z).elim)).sh (by decide)) (by rw [eqv_nil]; exact q)
theorem NeD.nil {K : PySem.W.Frag} {H : Hp} {a b : Addr} {xs : List V} {ds : List PyData} {Q : VK} {k : Nat} (h : SqL K H a xs) (e : DpAll K H xs ds) (g : ∀ d ∈ ds, Eqd k d) (hk : k ≤ 60) (h2 : SqL K H b []) (q : Q (.bl (!ds.isEmpty)) H) : rNeD K (.ref a) (.ref b) H Q :=
  NeD.of (.lst h e) (.lst h2 .nil) ((Eqd.lst g).sh (by omega)) ((Eqd.lst (k := 1) (ds := []) (fun _ z => (List.not_mem_nil z).elim)).sh (by decide)) (by rw [eqv_nil]; exact q)
theorem tyL {K : PySem.W.Frag} {H : Hp} {p : Addr} {xs : List V} (h : SqL K H p xs) : tyV K "list" (.ref p) H := Or.inl ⟨rfl, _, h⟩
theorem tri_even (t : Int) : t * (t + 1) % 2 = 0 := by
  rw [Int.mul_emod]
  have h : t % 2 = 0 ∨ t % 2 = 1 := by omega
  rcases h with h | h
  · rw [h, Int.zero_mul]; rfl
  · have e : (t + 1) % 2 = 0 := by omega
    rw [e, Int.mul_zero]; rfl
theorem eqv_refl_nil : PyData.eqv (.list []) (.list []) = true := by first | rfl | simp [PyData.eqv, PyData.eqvAll] | decide +kernel
theorem sc_ii {i j : Int} : scal (.int i) (.int j) = true ↔ True := iff_true_intro rfl
theorem sc_ss {i j : Str} : scal (.str i) (.str j) = true ↔ True := iff_true_intro rfl
theorem sc_bb {i j : Bool} : scal (.bl i) (.bl j) = true ↔ True := iff_true_intro rfl
theorem sc_nn : scal .non .non = true ↔ True := iff_true_intro rfl
theorem sc_ns {j : Str} : scal .non (.str j) = true ↔ True := iff_true_intro rfl
theorem sc_sn {j : Str} : scal (.str j) .non = true ↔ True := iff_true_intro rfl
theorem sc_ni {j : Int} : scal .non (.int j) = true ↔ True := iff_true_intro rfl
theorem sc_in {j : Int} : scal (.int j) .non = true ↔ True := iff_true_intro rfl
theorem tri (t : Int) : (t + 1) * (t + 1 + 1) / 2 = t * (t + 1) / 2 + (t + 1) := by
  have e : (t + 1) * (t + 1 + 1) = t * (t + 1) + 2 * (t + 1) := by
    rw [Int.mul_add (t + 1) (t + 1) 1, Int.add_mul t 1 (t + 1)]
    omega
  rw [e]
  omega
theorem atI_in {α : Type} {xs : List α} {i : Int} (h0 : 0 ≤ i) (h : i < xs.length) : atI xs i = some (xs[i.toNat]'(by omega)) := by
  unfold atI ixN
  rw [if_pos h0, if_pos h]
  show xs[i.toNat]? = _
  exact List.getElem?_eq_getElem _
theorem atI_map {ns : List Int} {i : Int} (h0 : 0 ≤ i) (h : i < ns.length) : ∃ n, n ∈ ns ∧ atI (ns.map V.int) i = some (.int n) := by
  have h2 : i < ((ns.map V.int).length : Nat) := by rw [List.length_map]; exact h
  refine ⟨ns[i.toNat]'(by omega), List.getElem_mem _, ?_⟩
  rw [atI_in h0 h2, List.getElem_map]
theorem two_pow (n : Nat) : (2 : Int) ^ n = ((2 ^ n : Nat) : Int) := by
  rw [Int.natCast_pow]; rfl
theorem abs_lt {i : Int} {n : Nat} (h0 : 0 ≤ i) (h : i < 2 ^ n) : i.natAbs < 2 ^ n := by
  rw [two_pow] at h
  omega
theorem pow_bits {i : Int} {n m : Nat} (hn : 0 < n) (h0 : 0 ≤ i) (h : i < 2 ^ n) (hm : n * m ≤ 2 ^ 27) : 0 ≤ (m : Int) ∧ (Builtin.Int.intBits i : Int) * (m : Int) ≤ 2 ^ 27 := by
  have h2 := bits_le hn (abs_lt h0 h)
  refine ⟨by omega, ?_⟩
  have h3 : Builtin.Int.intBits i * m ≤ 2 ^ 27 := Nat.le_trans (Nat.mul_le_mul_right m h2) hm
  have h4 : ((Builtin.Int.intBits i * m : Nat) : Int) ≤ ((2 ^ 27 : Nat) : Int) := Int.ofNat_le.mpr h3
  rw [Int.natCast_mul] at h4
  exact h4
theorem mul_w {i j : Int} {n : Nat} (hn : 0 < n) (h0 : 0 ≤ i) (h : i < 2 ^ n) (h1 : 0 ≤ j) (h2 : j < 2 ^ n) (hm : n + n ≤ 1000000) : CMulW i j := wide_mul (a := n) (b := n) (abs_lt h0 h) (abs_lt h1 h2) hn hn hm
theorem div_w {i j : Int} {n : Nat} (hn : 0 < n) (h0 : 0 < j) (h : j < 2 ^ n) (hm : n ≤ 9000) : CDivW i j := wide_div h0 (b := n) (abs_lt (by omega) h) hn hm
end Vg


set_option Elab.async false
set_option linter.all false
set_option maxRecDepth 100000
set_option maxHeartbeats 2000000
namespace Vg
open PySem PySem.Spec PyProof.Rows L2

/-! ### data of any kind, dicts within -/
def keyD : Key → PyData
  | .inl i => .int i
  | .inr x => .str x
mutual
inductive Dq (K : PySem.W.Frag) (H : Hp) : V → PyData → Prop
  | non : Dq K H .non .none
  | bl (b : Bool) : Dq K H (.bl b) (.bool b)
  | int (i : Int) : Dq K H (.int i) (.int i)
  | str (x : Str) : Dq K H (.str x) (.str x)
  | lst {a : Addr} {xs : List V} {ds : List PyData} : SqL K H a xs → DqAll K H xs ds → Dq K H (.ref a) (.list ds)
  | tup {a : Addr} {xs : List V} {ds : List PyData} : SqT K H a xs → DqAll K H xs ds → Dq K H (.ref a) (.tuple ds)
  | dct {a : Addr} {kvs : List (Key × V)} {ps : List (PyData × PyData)} : H a = some (.dK kvs) → ps.map (·.1) = kvs.map (fun kv => keyD kv.1) → DqAll K H (kvs.map (·.2)) (ps.map (·.2)) → Dq K H (.ref a) (.dict ps)
inductive DqAll (K : PySem.W.Frag) (H : Hp) : List V → List PyData → Prop
  | nil : DqAll K H [] []
  | cons {v : V} {vs : List V} {d : PyData} {ds : List PyData} : Dq K H v d → DqAll K H vs ds → DqAll K H (v :: vs) (d :: ds)
end
/-- sys.modules stands -/
def SM (bs : Heap) : Prop := ∃ mm, bs.Ns sysModules mm
section
variable {X : Cx} {pins : List (Addr × Obj)} {σ : L2.St} {H : Hp} {s : Shared}
theorem SM.ne (m : SM X.base) (I : L2.Inv X pins σ H s) {a : Addr} {o : Obj} {its : Array Value} {n : Nat} (h : s.heap.get? a = some o) (hd : o.data = .seq its n) : sysModules ≠ a := by
  intro e
  obtain ⟨mm, ob, es, ep, h1, h2, _⟩ := m
  have h3 := I.bk _ _ h1
  rw [e, h] at h3
  cases h3
  rw [hd] at h2
  cases h2
theorem keys_reads {P : Program} {w : World} {h : Heap} : ∀ {es : List DictEntry} {vs : List (Key × Value)}, Pairs (mixKind P w) es vs → ReadsAll h (es.map (·.key)) (vs.map fun kv => keyD kv.1) []
  | _, _, .nil => .nil
  | _, _, .cons (e := e) (kv := kv) h1 h2 r => by
    have ih := keys_reads (h := h) r
    rcases keyIs_shape (show keyIs kv.1 e.key = true from h1) with ⟨i, t, e1, e2⟩ | ⟨x, t, e1, e2⟩
    · rw [List.map_cons, List.map_cons, e2, e1]
      exact ReadsAll.cons (Reads.int i t) ih
    · rw [List.map_cons, List.map_cons, e2, e1]
      exact ReadsAll.cons (Reads.str x t) ih
theorem vals_of_pairs {P : Program} {w : World} : ∀ {es : List DictEntry} {vs : List (Key × Value)} {kvs : List (Key × V)}, Pairs (mixKind P w) es vs → KV kvs vs → Vals (kvs.map (·.2)) (es.map (·.val)) ∧ kvs.map (fun kv => keyD kv.1) = vs.map (fun kv => keyD kv.1)
  | _, _, _, .nil, .nil => ⟨.nil, rfl⟩
  | _, _, _, .cons h1 h2 r, .cons p q => by
    obtain ⟨i1, i2⟩ := vals_of_pairs r q
    refine ⟨.cons (by show L2.RelV _ (DictEntry.val _); rw [h2]; exact p.2) i1, ?_⟩
    rw [List.map_cons, List.map_cons, i2, p.1]
theorem size_snd : ∀ ps : List (PyData × PyData), sizeOf (ps.map (·.2)) ≤ sizeOf ps
  | [] => Nat.le_refl _
  | (k, v) :: r => by
    have := size_snd r
    simp only [List.map_cons, List.cons.sizeOf_spec, Prod.mk.sizeOf_spec]
    omega
mutual
theorem Dq.reads (m : SM X.base) (I : L2.Inv X pins σ H s) : ∀ (d : PyData) (v : V) (u : Value), Dq X.K H v d → RelV v u → ∃ as, Reads s.heap u d as ∧ sysModules ∉ as
  | .none, _, _, h, r => by
    cases h
    cases r
    exact ⟨_, Reads.none, List.not_mem_nil⟩
  | .bool b, _, _, h, r => by
    cases h
    cases r
    exact ⟨_, Reads.bool b, List.not_mem_nil⟩
  | .int i, _, _, h, r => by
    cases h
    obtain ⟨t, rfl⟩ := r
    exact ⟨_, Reads.int i t, List.not_mem_nil⟩
  | .str x, _, _, h, r => by
    cases h
    obtain ⟨t, rfl⟩ := r
    exact ⟨_, Reads.str x t, List.not_mem_nil⟩
  | .list ds, _, _, h, r => by
    cases h with
    | lst hs ha =>
      cases r
      obtain ⟨its, rv, ⟨o, n, ho, hc, _, hd⟩, _⟩ := I.list hs
      obtain ⟨as, hr, hn⟩ := DqAll.reads m I ds _ its ha rv
      exact ⟨_, Reads.list ho hc hd hr, fun z => (List.mem_cons.mp z).elim (m.ne I ho hd) hn⟩
  | .tuple ds, _, _, h, r => by
    cases h with
    | tup hs ha =>
      cases r
      obtain ⟨its, rv, ⟨o, ho, hc, n, hd⟩, _⟩ := I.tuple hs
      obtain ⟨as, hr, hn⟩ := DqAll.reads m I ds _ its ha rv
      exact ⟨_, Reads.tuple ho hc hd hr, hn⟩
  | .dict ps, _, _, h, r => by
    cases h with
    | dct hd hk ha =>
      cases r
      obtain ⟨_, lo, vs, kv, o, es, ep, ho, ex, hdat, _, pr, _⟩ := I.hok _ _ hd
      obtain ⟨v1, v2⟩ := vals_of_pairs pr kv
      obtain ⟨as, hr, hn⟩ := DqAll.reads m I (ps.map (·.2)) _ _ ha v1
      have hkeys := keys_reads (h := s.heap) pr
      rw [← v2, ← hk] at hkeys
      refine ⟨_, Reads.dict ho ex.1 hdat hkeys hr, fun z => ?_⟩
      rcases List.mem_cons.mp z with z | z
      · exact (beq_eq_false_iff_ne.mp lo) z.symm
      · exact hn z
termination_by d => sizeOf d
decreasing_by
  all_goals first
  | (simp only [PyData.dict.sizeOf_spec]; have := size_snd ps; omega)
  | (simp only [PyData.list.sizeOf_spec]; omega)
  | (simp only [PyData.tuple.sizeOf_spec]; omega)
theorem DqAll.reads (m : SM X.base) (I : L2.Inv X pins σ H s) : ∀ (ds : List PyData) (vs : List V) (us : List Value), DqAll X.K H vs ds → Vals vs us → ∃ as, ReadsAll s.heap us ds as ∧ sysModules ∉ as
  | [], _, _, h, r => by
    cases h
    cases r
    exact ⟨_, ReadsAll.nil, List.not_mem_nil⟩
  | d :: ds, _, _, h, r => by
    cases h with
    | cons h1 h2 =>
      cases r with
      | cons r1 r2 =>
        obtain ⟨as, q1, n1⟩ := Dq.reads m I d _ _ h1 r1
        obtain ⟨bs, q2, n2⟩ := DqAll.reads m I ds _ _ h2 r2
        exact ⟨_, ReadsAll.cons q1 q2, fun z => (List.mem_append.mp z).elim n1 n2⟩
termination_by ds => sizeOf ds
decreasing_by all_goals (simp only [List.cons.sizeOf_spec]; omega)
end
end
mutual
theorem Dq.of {K : PySem.W.Frag} {H : Hp} : ∀ {v : V} {d : PyData}, Dp K H v d → Dq K H v d
  | _, _, .non => .non
  | _, _, .bl b => .bl b
  | _, _, .int i => .int i
  | _, _, .str x => .str x
  | _, _, .lst h a => .lst h (DqAll.of a)
  | _, _, .tup h a => .tup h (DqAll.of a)
theorem DqAll.of {K : PySem.W.Frag} {H : Hp} : ∀ {v : List V} {d : List PyData}, DpAll K H v d → DqAll K H v d
  | _, _, .nil => .nil
  | _, _, .cons h r => .cons (Dq.of h) (DqAll.of r)
end
mutual
theorem Dq.mono {K : PySem.W.Frag} {H H' : Hp} (s : Same H H') : ∀ {v : V} {d : PyData}, Dq K H v d → Dq K H' v d
  | _, _, .non => .non
  | _, _, .bl b => .bl b
  | _, _, .int i => .int i
  | _, _, .str x => .str x
  | _, _, .lst h a => .lst (s.seq h) (DqAll.mono s a)
  | _, _, .tup (a := p) (xs := xs) h a => .tup (by
      rcases h with (h | ⟨o, h⟩) | h
      · exact Or.inl (Or.inl (s _ _ h))
      · exact Or.inl (Or.inr ⟨o, s _ _ h⟩)
      · exact Or.inr h) (DqAll.mono s a)
  | _, _, .dct h k a => .dct (s _ _ h) k (DqAll.mono s a)
theorem DqAll.mono {K : PySem.W.Frag} {H H' : Hp} (s : Same H H') : ∀ {v : List V} {d : List PyData}, DqAll K H v d → DqAll K H' v d
  | _, _, .nil => .nil
  | _, _, .cons h r => .cons (Dq.mono s h) (DqAll.mono s r)
end
/-- as Shw, dicts within -/
structure Shq (n k : Nat) (d : PyData) : Prop where
  sh : d.showable = true
  dp : d.depth ≤ k
  sz : d.shown.length ≤ n
theorem Shw.q {n k : Nat} {d : PyData} (h : Shw n k d) : Shq n k d := ⟨h.sh, h.dp, h.sz⟩
theorem Shq.up {n k m j : Nat} {d : PyData} (h : Shq n k d) (h1 : n ≤ m) (h2 : k ≤ j) : Shq m j d := ⟨h.sh, Nat.le_trans h.dp h2, Nat.le_trans h.sz h1⟩
theorem Shq.lst {n k : Nat} {ds : List PyData} (h : ∀ d ∈ ds, Shq n k d) : Shq (ds.length * (n + 2) + 2) (k + 1) (.list ds) := by
  refine ⟨?_, ?_, ?_⟩
  · rw [PyData.showable]
    exact showableAll_all ds fun d hd => (h d hd).sh
  · simp only [PyData.depth]
    have := depthAll_le ds fun d hd => (h d hd).dp
    omega
  · rw [PyData.shown, shownAll_map]
    refine Nat.le_trans (listText_le _) ?_
    have := lt_one (n := n) (ds.map PyData.shown) (by
      intro t ht
      obtain ⟨d, hd, rfl⟩ := List.mem_map.mp ht
      exact (h d hd).sz)
    rw [List.length_map] at this
    omega
theorem Shq.tup {n k : Nat} {ds : List PyData} (h : ∀ d ∈ ds, Shq n k d) : Shq (ds.length * (n + 2) + 2) (k + 1) (.tuple ds) := by
  refine ⟨?_, ?_, ?_⟩
  · rw [PyData.showable]
    exact showableAll_all ds fun d hd => (h d hd).sh
  · simp only [PyData.depth]
    have := depthAll_le ds fun d hd => (h d hd).dp
    omega
  · rw [PyData.shown, shownAll_map]
    refine Nat.le_trans (fmt_text _) ?_
    have := lt_one (n := n) (ds.map PyData.shown) (by
      intro t ht
      obtain ⟨d, hd, rfl⟩ := List.mem_map.mp ht
      exact (h d hd).sz)
    rw [List.length_map] at this
    omega
/-! ### repr of these -/
def RepQ (K : PySem.W.Frag) (x : V) (H : Hp) (G : Str → Prop) : Prop := ∃ d, Dq K H x d ∧ Shq 16000000 60 d ∧ G d.shown
def rReprQ (K : PySem.W.Frag) : List V → Hp → VK → Prop := fun xs H Q => ∃ x, xs = [x] ∧ RepQ K x H fun t => Q (.str t) H
theorem x_reprQ {K : PySem.W.Frag} {x : V} {H : Hp} {Q : VK} : rReprQ K [x] H Q ↔ RepQ K x H fun t => Q (.str t) H := ⟨fun ⟨_, e, q⟩ => by cases e; exact q, fun q => ⟨x, rfl, q⟩⟩
theorem call_reprQ {X : Cx} {n : Nat} (g : X.A.guards = some []) (r : Room n X.A) (m : SM X.base) : CallR X (.builtin "repr") (rReprQ X.K) := by
  intro pins s σ H xs us Q I rv h
  obtain ⟨x, rfl, d, hd, sw, q⟩ := h
  obtain ⟨u, rfl, ru⟩ := vals1 rv
  have hz : d.shown.length ≤ sizeLine := Nat.le_trans sw.sz (by decide)
  have hu := r.units
  obtain ⟨as, rd, hno⟩ := Dq.reads m I _ _ _ hd ru
  have rest : ∀ a, u = Value.ref a → wpAny (model X.prog X.w) X.A (call (.builtin "repr") [u]) (EP X pins σ Q) X.xe s := by
    rintro a rfl
    refine repr_of_reads' rd sw.sh (fun _ => hno) g (by have := sw.dp; omega) (fun _ _ z => z) (fun h' u tk hk => ?_) hz
    exact ⟨.str _, H, I.call' (s' := { s with heap := h', toks := tk }) (ch := []) rfl (Un.kept hk) (I.hok.kept hk) I.bare (fun b z => (List.not_mem_nil z).elim), ⟨u, rfl⟩, q⟩
  cases hd with
  | non =>
    cases ru
    rw [PyData.shown] at q
    exact PySem.P.repr_of_none ⟨.str _, H, I.tok _, ⟨_, rfl⟩, q⟩
  | bl b =>
    cases ru
    rw [PyData.shown] at q
    exact PySem.P.repr_of_bool ⟨.str _, H, I.tok _, ⟨_, rfl⟩, q⟩
  | int i =>
    obtain ⟨t, rfl⟩ := ru
    have hs := sw.sh
    rw [PyData.showable] at hs
    rw [PyData.shown] at q
    exact PySem.P.repr_of_int (of_decide_eq_true hs) ⟨.str _, H, I.tok _, ⟨_, rfl⟩, q⟩
  | str y =>
    obtain ⟨t, rfl⟩ := ru
    rw [PyData.shown] at hz q
    exact PySem.P.repr_of_str ⟨.str _, H, I.tok _, ⟨_, rfl⟩, q⟩ hz
  | lst hs ha => exact rest _ ru
  | tup hs ha => exact rest _ ru
  | dct hs hk ha => exact rest _ ru
/-! ### == of two lists of other lengths; list.count of flat things -/
def LenNe (K : PySem.W.Frag) (a b : Addr) (H : Hp) : Prop := ∃ xs ys : List V, SqL K H a xs ∧ SqL K H b ys ∧ xs.length ≠ ys.length
def rEqL (K : PySem.W.Frag) : R2 := fun x y H Q => rEqD K x y H Q ∨ ∃ a b, x = .ref a ∧ y = .ref b ∧ LenNe K a b H ∧ Q (.bl false) H
theorem op_eqL {X : Cx} (hu : X.A.units + 64 < cLine) : OpR X (compareOp .Eq) (rEqL X.K) := by
  intro pins s σ H x y v u Q I rx ry h
  rcases h with h | ⟨a, b, rfl, rfl, ⟨xs, ys, h1, h2, ne⟩, q⟩
  · exact op_eqD hu pins s σ H x y v u Q I rx ry h
  · cases rx
    cases ry
    obtain ⟨i1, r1, p1, _⟩ := I.list h1
    obtain ⟨i2, r2, p2, _⟩ := I.list h2
    refine SeqAt.eq_list_lengthsAt p1.isList p2.isList ?_ (by omega) ⟨.bl _, H, I, rfl, q⟩
    rw [bne_iff_ne, List.size_toArray, List.size_toArray, ← r1.length, ← r2.length]
    exact ne
def rCnt (K : PySem.W.Frag) : V → List V → Hp → VK → Prop := fun x vs H Q => ∃ (p : Addr) (xs : List V) (y : V), x = .ref p ∧ vs = [y] ∧ SqL K H p xs ∧ flatV y = true ∧ xs.all flatV = true ∧ Q (.int (xs.countP fun z => eqV z y : Nat)) H
theorem countP_eqU {y : V} : ∀ {xs : List V} {us : List Value}, Vals xs us → xs.all flatV = true → us.countP (eqU y) = xs.countP fun z => eqV z y
  | _, _, .nil, _ => rfl
  | _, _, .cons r rr, h => by
    rw [List.all_cons, Bool.and_eq_true] at h
    rw [List.countP_cons, List.countP_cons, countP_eqU rr h.2, eqU_of r h.1]
theorem mt_count {X : Cx} : MtR X "list.count" (rCnt X.K) := by
  intro pins s σ H x xs v us Q I rx rxs h
  obtain ⟨p, zs, y, rfl, rfl, hs, fy, fz, q⟩ := h
  cases rx
  obtain ⟨u, rfl, ru⟩ := rxs.one
  obtain ⟨its, rv, ⟨⟨cls, dd, data, sl⟩, n, ho, hc, hdn, hd⟩, hlen⟩ := I.list hs
  simp only at hc hd
  subst hc hd
  refine call_meets PySem.F.slot_list_count ⟨_, ho, rfl⟩ PySem.F.entry_list_count (PySem.F.args_list_count_2 _ _)
    (SeqAt.list_countAt p its.toArray n dd sl u (eqU y)) ⟨ho, fun z hz => mem_eqAt ru fy rv fz z (by simpa using hz), ?_⟩
  refine ⟨.int (zs.countP fun z => eqV z y : Nat), H, I.tok _, ⟨s.toks, ?_⟩, q⟩
  show Value.int ((its.toArray.toList.countP (eqU y) : Nat) : Int) s.toks = _
  rw [show its.toArray.toList = its from rfl, countP_eqU rv fz]
/-! ### forms -/
theorem pe_low {X : Cx} {e : Expr} {t t' : TE} (h : PE X e t) (i : ∀ σ H Q, t' σ H Q → t σ H Q) : PE X e t' := ⟨fun pins s σ H Q I q => h.run pins s σ H Q I (i _ _ _ q)⟩
def CntK (K : PySem.W.Frag) (y : V) (p : Addr) (H : Hp) (G : Int → Prop) : Prop := ∃ xs, SqL K H p xs ∧ flatV y = true ∧ xs.all flatV = true ∧ G (xs.countP fun z => eqV z y : Nat)
def RvLK (K : PySem.W.Frag) (a : Addr) (H : Hp) (G : Addr → Hp → Prop) : Prop := ∃ xs, SqL K H a xs ∧ NewK (.lst xs.reverse) H G
def TupK (K : PySem.W.Frag) (a : Addr) (H : Hp) (G : Addr → Hp → Prop) : Prop := ∃ xs, SqL K H a xs ∧ NewK (.tup xs) H G
def rTupL (K : PySem.W.Frag) : List V → Hp → VK → Prop := fun xs H Q => ∃ p, xs = [.ref p] ∧ TupK K p H fun r H1 => Q (.ref r) H1
theorem cr_tupL {X : Cx} : CallR X (.type "tuple") (rTupL X.K) := CallR.as call_tuple_of fun _ _ _ ⟨p, e, ys, h, q⟩ => ⟨p, ys, e, Or.inl ⟨h, q⟩⟩
def tD1 (s : Str) (v : V) : TE := fun _ H Q => NewK (.dK [(.inr s, v)]) H fun p H1 => Q (.ref p) H1
section
variable {K : PySem.W.Frag} {H : Hp} {Q : VK} {σ : L2.St} {te : TE}
theorem x_cnt {p : Addr} {y : V} : rCnt K (.ref p) [y] H Q ↔ CntK K y p H fun n => Q (.int n) H := ⟨fun ⟨_, xs, _, e, e2, h, f1, f2, q⟩ => by cases e; cases e2; exact ⟨xs, h, f1, f2, q⟩, fun ⟨xs, h, f1, f2, q⟩ => ⟨p, xs, y, rfl, rfl, h, f1, f2, q⟩⟩
theorem e_revL : tRevL K te σ H Q ↔ te σ H fun x H1 => ∃ a, x = .ref a ∧ RvLK K a H1 fun p H2 => Q (.ref p) H2 := Iff.of_eq (congrArg (te σ H) (funext fun x => funext fun H1 => propext ⟨fun ⟨a, xs, e, h, q⟩ => ⟨a, e, xs, h, q⟩, fun ⟨a, e, xs, h, q⟩ => ⟨a, xs, e, h, q⟩⟩))
theorem x_tupL {p : Addr} : rTupL K [.ref p] H Q ↔ TupK K p H fun r H1 => Q (.ref r) H1 := ⟨fun ⟨_, e, q⟩ => by cases e; exact q, fun q => ⟨p, rfl, q⟩⟩
theorem e_dn : tDNewK σ H Q = NewK (.dK []) H fun p H2 => Q (.ref p) H2 := propext ⟨fun h => h, fun h => h⟩
theorem e_d1 {s : Str} {v : V} : tD1 s v σ H Q = NewK (.dK [(.inr s, v)]) H fun p H1 => Q (.ref p) H1 := propext ⟨fun h => h, fun h => h⟩
end
theorem upd_upd {H : Hp} {p : Addr} {o o' : HO} : upd (upd H p o) p o' = upd H p o' := by
  funext a
  by_cases c : a = p
  · rw [c, upd_same, upd_same]
  · rw [upd_ne c, upd_ne c, upd_ne c]
theorem pe_d1 {X : Cx} {pos : Pos} {k e : Expr} {s : Str} {v : V} (hk : PE X k (tC (.str s))) (he : PE X e (tC v)) : PE X (.Dict [some k] [e] pos) (tD1 s v) := by
  refine pe_low (pe_disp (pps_cons hk he pps_nil) rfl rfl (List.cons_ne_nil _ _) (by show 1 ≤ 15; decide)) fun σ H Q q p hp => ?_
  refine ⟨upd_same, [(.inr s, v)], rfl, (by show 1 ≤ 15; decide), ?_⟩
  have := q p hp
  rw [show mergeK [] [(Sum.inr s, v)] = [(Sum.inr s, v)] from rfl, upd_upd]
  exact this
section
variable {K : PySem.W.Frag} {H : Hp} {Q : VK}
theorem x_isI_list {x : Int} : rIs K [.int x, .ty "list"] H Q ↔ Q (.bl false) H := x_is (.base (.int x)) (fun _ => ty_int) (by decide +kernel)
theorem x_isI_str {x : Int} : rIs K [.int x, .ty "str"] H Q ↔ Q (.bl false) H := x_is (.base (.int x)) (fun _ => ty_int) (by decide +kernel)
theorem x_isI_dict {x : Int} : rIs K [.int x, .ty "dict"] H Q ↔ Q (.bl false) H := x_is (.base (.int x)) (fun _ => ty_int) (by decide +kernel)
theorem x_isI_tuple {x : Int} : rIs K [.int x, .ty "tuple"] H Q ↔ Q (.bl false) H := x_is (.base (.int x)) (fun _ => ty_int) (by decide +kernel)
theorem x_isB_list {x : Bool} : rIs K [.bl x, .ty "list"] H Q ↔ Q (.bl false) H := x_is (.base (.bl x)) (fun _ => ty_bl) (by decide +kernel)
theorem x_isB_str {x : Bool} : rIs K [.bl x, .ty "str"] H Q ↔ Q (.bl false) H := x_is (.base (.bl x)) (fun _ => ty_bl) (by decide +kernel)
theorem x_isB_dict {x : Bool} : rIs K [.bl x, .ty "dict"] H Q ↔ Q (.bl false) H := x_is (.base (.bl x)) (fun _ => ty_bl) (by decide +kernel)
theorem x_isB_tuple {x : Bool} : rIs K [.bl x, .ty "tuple"] H Q ↔ Q (.bl false) H := x_is (.base (.bl x)) (fun _ => ty_bl) (by decide +kernel)
theorem x_isN_list : rIs K [.non, .ty "list"] H Q ↔ Q (.bl false) H := x_is (.base .non) (fun _ => ty_non) (by decide +kernel)
theorem x_isN_str : rIs K [.non, .ty "str"] H Q ↔ Q (.bl false) H := x_is (.base .non) (fun _ => ty_non) (by decide +kernel)
theorem x_isN_dict : rIs K [.non, .ty "dict"] H Q ↔ Q (.bl false) H := x_is (.base .non) (fun _ => ty_non) (by decide +kernel)
theorem x_isN_tuple : rIs K [.non, .ty "tuple"] H Q ↔ Q (.bl false) H := x_is (.base .non) (fun _ => ty_non) (by decide +kernel)
theorem x_isS_list {x : Str} : rIs K [.str x, .ty "list"] H Q ↔ Q (.bl false) H := x_is (.base (.str x)) (fun _ => ty_str) (by decide +kernel)
theorem x_isS_dict {x : Str} : rIs K [.str x, .ty "dict"] H Q ↔ Q (.bl false) H := x_is (.base (.str x)) (fun _ => ty_str) (by decide +kernel)
theorem x_isS_tuple {x : Str} : rIs K [.str x, .ty "tuple"] H Q ↔ Q (.bl false) H := x_is (.base (.str x)) (fun _ => ty_str) (by decide +kernel)
theorem IsK.lstL {a : Addr} {n : String} {xs : List V} {b : Bool} {G : Bool → Prop} (h : SqL K H a xs) (k : kitB "list" n = some b) (q : G b) : IsK K a n H G := by
  rcases h with (h | ⟨o, h⟩) | ⟨o, its, m, h, hc, _⟩
  · exact ⟨_, b, .base (.lst h), k, q⟩
  · exact ⟨_, b, .base (.frz h), k, q⟩
  · exact ⟨_, b, .kList h hc, k, q⟩
theorem IsK.dK {a : Addr} {n : String} {kvs : List (Key × V)} {b : Bool} {G : Bool → Prop} (h : H a = some (.dK kvs)) (k : kitB "dict" n = some b) (q : G b) : IsK K a n H G := ⟨_, b, .base (.dK h), k, q⟩
theorem EqL0 {a b : Addr} {xs : List V} (h : SqL K H a xs) (h2 : SqL K H b []) (q : Q (.bl xs.isEmpty) H) : rEqL K (.ref a) (.ref b) H Q := by
  cases xs with
  | nil => exact Or.inl (EqD.nil (k := 1) h .nil (fun _ z => (List.not_mem_nil z).elim) (by decide) h2 q)
  | cons x r => exact Or.inr ⟨a, b, rfl, rfl, ⟨_, _, h, h2, by simp⟩, q⟩
end
/-! ### how long a list's text is -/
def Wt (ds : List PyData) : Nat := piled (ds.map PyData.shown)
theorem piled_app (a b : List Str) : piled (a ++ b) = piled a + piled b := by
  induction a with
  | nil => simp [piled]
  | cons x r ih => unfold piled at *; simp only [List.cons_append, List.map_cons, List.sum_cons] at *; omega
theorem Wt.nil : Wt [] = 0 := rfl
theorem Wt.cons (d : PyData) (ds : List PyData) : Wt (d :: ds) = d.shown.length + 2 + Wt ds := by unfold Wt piled; simp only [List.map_cons, List.sum_cons]
theorem Wt.app (a b : List PyData) : Wt (a ++ b) = Wt a + Wt b := by unfold Wt; rw [List.map_append, piled_app]
theorem Wt.take (ds : List PyData) (n : Nat) : Wt (ds.take n) ≤ Wt ds := by
  have := Wt.app (ds.take n) (ds.drop n)
  rw [List.take_append_drop] at this
  omega
theorem Wt.drop (ds : List PyData) (n : Nat) : Wt (ds.drop n) ≤ Wt ds := by
  have := Wt.app (ds.take n) (ds.drop n)
  rw [List.take_append_drop] at this
  omega
theorem Wt.rev (ds : List PyData) : Wt ds.reverse = Wt ds := by
  induction ds with
  | nil => rfl
  | cons d r ih => rw [List.reverse_cons, Wt.app, ih, Wt.cons, Wt.cons, Wt.nil]; omega
structure Shd (k : Nat) (d : PyData) : Prop where
  sh : d.showable = true
  dp : d.depth ≤ k
theorem Shd.lst {k : Nat} {ds : List PyData} (h : ∀ d ∈ ds, Shd k d) : Shq (Wt ds + 2) (k + 1) (.list ds) := by
  refine ⟨?_, ?_, ?_⟩
  · rw [PyData.showable]
    exact showableAll_all ds fun d hd => (h d hd).sh
  · simp only [PyData.depth]
    have := depthAll_le ds fun d hd => (h d hd).dp
    omega
  · rw [PyData.shown, shownAll_map]
    exact listText_le _
theorem Shd.tup {k : Nat} {ds : List PyData} (h : ∀ d ∈ ds, Shd k d) : Shq (Wt ds + 2) (k + 1) (.tuple ds) := by
  refine ⟨?_, ?_, ?_⟩
  · rw [PyData.showable]
    exact showableAll_all ds fun d hd => (h d hd).sh
  · simp only [PyData.depth]
    have := depthAll_le ds fun d hd => (h d hd).dp
    omega
  · rw [PyData.shown, shownAll_map]
    exact fmt_text _
theorem Shq.d {n k : Nat} {d : PyData} (h : Shq n k d) : Shd k d := ⟨h.sh, h.dp⟩
theorem Shd.up {k j : Nat} {d : PyData} (h : Shd k d) (h2 : k ≤ j) : Shd j d := ⟨h.sh, Nat.le_trans h.dp h2⟩
section
variable {K : PySem.W.Frag} {H : Hp}
theorem DqAll.app : ∀ {xs ys : List V} {ds es : List PyData}, DqAll K H xs ds → DqAll K H ys es → DqAll K H (xs ++ ys) (ds ++ es)
  | _, _, _, _, .nil, h => h
  | _, _, _, _, .cons h r, h2 => .cons h (DqAll.app r h2)
theorem DqAll.take : ∀ {xs : List V} {ds : List PyData} (n : Nat), DqAll K H xs ds → DqAll K H (xs.take n) (ds.take n)
  | _, _, 0, _ => .nil
  | _, _, n + 1, .nil => .nil
  | _, _, n + 1, .cons h r => .cons h (DqAll.take n r)
theorem DqAll.drop : ∀ {xs : List V} {ds : List PyData} (n : Nat), DqAll K H xs ds → DqAll K H (xs.drop n) (ds.drop n)
  | _, _, 0, h => h
  | _, _, n + 1, .nil => .nil
  | _, _, n + 1, .cons h r => DqAll.drop n r
theorem DqAll.rev : ∀ {xs : List V} {ds : List PyData}, DqAll K H xs ds → DqAll K H xs.reverse ds.reverse
  | _, _, .nil => .nil
  | _, _, .cons h r => by
    rw [List.reverse_cons, List.reverse_cons]
    exact (DqAll.rev r).app (.cons h .nil)
theorem DqAll.len : ∀ {xs : List V} {ds : List PyData}, DqAll K H xs ds → xs.length = ds.length
  | _, _, .nil => rfl
  | _, _, .cons h r => by rw [List.length_cons, List.length_cons, DqAll.len r]
theorem DqAll.at : ∀ {xs : List V} {ds : List PyData} {i : Nat} {x : V}, DqAll K H xs ds → xs[i]? = some x → ∃ d, ds[i]? = some d ∧ Dq K H x d
  | _, _, 0, _, .cons h r, e => by cases e; exact ⟨_, rfl, h⟩
  | _, _, i + 1, _, .cons h r, e => DqAll.at (i := i) r e
end
/-- all that is owned goes to the base -/
theorem Led.sinkAll {H : Hp} : ∀ {l : List (Addr × HO)} {B : Hp}, Led B H l → ∃ B', Same B B' ∧ (∀ e ∈ l, B' e.1 = some e.2) ∧ Led B' H []
  | [], B, L => ⟨B, Same.refl B, fun e he => (List.not_mem_nil he).elim, L⟩
  | (p, o) :: l, B, L => by
    obtain ⟨B1, s1, h1, L1⟩ := L.sink
    obtain ⟨B2, s2, h2, L2⟩ := Led.sinkAll L1
    refine ⟨B2, s1.trans s2, fun e he => ?_, L2⟩
    rcases List.mem_cons.mp he with z | z
    · rw [z]; exact s2 _ _ h1
    · exact h2 e z
/-! ### lists whose text is short -/
def DW (K : PySem.W.Frag) (H : Hp) (m W k : Nat) (xs : List V) : Prop := ∃ ds, DqAll K H xs ds ∧ Wt ds ≤ W ∧ (∀ d ∈ ds, Shd k d) ∧ xs.length ≤ m
section
variable {K : PySem.W.Frag} {H H' : Hp} {m W k m2 W2 k2 : Nat} {xs ys : List V}
theorem DW.mono (s : Same H H') (h : DW K H m W k xs) : DW K H' m W k xs := by
  obtain ⟨ds, h1, h2⟩ := h
  exact ⟨ds, h1.mono s, h2⟩
theorem DW.up (h : DW K H m W k xs) (h1 : m ≤ m2) (h2 : W ≤ W2) (h3 : k ≤ k2) : DW K H m2 W2 k2 xs := by
  obtain ⟨ds, q1, q2, q3, q4⟩ := h
  exact ⟨ds, q1, by omega, fun d hd => (q3 d hd).up h3, by omega⟩
theorem DW.nil : DW K H 0 0 k [] := ⟨[], .nil, Nat.le_refl _, fun d hd => (List.not_mem_nil hd).elim, Nat.le_refl _⟩
theorem DW.one {v : V} {d : PyData} {n : Nat} (h : Dq K H v d) (w : Shq n k d) : DW K H 1 (n + 2) k [v] :=
  ⟨[d], .cons h .nil, by rw [Wt.cons, Wt.nil]; have := w.sz; omega, fun e he => by rw [List.mem_singleton.mp he]; exact w.d, Nat.le_refl _⟩
theorem DW.app (h : DW K H m W k xs) (h2 : DW K H m2 W2 k ys) : DW K H (m + m2) (W + W2) k (xs ++ ys) := by
  obtain ⟨ds, q1, q2, q3, q4⟩ := h
  obtain ⟨es, r1, r2, r3, r4⟩ := h2
  exact ⟨ds ++ es, q1.app r1, by rw [Wt.app]; omega, fun d hd => (List.mem_append.mp hd).elim (q3 d) (r3 d), by rw [List.length_append]; omega⟩
theorem DW.rev (h : DW K H m W k xs) : DW K H m W k xs.reverse := by
  obtain ⟨ds, q1, q2, q3, q4⟩ := h
  exact ⟨ds.reverse, q1.rev, by rw [Wt.rev]; exact q2, fun d hd => q3 d (List.mem_reverse.mp hd), by rw [List.length_reverse]; exact q4⟩
theorem DW.cut {lo hi : Option Int} (h : DW K H m W k xs) : DW K H m W k (cutV xs lo hi) := by
  obtain ⟨ds, q1, q2, q3, q4⟩ := h
  unfold cutV
  refine ⟨_, (q1.drop _).take _, Nat.le_trans (Wt.take _ _) (Nat.le_trans (Wt.drop _ _) q2), fun d hd => q3 d (List.mem_of_mem_drop (List.mem_of_mem_take hd)), ?_⟩
  rw [List.length_take, List.length_drop]
  omega
theorem DW.at {i : Nat} {x : V} (h : DW K H m W k xs) (e : xs[i]? = some x) : ∃ d, Dq K H x d ∧ Shq W k d := by
  obtain ⟨ds, q1, q2, q3, q4⟩ := h
  obtain ⟨d, hd, r⟩ := q1.at e
  have hm := List.mem_of_getElem? hd
  refine ⟨d, r, (q3 d hm).sh, (q3 d hm).dp, ?_⟩
  have : ∀ es : List PyData, d ∈ es → d.shown.length ≤ Wt es := by
    intro es he
    induction es with
    | nil => cases he
    | cons e r ih =>
      rw [Wt.cons]
      rcases List.mem_cons.mp he with z | z
      · rw [z]; omega
      · have := ih z; omega
  exact Nat.le_trans (this ds hm) q2
theorem DW.lst {p : Addr} (h : DW K H m W k xs) (hp : SqL K H p xs) : ∃ d, Dq K H (.ref p) d ∧ Shq (W + 2) (k + 1) d := by
  obtain ⟨ds, q1, q2, q3, q4⟩ := h
  exact ⟨_, .lst hp q1, (Shd.lst q3).up (by omega) (Nat.le_refl _)⟩
theorem DW.tup {p : Addr} (h : DW K H m W k xs) (hp : SqT K H p xs) : ∃ d, Dq K H (.ref p) d ∧ Shq (W + 2) (k + 1) d := by
  obtain ⟨ds, q1, q2, q3, q4⟩ := h
  exact ⟨_, .tup hp q1, (Shd.tup q3).up (by omega) (Nat.le_refl _)⟩
def isS : V → Bool
  | .str _ => true
  | _ => false
theorem Dq.isStr {v : V} {d : PyData} {Q : VK} (h : Dq K H v d) (q : Q (.bl (isS v)) H) : rIs K [v, .ty "str"] H Q := by
  cases h with
  | non => exact x_isN_str.mpr q
  | bl b => exact x_isB_str.mpr q
  | int i => exact x_isI_str.mpr q
  | str s => exact x_is_ib.mpr q
  | lst h _ => exact x_isR.mpr (IsK.lstL h (show kitB _ "str" = some false by decide +kernel) q)
  | tup h _ =>
    rcases h with (h | ⟨o, h⟩) | ⟨o, its, n, h, hc, _⟩
    · exact x_isR.mpr ⟨_, _, .base (.tup h), (show kitB _ "str" = some false by decide +kernel), q⟩
    · exact x_isR.mpr ⟨_, _, .fTuple h, (show kitB _ "str" = some false by decide +kernel), q⟩
    · exact x_isR.mpr ⟨_, _, .kTuple h hc, (show kitB _ "str" = some false by decide +kernel), q⟩
  | dct h _ _ => exact x_isR.mpr (IsK.dK h (show kitB _ "str" = some false by decide +kernel) q)
end
/-! ### dict(pairs), str(n), int(flag) -/
def DctK (K : PySem.W.Frag) (a : Addr) (H : Hp) (G : Addr → Hp → Prop) : Prop := ∃ ps kvs, SqL K H a (List.map V.ref ps) ∧ Paired (fun p (kv : Key × V) => SqT K H p [kV kv.1, kv.2]) ps kvs ∧ NewK (.dK (mergeK [] kvs)) H G
def rDctP (K : PySem.W.Frag) : List V → Hp → VK → Prop := fun xs H Q => ∃ a, xs = [.ref a] ∧ DctK K a H fun p H1 => Q (.ref p) H1
theorem cr_dctP {X : Cx} (hc : X.calm = true) : CallR X (.type "dict") (rDctP X.K) := CallR.as (call_dictP hc) fun _ _ _ ⟨a, e, ps, kvs, h1, h2, q⟩ => ⟨a, ps, kvs, e, h1, h2, q⟩
def rStrI : List V → Hp → VK → Prop := fun xs H Q => ∃ i : Int, xs = [.int i] ∧ i.natAbs.log2 < 1920 ∧ Q (.str (Str.ofString (toString i))) H
theorem cr_strI {X : Cx} : CallR X (.type "str") rStrI := call_str_int
def rIntB : List V → Hp → VK → Prop := fun xs H Q => ∃ k, xs = [.bl k] ∧ Q (.int (if k = true then 1 else 0)) H
theorem cr_intB {X : Cx} : CallR X (.type "int") rIntB := CallR.as call_int1 fun _ _ _ h => Or.inr h
section
variable {K : PySem.W.Frag} {H : Hp} {Q : VK}
theorem x_dctP {a : Addr} : rDctP K [.ref a] H Q ↔ DctK K a H fun p H1 => Q (.ref p) H1 := ⟨fun ⟨_, e, q⟩ => by cases e; exact q, fun q => ⟨a, rfl, q⟩⟩
theorem x_strI {i : Int} : rStrI [.int i] H Q ↔ i.natAbs.log2 < 1920 ∧ Q (.str (Str.ofString (toString i))) H := ⟨fun ⟨_, e, h, q⟩ => by cases e; exact ⟨h, q⟩, fun ⟨h, q⟩ => ⟨i, rfl, h, q⟩⟩
theorem x_intB {k : Bool} : rIntB [.bl k] H Q ↔ Q (.int (if k = true then 1 else 0)) H := ⟨fun ⟨_, e, q⟩ => by cases e; exact q, fun q => ⟨k, rfl, q⟩⟩
end
def KinK (H : Hp) (a : Addr) (y : V) (G : Bool → Prop) : Prop := ∃ o, DGet H a y o ∧ G o.isSome
section
variable {H : Hp} {Q : VK} {σ : L2.St} {ty td : TE}
theorem e_din : tDIn ty td σ H Q ↔ ty σ H fun y H1 => td σ H1 fun x H2 => ∃ a, x = .ref a ∧ KinK H2 a y fun b => Q (.bl b) H2 := ⟨fun h => (iff_of_eq (congrArg (ty σ H) (funext fun y => funext fun H1 => congrArg (td σ H1) (funext fun x => funext fun H2 => propext ⟨fun ⟨a, o, e, d, q⟩ => ⟨a, e, o, d, q⟩, fun ⟨a, e, o, d, q⟩ => ⟨a, o, e, d, q⟩⟩)))).mp h, fun h => (iff_of_eq (congrArg (ty σ H) (funext fun y => funext fun H1 => congrArg (td σ H1) (funext fun x => funext fun H2 => propext ⟨fun ⟨a, o, e, d, q⟩ => ⟨a, e, o, d, q⟩, fun ⟨a, e, o, d, q⟩ => ⟨a, o, e, d, q⟩⟩)))).mpr h⟩
theorem e_dnin : tDNotIn ty td σ H Q ↔ ty σ H fun y H1 => td σ H1 fun x H2 => ∃ a, x = .ref a ∧ KinK H2 a y fun b => Q (.bl !b) H2 := ⟨fun h => (iff_of_eq (congrArg (ty σ H) (funext fun y => funext fun H1 => congrArg (td σ H1) (funext fun x => funext fun H2 => propext ⟨fun ⟨a, o, e, d, q⟩ => ⟨a, e, o, d, q⟩, fun ⟨a, e, o, d, q⟩ => ⟨a, o, e, d, q⟩⟩)))).mp h, fun h => (iff_of_eq (congrArg (ty σ H) (funext fun y => funext fun H1 => congrArg (td σ H1) (funext fun x => funext fun H2 => propext ⟨fun ⟨a, o, e, d, q⟩ => ⟨a, e, o, d, q⟩, fun ⟨a, e, o, d, q⟩ => ⟨a, o, e, d, q⟩⟩)))).mpr h⟩
end
theorem KinK.str {H : Hp} {a : Addr} {s : Str} {kvs : List (Key × V)} {G : Bool → Prop} (h : H a = some (.dK kvs)) (q : G (valV kvs (Sum.inr s)).isSome) : KinK H a (.str s) G := ⟨_, DGet.k (k := Sum.inr s) h, q⟩
end Vg


set_option Elab.async false
set_option linter.all false
set_option maxRecDepth 100000
set_option maxHeartbeats 2000000
namespace Vg
open PySem PySem.Spec PyProof.Rows L2

/-! ### dicts: d[k], d[k] = v, k in d -/
def DGetK (H : Hp) (a : Addr) (y : V) (G : V → Prop) : Prop := ∃ v, DGet H a y (some v) ∧ G v
def DPutK (H : Hp) (a : Addr) (y v : V) (G : Hp → Prop) : Prop := ∃ H4, DPut H a y v H4 ∧ G H4
/-- an entry of the ledger is replaced, wherever it stands -/
def putL (l : List (Addr × HO)) (p : Addr) (o : HO) : List (Addr × HO) := l.map fun e => if e.1 = p then (p, o) else e
section
variable {K : PySem.W.Frag} {B H : Hp} {l l' : List (Addr × HO)} {p : Addr} {o o' : HO} {σ : L2.St} {Q : VK} {D : Ends} {td ty tv tx : TE}
theorem e_dget : tDGet td ty σ H Q = td σ H fun x H1 => ty σ H1 fun y H2 => ∃ a, x = .ref a ∧ DGetK H2 a y fun v => Q v H2 :=
  congrArg (td σ H) (funext fun x => funext fun H1 => congrArg (ty σ H1) (funext fun y => funext fun H2 => propext ⟨fun ⟨a, v, e, h, q⟩ => ⟨a, e, v, h, q⟩, fun ⟨a, e, v, h, q⟩ => ⟨a, v, e, h, q⟩⟩))
theorem e_dget2 : tDGet2 td ty tx σ H Q = td σ H fun x H1 => ∃ a, x = .ref a ∧ IsD H1 a ∧ ty σ H1 fun y H2 => tx σ H2 fun z H3 => ∃ o, DGet H3 a y o ∧ Q (o.getD z) H3 := propext ⟨fun h => h, fun h => h⟩
theorem s_dput : sDPut td ty tv D σ H = tv σ H fun v H1 => td σ H1 fun x H2 => ty σ H2 fun y H3 => ∃ a, x = .ref a ∧ DPutK H3 a y v fun H4 => D.nx σ H4 :=
  congrArg (tv σ H) (funext fun v => funext fun H1 => congrArg (td σ H1) (funext fun x => funext fun H2 => congrArg (ty σ H2) (funext fun y => funext fun H3 => propext ⟨fun ⟨a, H4, e, h, q⟩ => ⟨a, e, H4, h, q⟩, fun ⟨a, e, H4, h, q⟩ => ⟨a, H4, e, h, q⟩⟩)))
theorem e_dnT : tDNewT σ H Q = NewK (.dT []) H fun p H2 => Q (.ref p) H2 := propext ⟨fun h => h, fun h => h⟩
theorem putL_not (h : p ∉ l.map (·.1)) : putL l p o = l := by
  induction l with
  | nil => rfl
  | cons e r ih =>
    rw [List.map_cons, List.mem_cons, not_or] at h
    show (if e.1 = p then (p, o) else e) :: putL r p o = _
    rw [ih h.2, if_neg fun z => h.1 z.symm]
theorem putL_app (a b : List (Addr × HO)) : putL (a ++ b) p o = putL a p o ++ putL b p o := List.map_append
theorem putL_cons (e : Addr × HO) (b : List (Addr × HO)) : putL (e :: b) p o = (if e.1 = p then (p, o) else e) :: putL b p o := rfl
theorem putL_put (nd : (l.map (·.1)).Nodup) (h : (p, o) ∈ l) : Put l p o' (putL l p o') := by
  induction l with
  | nil => cases h
  | cons e r ih =>
    rw [List.map_cons] at nd
    obtain ⟨n1, n2⟩ := List.nodup_cons.mp nd
    rw [putL_cons]
    rcases List.mem_cons.mp h with z | z
    · rw [← z]
      dsimp only
      rw [if_pos rfl, putL_not (by rw [← z] at n1; exact n1)]
      exact .hd
    · rw [if_neg fun c => n1 (by rw [c]; exact List.mem_map_of_mem (f := (·.1)) z)]
      exact .tl (ih n2 z)
theorem putL_same (nd : (l.map (·.1)).Nodup) (h : (p, o) ∈ l) : putL l p o = l := by
  induction l with
  | nil => rfl
  | cons e r ih =>
    rw [List.map_cons] at nd
    obtain ⟨n1, n2⟩ := List.nodup_cons.mp nd
    rw [putL_cons]
    rcases List.mem_cons.mp h with z | z
    · rw [← z]
      dsimp only
      rw [if_pos rfl, putL_not (by rw [← z] at n1; exact n1)]
    · rw [if_neg fun c => n1 (by rw [c]; exact List.mem_map_of_mem (f := (·.1)) z), ih n2 z]
theorem Led.putL (L : Led B H l) (h : (p, o) ∈ l) : Led B (upd H p o') (putL l p o') := L.put (putL_put L.nd h)
theorem StK.ofM {C dx : Addr} {fs fs' : List (Str × V)} {f : Str} {v : V} {G : Hp → Prop} (L : Led B H l) (m : (p, HO.ins C dx fs) ∈ l) (c : Cls K C) (n : NoAttr K C f) (e : putF f v fs = fs') (k : ∀ H1, Led B H1 (Vg.putL l p (.ins C dx fs')) → G H1) (h : fs.length < 1000 := by first | decide | (simp only [List.length_cons, List.length_nil]; decide) | omega) : StK K p f v H G :=
  ⟨C, dx, fs, L.at m, c, n, h, by rw [e]; exact k _ (L.putL m)⟩
theorem DGetK.k {k : Key} {v : V} {kvs : List (Key × V)} {G : V → Prop} (L : Led B H l) (m : (p, HO.dK kvs) ∈ l) (e : valV kvs k = some v) (q : G v) : DGetK H p (kV k) G := ⟨v, by rw [← e]; exact DGet.k (L.at m), q⟩
theorem DGetK.s {k : Str} {v : V} {kvs : List (Key × V)} {G : V → Prop} (L : Led B H l) (m : (p, HO.dK kvs) ∈ l) (e : valV kvs (.inr k) = some v) (q : G v) : DGetK H p (.str k) G := DGetK.k (k := .inr k) L m e q
theorem DGetK.t {b : Addr} {k : List Key} {v : V} {kvs : List (List Key × V)} {G : V → Prop} (L : Led B H l) (m : (p, HO.dT kvs) ∈ l) (hb : H b = some (.tup (k.map kV))) (e : valV kvs k = some v) (q : G v) : DGetK H p (.ref b) G := ⟨v, by rw [← e]; exact DGet.t (L.at m) hb, q⟩
theorem DPutK.k {k : Key} {v : V} {kvs : List (Key × V)} {G : Hp → Prop} (L : Led B H l) (m : (p, HO.dK kvs) ∈ l) (hl : kvs.length < sizeLine) (t : Put l p (.dK (putK kvs k v)) l') (q : ∀ H1, Led B H1 l' → G H1) : DPutK H p (kV k) v G := ⟨_, DPut.k (L.at m) hl, q _ (L.put t)⟩
theorem DPutK.t {b : Addr} {k : List Key} {v : V} {kvs : List (List Key × V)} {G : Hp → Prop} (L : Led B H l) (m : (p, HO.dT kvs) ∈ l) (hb : H b = some (.tup (k.map kV))) (hl : kvs.length < sizeLine) (t : Put l p (.dT (putK kvs k v)) l') (q : ∀ H1, Led B H1 l' → G H1) : DPutK H p (.ref b) v G := ⟨_, DPut.t (L.at m) hb hl, q _ (L.put t)⟩
theorem KinK.t {b : Addr} {k : List Key} {kvs : List (List Key × V)} {G : Bool → Prop} (L : Led B H l) (m : (p, HO.dT kvs) ∈ l) (hb : H b = some (.tup (k.map kV))) (q : G (valV kvs k).isSome) : KinK H p (.ref b) G := ⟨_, DGet.t (L.at m) hb, q⟩
/-- an entry of the ledger goes to the base -/
theorem Led.sinkM (L : Led B H l) (h : Pick l (p, o) l') : ∃ B', Same B B' ∧ B' p = some o ∧ Led B' H l' := (L.sel (.cons h .all)).sink
end
/-! ### a display of pairs -/
def DoneK (p : Addr) (ps : List (V × V)) (H : Hp) (G : Hp → Prop) : Prop := H p = some (.dK []) ∧ ∃ kvs : List (Key × V), ps = kvs.map (fun kv => (kV kv.1, kv.2)) ∧ kvs.length ≤ 15 ∧ G (upd H p (.dK (mergeK [] kvs)))
section
variable {B H : Hp} {l l' : List (Addr × HO)} {p : Addr} {σ : L2.St} {Q : VK} {trs : List (TE × TE)} {PQ : List (V × V) → Hp → Prop} {tk tv : TE}
theorem e_disp : tDisp trs σ H Q = NewK (.dK []) H fun p H1 => tPairs trs σ H1 fun ps H2 => DoneK p ps H2 fun H3 => Q (.ref p) H3 := propext ⟨fun h => h, fun h => h⟩
theorem tp_nil : tPairs [] σ H PQ = PQ [] H := propext ⟨fun h => h, fun h => h⟩
theorem tp_cons : tPairs ((tk, tv) :: trs) σ H PQ = tk σ H fun x H1 => tv σ H1 fun y H2 => tPairs trs σ H2 fun ps H3 => PQ ((x, y) :: ps) H3 := propext ⟨fun h => h, fun h => h⟩
theorem DoneK.of {ps : List (V × V)} {G : Hp → Prop} (kvs : List (Key × V)) (L : Led B H l) (m : (p, HO.dK []) ∈ l) (e : ps = kvs.map (fun kv => (kV kv.1, kv.2))) (h15 : kvs.length ≤ 15) (t : Put l p (.dK (mergeK [] kvs)) l') (k : ∀ H1, Led B H1 l' → G H1) : DoneK p ps H G :=
  ⟨L.at m, kvs, e, h15, k _ (L.put t)⟩
theorem Led.perm (L : Led B H l) (h : l.Perm l') : Led B H l' := ⟨L.sm, (h.map (·.1)).nodup_iff.mp L.nd, fun e he => L.fr e (h.mem_iff.mpr he), fun e he => L.hs e (h.mem_iff.mpr he)⟩
end
/-! ### sorted of pairs of ints -/
def SrtPK (K : PySem.W.Frag) (a : Addr) (H : Hp) (G : Addr → Hp → Prop) : Prop := ∃ xs, SqL K H a xs ∧ (∀ x ∈ xs, ∃ t i j, x = V.ref t ∧ H t = some (.tup [.int i, .int j])) ∧ ∀ ys : List V, ys.Perm xs → NewK (.lst ys) H G
theorem x_sortedP {K : PySem.W.Frag} {a : Addr} {H : Hp} {Q : VK} : rSortedP K [.ref a] H Q ↔ SrtPK K a H fun p H1 => Q (.ref p) H1 :=
  ⟨fun ⟨_, xs, e, h1, h2, q⟩ => by cases e; exact ⟨xs, h1, h2, fun ys hp p hn => q ys p hp hn⟩, fun ⟨xs, h1, h2, q⟩ => ⟨a, xs, rfl, h1, h2, fun ys p hp hn => q ys hp p hn⟩⟩
/-! ### zip in a comprehension -/
section
variable {K : PySem.W.Frag} {g : TG} {D : Ends} {σ : L2.St} {H : Hp} {a b : Addr} {xs ys : List V} {tt : TT} {te : TE} {vs : List Nat} {Q : VK}
theorem i_zip {al : TA} {R : It → Hp → Prop} : iZip K al σ H R = al σ H fun vs H1 => ∃ a b xs ys, vs = [.ref a, .ref b] ∧ SqL K H1 a xs ∧ SqL K H1 b ys ∧ R (Itz K a b) H1 := propext ⟨fun h => h, fun h => h⟩
theorem comp_zip (hl : xs.length = ys.length) (R : Nat → Addr → List V → Hp → Prop) (h0 : ∀ p, H p = none → R 0 p [] (upd H p (.lst []))) (hq : ∀ i p acc H', R i p acc H' → SqL K H' a xs ∧ SqL K H' b ys)
    (hn : ∀ p acc H', R xs.length p acc H' → Q (.ref p) H')
    (hs : ∀ i p acc H' x y (N : Hp → Prop), xs[i]? = some x → ys[i]? = some y → R i p acc H' → (∀ acc H3, R (i + 1) p acc H3 → N H3) → NewK (.tup [x, y]) H' fun t H2 => TurnK g tt te vs σ p N (.ref t) H2) : LcK (Itz K a b) g tt te vs σ H Q := by
  refine comp_gen xs.length R h0 (fun p acc H' r => ⟨?_, hn p acc H' r⟩) fun i p acc H' hi r => ?_
  · obtain ⟨q1, q2⟩ := hq _ _ _ _ r
    exact ⟨xs, ys, q1, q2, Or.inl (Nat.le_refl _)⟩
  · obtain ⟨q1, q2⟩ := hq _ _ _ _ r
    have hi2 : i < ys.length := by omega
    refine ⟨⟨xs, ys, _, _, q1, q2, List.getElem?_eq_getElem hi, List.getElem?_eq_getElem hi2⟩, ?_⟩
    rintro v H2 ⟨T, x, y, rfl, hT, rfl, f1, f2⟩
    exact hs i p acc _ x y _ (f1 xs q1) (f2 ys q2) r (fun acc H3 z => ⟨acc, z⟩) T hT
end
end Vg


set_option Elab.async false
set_option linter.all false
set_option maxRecDepth 100000
set_option maxHeartbeats 2000000
namespace Vg
open PySem PySem.Spec PyProof.Rows L2

/-! ### texts: join, split, isdigit, isascii, int, s[i], s * n -/
def rJoinS (K : PySem.W.Frag) : V → List V → Hp → VK → Prop := fun x xs H Q => ∃ a p, ∃ ys : List Str, x = .str a ∧ xs = [.ref p] ∧ (SqL K H p (ys.map V.str) ∨ SqT K H p (ys.map V.str)) ∧ (ys.map (·.length)).sum + ys.length * a.length ≤ 16777216 ∧ Q (.str (Txt.join a ys)) H
def JoinK (K : PySem.W.Frag) (a : Str) (p : Addr) (H : Hp) (G : Str → Prop) : Prop := ∃ ys : List Str, (SqL K H p (ys.map V.str) ∨ SqT K H p (ys.map V.str)) ∧ (ys.map (·.length)).sum + ys.length * a.length ≤ 16777216 ∧ G (Txt.join a ys)
def rSplitS : V → List V → Hp → VK → Prop := fun x xs H Q => ∃ a b, x = .str a ∧ xs = [.str b] ∧ (b.length == 0) = false ∧ a.length + 2 ≤ sizeLine ∧ rNewStrs (Txt.split a b) H Q
def SplitK (a b : Str) (H : Hp) (G : Addr → Hp → Prop) : Prop := (b.length == 0) = false ∧ a.length + 2 ≤ sizeLine ∧ NewK (.lst ((Txt.split a b).map V.str)) H G
def rAsciiS : V → List V → Hp → VK → Prop := fun x xs H Q => ∃ a, x = .str a ∧ xs = [] ∧ True ∧ Q (.bl (Txt.isascii a)) H
def rDigitS : V → List V → Hp → VK → Prop := fun x xs H Q => ∃ a, x = .str a ∧ xs = [] ∧ True ∧ Q (.bl (Txt.isdigit a)) H
def rIntS : List V → Hp → VK → Prop := fun xs H Q => ∃ a n, xs = [.str a] ∧ PySem.intText? a = some n ∧ a.length ≤ 640 ∧ Q (.int n) H
def IntSK (a : Str) (G : Int → Prop) : Prop := ∃ n, PySem.intText? a = some n ∧ a.length ≤ 640 ∧ G n
def rLenS : List V → Hp → VK → Prop := fun xs H Q => ∃ z : Str, xs = [.str z] ∧ z.length ≤ sizeLine ∧ Q (.int z.length) H
def rMulS : R2 := fun x y H Q => ∃ a n, x = .str a ∧ y = .int n ∧ MulOk a n ∧ Q (.str (Txt.mul a n)) H
def IxSK (z : Str) (i : Int) (G : V → Prop) : Prop := z.length ≤ sizeLine ∧ ∃ c, atI z.cps.toList i = some c ∧ G (.str ⟨#[c]⟩)
section
variable {X : Cx} {K : PySem.W.Frag} {H : Hp} {Q : VK} {a b : Str} {p : Addr} {i : Int}
theorem mt_joinS : MtR X "str.join" (rJoinS X.K) := mt_join
theorem mt_splitS : MtR X "str.split" rSplitS := mt_split
theorem mt_asciiS : MtR X "str.isascii" rAsciiS := mt_isascii
theorem mt_digitS : MtR X "str.isdigit" rDigitS := mt_isdigit
theorem cr_intS : CallR X (.type "int") rIntS := call_int_str
theorem cr_lenS : CallR X (.builtin "len") rLenS := call_len_str
theorem op_mulS : OpR X (binaryOp .Mult) rMulS := by
  intro pins s σ H x y v u Q I rx ry h
  obtain ⟨a, n, rfl, rfl, hok, q⟩ := h
  obtain ⟨t, rfl⟩ := rx
  obtain ⟨t', rfl⟩ := ry
  exact SB.mul hok fun t2 k => ⟨.str (Txt.mul a n), H, I.tok _, ⟨t2, rfl⟩, q⟩
theorem x_joinS : rJoinS K (.str a) [.ref p] H Q ↔ JoinK K a p H fun t => Q (.str t) H := ⟨fun ⟨_, _, ys, e1, e2, h1, h2, q⟩ => by cases e1; cases e2; exact ⟨ys, h1, h2, q⟩, fun ⟨ys, h1, h2, q⟩ => ⟨a, p, ys, rfl, rfl, h1, h2, q⟩⟩
theorem x_splitS : rSplitS (.str a) [.str b] H Q ↔ SplitK a b H fun p H1 => Q (.ref p) H1 := ⟨fun ⟨_, _, e1, e2, h1, h2, q⟩ => by cases e1; cases e2; exact ⟨h1, h2, q⟩, fun ⟨h1, h2, q⟩ => ⟨a, b, rfl, rfl, h1, h2, q⟩⟩
theorem x_asciiS : rAsciiS (.str a) [] H Q ↔ Q (.bl (Txt.isascii a)) H := ⟨fun ⟨_, e, _, _, q⟩ => by cases e; exact q, fun q => ⟨a, rfl, rfl, trivial, q⟩⟩
theorem x_digitS : rDigitS (.str a) [] H Q ↔ Q (.bl (Txt.isdigit a)) H := ⟨fun ⟨_, e, _, _, q⟩ => by cases e; exact q, fun q => ⟨a, rfl, rfl, trivial, q⟩⟩
theorem x_intS : rIntS [.str a] H Q ↔ IntSK a fun n => Q (.int n) H := ⟨fun ⟨_, n, e, h1, h2, q⟩ => by cases e; exact ⟨n, h1, h2, q⟩, fun ⟨n, h1, h2, q⟩ => ⟨a, n, rfl, h1, h2, q⟩⟩
theorem x_lenS : rLenS [.str a] H Q ↔ a.length ≤ sizeLine ∧ Q (.int a.length) H := ⟨fun ⟨_, e, h, q⟩ => by cases e; exact ⟨h, q⟩, fun ⟨h, q⟩ => ⟨a, rfl, h, q⟩⟩
theorem x_mulS : rMulS (.str a) (.int i) H Q ↔ MulOk a i ∧ Q (.str (Txt.mul a i)) H := ⟨fun ⟨_, _, e1, e2, h, q⟩ => by cases e1; cases e2; exact ⟨h, q⟩, fun ⟨h, q⟩ => ⟨a, i, rfl, rfl, h, q⟩⟩
theorem x_ixS : rIxS (.str a) (.int i) H Q ↔ IxSK a i fun v => Q v H := ⟨fun ⟨_, _, c, e1, e2, h1, h2, q⟩ => by cases e1; cases e2; exact ⟨h1, c, h2, q⟩, fun ⟨h1, c, h2, q⟩ => ⟨a, i, c, rfl, rfl, h1, h2, q⟩⟩
theorem ty_S : tyV K "str" (.str a) H ↔ True := iff_true_intro rfl
end
/-! ### numbers as texts -/
def nT (n : Nat) : Str := Str.ofString (toString (n : Int))
def txt (sep : Str) (ms : List Nat) : Str := Txt.join sep (ms.map nT)
theorem nT_tl (n : Nat) : TL.tl (nT n) = TL.numL n := TL.tl_num n
theorem nT_len {n k : Nat} (hk : 0 < k) (h : n < 10 ^ k) : (nT n).length ≤ k := by
  rw [TL.len_tl, nT_tl]
  exact TL.numL_len hk h
theorem nT_int {n : Nat} (h : n < 10 ^ 600) : intText? (nT n) = some (n : Int) := TL.int_num (Nat.le_trans (TL.numL_len (by decide) h) (by decide))
theorem nT_digits (n : Nat) : ∀ c ∈ TL.tl (nT n), 48 ≤ c ∧ c ≤ 57 := fun c hc => by
  rw [nT_tl] at hc
  exact TL.numL_digits n c hc
theorem nT_ne (n : Nat) : TL.tl (nT n) ≠ [] := by rw [nT_tl]; exact TL.numL_ne n
/-- the first sign is 0 only in 0 itself -/
theorem nT_head (n : Nat) : (TL.numL n).head? = some 48 → n = 0 := by
  induction n using Nat.strongRecOn with
  | _ n ih =>
    intro h
    by_cases c : n < 10
    · rw [TL.numL_lt c] at h
      simp only [List.head?_cons, Option.some.injEq] at h
      omega
    · rw [TL.numL_step (by omega)] at h
      have hne := TL.numL_ne (n / 10)
      cases hq : TL.numL (n / 10) with
      | nil => exact absurd hq hne
      | cons d r =>
        rw [hq] at h
        have : n / 10 = 0 := ih (n / 10) (by omega) (by rw [hq]; exact h)
        omega
theorem isdigit_nT (n : Nat) : Txt.isdigit (nT n) = true := by
  unfold Txt.isdigit
  rw [Bool.and_eq_true]
  constructor
  · rw [decide_eq_true_eq]
    have := nT_ne n
    rw [TL.len_tl]
    exact List.length_pos_iff.mpr this
  · rw [← Array.all_toList, List.all_eq_true]
    intro c hc
    have h := nT_digits n c hc
    have : ∀ c, 48 ≤ c → c ≤ 57 → Unicode.isDigit c = true := by
      intro c h1 h2
      obtain rfl | rfl | rfl | rfl | rfl | rfl | rfl | rfl | rfl | rfl : c = 48 ∨ c = 49 ∨ c = 50 ∨ c = 51 ∨ c = 52 ∨ c = 53 ∨ c = 54 ∨ c = 55 ∨ c = 56 ∨ c = 57 := by omega
      all_goals decide +kernel
    exact this c h.1 h.2
theorem isascii_nT (n : Nat) : Txt.isascii (nT n) = true := by
  unfold Txt.isascii
  rw [← Array.all_toList, List.all_eq_true]
  intro c hc
  have h := nT_digits n c hc
  exact decide_eq_true (by omega)
theorem txt_split {sep : Str} {s : Nat} (es : TL.tl sep = [s]) (hs : s < 48) (hk : sep.cps.all (· < 256) = true) {ms : List Nat} (hne : ms ≠ []) : Txt.split (txt sep ms) sep = ms.map nT :=
  TL.split_join es hk (fun e => hne (List.map_eq_nil_iff.mp e)) fun p hp => by
    obtain ⟨n, _, rfl⟩ := List.mem_map.mp hp
    exact fun z => by have := nT_digits n s z; omega
theorem joinL_mem {y : List Nat} {c : Nat} : ∀ {parts : List (List Nat)}, c ∈ TL.joinL y parts → c ∈ y ∨ ∃ p ∈ parts, c ∈ p
  | [], h => by cases h
  | [p], h => Or.inr ⟨p, List.mem_singleton.mpr rfl, h⟩
  | p :: q :: r, h => by
    rcases List.mem_append.mp (show c ∈ p ++ (y ++ TL.joinL y (q :: r)) from h) with z | z
    · exact Or.inr ⟨p, List.mem_cons_self, z⟩
    · rcases List.mem_append.mp z with z | z
      · exact Or.inl z
      · rcases joinL_mem z with z | ⟨p2, h1, h2⟩
        · exact Or.inl z
        · exact Or.inr ⟨p2, List.mem_cons_of_mem _ h1, h2⟩
theorem joinL_len {y : List Nat} {k : Nat} : ∀ {parts : List (List Nat)}, (∀ p ∈ parts, p.length ≤ k) → (TL.joinL y parts).length ≤ parts.length * (k + y.length)
  | [], _ => Nat.zero_le _
  | [p], h => by
    have := h p (List.mem_singleton.mpr rfl)
    show p.length ≤ 1 * _
    omega
  | p :: q :: r, h => by
    have h1 := h p List.mem_cons_self
    have ih := joinL_len (y := y) (parts := q :: r) fun z hz => h z (List.mem_cons_of_mem _ hz)
    show (p ++ (y ++ TL.joinL y (q :: r))).length ≤ ((q :: r).length + 1) * _
    rw [List.length_append, List.length_append, Nat.succ_mul]
    omega
theorem txt_tl (sep : Str) (ms : List Nat) : TL.tl (txt sep ms) = TL.joinL (TL.tl sep) (ms.map fun n => TL.numL n) := by
  unfold txt
  rw [TL.join_eq, TL.tl_join, List.map_map]
  congr 1
  exact List.map_congr_left fun n _ => nT_tl n
theorem txt_len {sep : Str} {ms : List Nat} {k : Nat} (hk : 0 < k) (h : ∀ m ∈ ms, m < 10 ^ k) : (txt sep ms).length ≤ ms.length * (k + sep.length) := by
  rw [TL.len_tl, txt_tl, TL.len_tl sep]
  have := joinL_len (y := TL.tl sep) (k := k) (parts := ms.map fun n => TL.numL n) fun p hp => by
    obtain ⟨n, hn, rfl⟩ := List.mem_map.mp hp
    exact TL.numL_len hk (h n hn)
  rw [List.length_map] at this
  exact this
theorem txt_cps {sep : Str} {ms : List Nat} (hs : ∀ c ∈ TL.tl sep, c < 16 ^ 8) : ∀ c ∈ (txt sep ms).cps.toList, c < 16 ^ 8 := fun c hc => by
  have hc : c ∈ TL.tl (txt sep ms) := hc
  rw [txt_tl] at hc
  rcases joinL_mem hc with z | ⟨p, hp, z⟩
  · exact hs c z
  · obtain ⟨n, _, rfl⟩ := List.mem_map.mp hp
    have := TL.numL_digits n c z
    have e : (16 : Nat) ^ 8 = 4294967296 := by decide
    omega
end Vg


set_option Elab.async false
set_option linter.all false
set_option maxRecDepth 100000
set_option maxHeartbeats 2000000
namespace Vg
open PySem PySem.Spec PyProof.Rows L2

theorem Led.subl {B H : Hp} {l l' : List (Addr × HO)} (L : Led B H l) (h : l'.Sublist l) : Led B H l' := ⟨L.sm, L.nd.sublist (h.map _), fun e he => L.fr e (h.subset he), fun e he => L.hs e (h.subset he)⟩
/-! ### a program's def by the plain promise; a law's def that calls it -/
theorem Fg.of {P : Program} {w : World} {K : PySem.W.Frag} {mg : Str → Option Value} {bs : Heap} {C : CXT} {n : Nat} {f : Addr} {fd : FuncData} {ps : List Str} {sp : Sp} (F : FnOk P w K mg bs C n f fd ps sp) : Fg P w K mg bs C n f fd ps sp :=
  ⟨F.len, fun A fr s H gs us vs Q E _ r e b v q => F.run A fr s H gs us vs Q E r e b v q⟩
section
variable {σ : L2.St} {H : Hp} {Q : VK} {sp : Sp} {dvs : List V} {E : XK} {t : TA} {ta : TE} {C : Addr} {m : Str}
theorem e_call : tCall sp dvs E t σ H Q = t σ H fun vs H1 => sp (vs ++ dvs) H1 Q E := propext ⟨fun h => h, fun h => h⟩
theorem e_meth : tMeth C m sp dvs E ta t σ H Q ↔ ta σ H fun x H1 => ∃ a, x = .ref a ∧ MtK a C m H1 (t σ H1 fun vs H2 => sp (x :: (vs ++ dvs)) H2 Q E) :=
  Iff.of_eq (congrArg (ta σ H) (funext fun x => funext fun H1 => propext ⟨fun ⟨a, dx, fs, e, r1, r2, r3⟩ => ⟨a, e, dx, fs, r1, r2, r3⟩, fun ⟨a, e, dx, fs, r1, r2, r3⟩ => ⟨a, dx, fs, e, r1, r2, r3⟩⟩))
theorem e_methR : tMethR C m sp E ta t σ H Q ↔ ta σ H fun x H1 => ∃ a, x = .ref a ∧ MtK a C m H1 (t σ H1 fun vs H2 => sp (x :: vs) H2 Q E) :=
  Iff.of_eq (congrArg (ta σ H) (funext fun x => funext fun H1 => propext ⟨fun ⟨a, dx, fs, e, r1, r2, r3⟩ => ⟨a, e, dx, fs, r1, r2, r3⟩, fun ⟨a, e, dx, fs, r1, r2, r3⟩ => ⟨a, dx, fs, e, r1, r2, r3⟩⟩))
theorem e_make : tMake C sp dvs E t σ H Q = t σ H fun vs H1 => MkK C H1 fun x H2 => sp (.ref x :: (vs ++ dvs)) H2 (fun v H3 => v = .non ∧ Q (.ref x) H3) E := propext ⟨fun h => h, fun h => h⟩
/-- o.f, a property -/
def PropK (a C : Addr) (H : Hp) (G : Prop) : Prop := ∃ dx fs, H a = some (.ins C dx fs) ∧ G
theorem e_prop : tProp C sp dvs E ta σ H Q ↔ ta σ H fun x H1 => ∃ a, x = .ref a ∧ PropK a C H1 (sp (.ref a :: dvs) H1 Q E) :=
  Iff.of_eq (congrArg (ta σ H) (funext fun x => funext fun H1 => propext ⟨fun ⟨a, dx, fs, e, r1, r2⟩ => ⟨a, e, dx, fs, r1, r2⟩, fun ⟨a, e, dx, fs, r1, r2⟩ => ⟨a, dx, fs, e, r1, r2⟩⟩))
theorem PropK.of {B : Hp} {l : List (Addr × HO)} {a dx : Addr} {fs : List (Str × V)} {G : Prop} (L : Led B H l) (h : (a, HO.ins C dx fs) ∈ l) (k : G) : PropK a C H G := ⟨dx, fs, L.at h, k⟩
end
/-- a def with *args, called: the first n are named, what is left over is a new tuple -/
def starSp (n : Nat) (sp : Sp) : Sp := fun vs H Q E => ∃ ws rest, vs = ws ++ rest ∧ ws.length = n ∧ rest.length ≤ sizeLine ∧ ∀ p, H p = none → sp (ws ++ [V.ref p]) (upd H p (.tup rest)) Q E
theorem starSp.of {n : Nat} {sp : Sp} {H : Hp} {Q : VK} {E : XK} (ws rest : List V) (h1 : ws.length = n) (h2 : rest.length ≤ sizeLine) (h : NewK (.tup rest) H fun p H1 => sp (ws ++ [V.ref p]) H1 Q E) : starSp n sp (ws ++ rest) H Q E := ⟨ws, rest, rfl, h1, h2, h⟩
theorem nox_of {X : Cx} {b : List Stmt} {D : Ends} {σ : L2.St} {H : Hp} (h : ∃ t, PSs X.nox b t ∧ t D σ H) : ∃ t, PSs X b t ∧ t D σ H := by
  obtain ⟨t, h1, h2⟩ := h
  exact ⟨t, h1.nox, h2⟩
/-- list(x) -/
def ListOfK (K : PySem.W.Frag) (p : Addr) (H : Hp) (G : Addr → Hp → Prop) : Prop := ∃ xs, (SqL K H p xs ∨ SqT K H p xs) ∧ NewK (.lst xs) H G
def rListOf (K : PySem.W.Frag) : List V → Hp → VK → Prop := fun xs H Q => ∃ p, xs = [.ref p] ∧ ListOfK K p H fun l H1 => Q (.ref l) H1
theorem cr_listOf {X : Cx} : CallR X (.type "list") (rListOf X.K) := CallR.as call_list_of fun _ _ _ ⟨p, e, ys, h, q⟩ => ⟨p, ys, e, h, q⟩
theorem x_listOf {K : PySem.W.Frag} {p : Addr} {H : Hp} {Q : VK} : rListOf K [.ref p] H Q ↔ ListOfK K p H fun l H1 => Q (.ref l) H1 := ⟨fun ⟨_, e, q⟩ => by cases e; exact q, fun q => ⟨p, rfl, q⟩⟩
/-! ### len(o), o of an own class with __len__ -/
def rLenO (C : Addr) (sp : Sp) : List V → Hp → VK → Prop := fun xs H Q => ∃ a, xs = [.ref a] ∧ PropK a C H (sp [.ref a] H (fun v H' => ∃ n : Nat, v = .int (n : Int) ∧ n < 2 ^ 62 ∧ Q (.int (n : Int)) H') E0)
theorem cr_lenO {X : Cx} {k : Nat} {C f : Addr} {fd : FuncData} {sp : Sp} (F : FnOk X.prog X.w X.K X.mg X.base CX0 k f fd ["self"] sp) (hr : Room (k + 1) X.A) (hb : Binds X.K fd ["self"] [])
    (hf : PySem.W.findIn X.K (.ref C) "__len__" = some (some (.ref f))) (ht : PySem.W.typeIn X.K (.ref f) = some (.type "function")) : CallR X (.builtin "len") (rLenO C sp) := by
  intro pins s σ H xs us Q I rv h
  obtain ⟨a, rfl, dx, fs, ha, hsp⟩ := h
  obtain ⟨u, rfl, ru⟩ := vals1 rv
  obtain rfl : u = Value.ref a := ru
  obtain ⟨mA, O, _⟩ := ins_get I.hok ha
  obtain ⟨od, J, _⟩ := O.look
  have sp1 : PySem.W.Looks (model X.prog X.w) s.heap (specialOf (.ref a) "__len__") (some (.ref f)) := J.type.andThen (PySem.W.looks_findIn I.kIn hf)
  refine Calls.call_function_entry kind_len plain_len entry_len (args_len1 _) ?_
  unfold Builtin.«len»
  refine wpAny_bind (m := oneArg "len" _) (wpAny_pure ?_)
  refine wpAny_bind (m := callSpecial? (.ref a) (PySem.Str.ofString "__len__")) ?_
  unfold callSpecial?
  refine wpAny_bind (sp1.here ?_)
  refine wpAny_holding (wpAny_bind ((PySem.W.bind_fn I.kIn (.ref a) ht).here (wpAny_bind ?_)))
  have hl : [Value.ref a].length = (["self"] : List Str).length := rfl
  have e1 := I.env0.in1
  refine wpAny_call (codeAny_mono (F.run X.A.in1 X.stack s H ⟨[.ref a], []⟩ [.ref a] [.ref a] _ E0 hr.in1 e1 (by simpa using hb s [.ref a] I.kIn (by simpa using hl)) (.cons rfl .nil) hsp) fun r s' hq => ?_)
  cases r with
  | error er => exact False.elim hq
  | ok fl =>
    cases fl with
    | ret w =>
      obtain ⟨z, H', I', rz, n, ez, hn, q⟩ := I.after hq
      subst ez
      obtain ⟨t, rfl⟩ := rz
      refine wpAny_pure ?_
      refine wpAny_bind (wpAny_holding (wpAny_pure ?_))
      refine wpAny_bind (wpAny_letGo ?_)
      show wpAny _ _ (if ((n : Nat) : Int) < 0 then _ else _) _ _ _
      rw [if_neg (by omega)]
      show wpAny _ _ (if ((n : Nat) : Int) ≥ 2 ^ 63 then _ else _) _ _ _
      rw [if_neg (by omega)]
      exact wpAny_bind (wpAny_mkInt (wpAny_pure ⟨_, rfl, ⟨.int (n : Int), H', I'.tok _, ⟨_, rfl⟩, q⟩⟩))
    | next => exact False.elim hq
    | brk => exact False.elim hq
    | cont => exact False.elim hq
theorem x_lenO {C a : Addr} {sp : Sp} {H : Hp} {Q : VK} : rLenO C sp [.ref a] H Q ↔ PropK a C H (sp [.ref a] H (fun v H' => ∃ n : Nat, v = .int (n : Int) ∧ n < 2 ^ 62 ∧ Q (.int (n : Int)) H') E0) := ⟨fun ⟨_, e, q⟩ => by cases e; exact q, fun q => ⟨a, rfl, q⟩⟩
end Vg


set_option Elab.async false
set_option linter.all false
set_option maxRecDepth 100000
set_option maxHeartbeats 2000000
namespace Vg
open PySem PySem.Spec PyProof.Rows L2

/-! ### what a call lets out -/
theorem passT {X : Cx} {W : WX} {E : XK} (tk : Takes X W) (h : ∀ cls d σ H, E cls d H → W cls d σ H) : Passes (L2.CX X.prog X.w) X E := fun _ σ _ _ _ _ I c => tk _ _ (XE.of_call I (fun cls d H' z => h cls d σ H' z) c)
theorem passLA {X : Cx} {σ : L2.St} : PassesAt (L2.CX X.prog X.w) X σ E0 := fun _ _ _ _ _ _ c => by
  obtain ⟨_, _, _, _, _, _, _, _, _, _, _, _, z⟩ := c
  exact z.elim
/-- o.m() by a positional promise -/
theorem pe_methR0 {X : Cx} {CX : CXT} {k : Nat} {C f : Addr} {m : Str} {sp : Sp} {E : XK} {o : Expr} {ta : TE} {apos pos : Pos} {pl : Sem Bool} (ho : PE X o ta) (c : Cls X.K C) (hm : Meth X.K C m f)
    (F : FnR X.prog X.w X.K X.mg X.base CX k f sp) (r : Room k X.A) (hx : Passes CX X E)
    (ht : eval (.Call (.Attribute o m apos) [] [] pos) X.env = (do
      let ov ← eval o X.env
      standAt apos.atName
      let (f, first) ← holding [ov] (getMethod ov m pl)
      callWith pos f first (backTo pos (starEach [] X.env)) (backToKw pos (keywordEach [] X.env))) := by rfl) :
    PE X (.Call (.Attribute o m apos) [] [] pos) (tMethR C m sp E ta tNil) := by
  refine ⟨fun pins s σ H Q I h => ?_⟩
  refine PySem.W.methodCall_KW (pl := pl) (thn (ho.run pins s σ H _ I h) ?_) ht
  rintro u s1 ⟨y, H1, J, ry, a, dx, fs, ey, ea, l, q⟩
  subst ey
  obtain rfl : u = Value.ref a := ry
  exact getmeth_ok J ea c hm l (PySem.W.callWith_K0 (first := [.ref a]) J.kIn hm.kp (wpAny_call (run_fnR (us := [.ref a]) (vs := [.ref a]) F r hx J (.cons rfl .nil) q)))
/-! ### caught -/
theorem wAs.of {K : PySem.W.Frag} {C c : Addr} {i : Nat} {ts : Addr → Value → Option Addr → TS} {Wout : WX} {D : Ends} {dd : Option Addr} {σ : L2.St} {H : Hp} (e : PySem.W.exmOne K (.ref C) (.ref c) = some true)
    (h : ∀ a, H a = none → ts a (.ref C) dd { nx := fun σ' H' => D.nx (σ'.set i none) H', rt := D.rt, bk := fun σ' H' => D.bk (σ'.set i none) H', ct := fun σ' H' => D.ct (σ'.set i none) H' } (σ.set i (some (.ref a))) H) : wAs K (.ref c) i ts Wout D (.ref C) dd σ H :=
  ⟨true, e, fun _ a ha => h a ha, fun z => Bool.noConfusion z⟩
theorem exm_up {K : PySem.W.Frag} {C D : Addr} (h1 : PySem.W.subIn K (.ref D) (.type "BaseException") = some true) (h2 : PySem.W.hasDictIn K D = true) (h3 : PySem.W.typeIn K (.ref D) = some (.type "type")) (h4 : PySem.W.subIn K (.ref C) (.ref D) = some true) : PySem.W.exmOne K (.ref C) (.ref D) = some true := PySem.W.exm_ref h1 h2 h3 h4
theorem s_par3 {i j k : Nat} {al : TA} {D : Ends} {σ : L2.St} {H : Hp} : tPar3 i j k al D σ H = al σ H fun vs H1 => ∃ u v w, vs = [u, v, w] ∧ D.nx (((σ.set i (some u)).set j (some v)).set k (some w)) H1 := propext ⟨fun h => h, fun h => h⟩
/-! ### constants of a class -/
structure ICon (K : PySem.W.Frag) (C : Addr) (f : Str) (u : Value) : Prop where
  ic : PySem.W.isClsIn K C = true
  pg : PySem.W.plainGet K C Str.empty = true
  fd : PySem.W.findIn K (.ref C) f = some (some u)
  sp : PySem.W.specialIn K u "__get__" = some none
  cp : PySem.W.copiedNames.contains f = false
  hi : PySem.W.handedIn u = true
theorem find_icon {K : PySem.W.Frag} {C : Addr} {f : Str} {u : Value} {od : Obj} (k : ICon K C f u) (hl : PySem.W.lookIn f od = some none) : PySem.W.findObj K C (some od) f = some (.value u) := by
  obtain ⟨cd, hcd⟩ := Option.isSome_iff_exists.mp (show (PySem.W.clsIn K C).isSome = true from k.ic)
  have own0 : PySem.W.ownOf cd (some od) f = some none := by
    unfold PySem.W.ownOf
    split
    · exact hl
    · rfl
  unfold PySem.W.findObj
  rw [hcd, Option.bind_some, k.fd, Option.bind_some]
  simp only [k.sp, Option.bind_some, own0, k.cp, Bool.false_and, Bool.false_eq_true, if_false, k.hi, if_true]
/-- o.f, a constant number of o's class -/
def tIcon (C : Addr) (f : Str) (i : Int) (ta : TE) : TE := fun σ H Q => ta σ H fun x H1 => ∃ a dx fs, x = .ref a ∧ H1 a = some (.ins C dx fs) ∧ fs.lookup f = none ∧ Q (.int i) H1
theorem pe_icon {X : Cx} {C : Addr} {f : Str} {i : Int} {e : Expr} {ta : TE} {pos : Pos} (he : PE X e ta) (k : ∃ t, ICon X.K C f (.int i t)) (hb : attributeBase e f X.env (eval e X.env) = eval e X.env := by rfl) : PE X (.Attribute e f pos) (tIcon C f i ta) := by
  obtain ⟨t, k⟩ := k
  refine ⟨fun pins s σ H Q I h => ?_⟩
  refine attr_of hb (thn (he.run pins s σ H _ I h) ?_)
  rintro u s1 ⟨y, H1, J, ry, a, dx, fs, ey, ea, l, q⟩
  subst ey
  obtain rfl : u = Value.ref a := ry
  obtain ⟨mA, O, rr, _⟩ := ins_get J.hok ea
  obtain ⟨od, I2, hl⟩ := O.look
  have hn : mA f = none := RelO.none_of (by rw [← l]; exact rr f)
  exact PySem.W.get_value J.kIn I2 (PySem.W.plainGet_of k.pg).1 (find_icon k (by rw [hl f, hn])) k.hi ⟨.int i, H1, J.tok _, ⟨t, rfl⟩, q⟩
theorem e_icon {C : Addr} {f : Str} {i : Int} {ta : TE} {σ : L2.St} {H : Hp} {Q : VK} : tIcon C f i ta σ H Q ↔ ta σ H fun x H1 => ∃ a, x = .ref a ∧ MtK a C f H1 (Q (.int i) H1) :=
  Iff.of_eq (congrArg (ta σ H) (funext fun x => funext fun H1 => propext ⟨fun ⟨a, dx, fs, e, r⟩ => ⟨a, e, dx, fs, r⟩, fun ⟨a, e, dx, fs, r⟩ => ⟨a, dx, fs, e, r⟩⟩))
def CValK (K : PySem.W.Frag) (C : Addr) (f : Str) (G : V → Prop) : Prop := ∃ mc v u, ClX.CRead K C mc ∧ ClX.CVal K C mc f v u ∧ G v
theorem e_cval {K : PySem.W.Frag} {f : Str} {ta : TE} {σ : L2.St} {H : Hp} {Q : VK} : ClX.tCVal K ta f σ H Q ↔ ta σ H fun x H1 => ∃ a, x = .ref a ∧ CValK K a f fun v => Q v H1 :=
  Iff.of_eq (congrArg (ta σ H) (funext fun x => funext fun H1 => propext ⟨fun ⟨a, mc, v, u, e, r⟩ => ⟨a, e, mc, v, u, r⟩, fun ⟨a, e, mc, v, u, r⟩ => ⟨a, mc, v, u, e, r⟩⟩))
theorem CValK.of {K : PySem.W.Frag} {C : Addr} {f : Str} {i : Int} {G : V → Prop} (r : ClX.CRead K C (.type "type")) (c : ∃ t, ClX.CVal K C (.type "type") f (.int i) (.int i t)) (g : G (.int i)) : CValK K C f G := let ⟨t, c⟩ := c; ⟨_, _, _, r, c, g⟩
/-! ### f-strings -/
def FmtK (x : V) (G : Str → Prop) : Prop := (∃ y : Str, x = .str y ∧ y.length ≤ sizeLine ∧ G y) ∨ ∃ i : Int, x = .int i ∧ i.natAbs.log2 < 1920 ∧ G (toString i)
theorem e_fmt {te : TE} {σ : L2.St} {H : Hp} {Q : VK} : tFmt te σ H Q = te σ H fun x H1 => FmtK x fun t => Q (.str t) H1 := propext ⟨fun h => h, fun h => h⟩
theorem FmtK.int {i : Int} {G : Str → Prop} (h : i.natAbs < 2 ^ 1900) (g : G (toString i)) : FmtK (.int i) G := Or.inr ⟨i, rfl, by
  by_cases z : i.natAbs = 0
  · rw [z]; decide
  · exact Nat.lt_of_lt_of_le ((Nat.log2_lt z).mpr h) (by decide), g⟩
def JoK (acc : Str) (x : V) (G : Str → Prop) : Prop := ∃ y : Str, x = .str y ∧ (acc ++ y).length ≤ sizeLine ∧ G (acc ++ y)
theorem e_jo {ts : List TE} {te : TE} {acc : Str} {σ : L2.St} {H : Hp} {Q : Str → Hp → Prop} : tJs (te :: ts) acc σ H Q = te σ H fun x H1 => JoK acc x fun t => tJs ts t σ H1 Q := propext ⟨fun h => h, fun h => h⟩
theorem e_jo0 {acc : Str} {σ : L2.St} {H : Hp} {Q : Str → Hp → Prop} : tJs [] acc σ H Q = Q acc H := propext ⟨fun h => h, fun h => h⟩
theorem JoK.of {acc y : Str} {G : Str → Prop} (h : acc.length + y.length ≤ 100000) (g : G (acc ++ y)) : JoK acc (.str y) G := ⟨y, rfl, Nat.le_trans (by rw [strLen_append]; exact h) (by decide), g⟩
end Vg


set_option Elab.async false
set_option linter.all false
set_option maxRecDepth 100000
set_option maxHeartbeats 2000000
namespace Vg
open PySem PySem.Spec PyProof.Rows L2

/-! ### an exception that is kept behind its except suite -/
def ErO (cls : Value) (d : Option Addr) (a : Addr) : HO := .ext fun h => ∃ (oe : Obj) (vs : Array Value), h.get? a = some oe ∧ Zc cls d oe ∧ oe.data = .fields vs
section
variable {X : Cx} {pins : List (Addr × Obj)} {σ : L2.St} {H : Hp} {s : Shared}
theorem Inv.adopt {a : Addr} {oe : Obj} {vs : Array Value} {cls : Value} {d : Option Addr} (J : Inv X pins σ H s) (g : s.heap.get? a = some oe) (z : Zc cls d oe) (hd : oe.data = .fields vs) (na : H a = none) (n0 : X.s_0.heap.get? a = none)
    (nL : a ≠ X.env.locals) (np : ∀ p ∈ X.pn ++ pins, p.1 ≠ a) : Inv X pins σ (upd H a (ErO cls d a)) s := by
  have un1 : Un X.fs X.ex H (upd H a (ErO cls d a)) X.s_0.heap X.s_0.heap := ⟨fun _ _ h _ _ _ => h, fun _ o h _ _ _ => ⟨o.slots, h⟩, fun b o h n _ => by rw [upd_ne (fun e => by rw [e, n0] at h; cases h)]; exact n, fun _ o h _ => ⟨o, h⟩,
    fun b xs h => by rw [upd_ne (fun e => by rw [e, na] at h; cases h)]; exact h, fun b o u h => by rw [upd_ne (fun e => by rw [e, na] at h; cases h)]; exact h, fun b ps h => ⟨#[], by rw [upd_ne (fun e => by rw [e, na] at h; cases h), h]; simp⟩⟩
  have cel : ∀ x c, X.env.cells.lookup x = some c → c ≠ a := fun x c hc e => by
    obtain ⟨v, o, ho, hv⟩ := J.cell x c hc
    rw [e, g] at ho
    cases ho
    rw [hd] at hv
    cases hv
  refine ⟨J.ok, J.os, J.bare, ⟨J.base.keep, J.base.slot, fun b o h n hx => ?_, J.base.there, fun b xs h => ?_, fun b o u h => ?_, fun b ps h => ?_⟩, J.loc, J.cell, ?_, fun x c hc => ?_, fun p hp => ?_, fun b u e => ?_, J.len⟩
  · rw [upd_ne (fun e => by rw [e, n0] at h; cases h)]
    exact J.base.free b o h n hx
  · have h2 := J.base.tups b xs h
    rw [upd_ne (fun e => by rw [e, na] at h2; cases h2)]
    exact h2
  · have h2 := J.base.frzs b o u h
    rw [upd_ne (fun e => by rw [e, na] at h2; cases h2)]
    exact h2
  · obtain ⟨more, h2⟩ := J.base.tbls b ps h
    exact ⟨more, by rw [upd_ne (fun e => by rw [e, na] at h2; cases h2)]; exact h2⟩
  · rw [upd_ne nL.symm]
    exact J.free
  · rw [upd_ne (cel x c hc)]
    exact J.freeC x c hc
  · obtain ⟨p1, p2, p3⟩ := J.pin p hp
    exact ⟨p1, by rw [upd_ne (np p hp)]; exact p2, p3⟩
  · by_cases hb : b = a
    · subst hb
      rw [upd_same] at e
      cases e
      exact ⟨⟨oe, vs, g, z, hd⟩, ⟨oe, g⟩, fun h1 h2 ⟨o, w, k1, k2⟩ hk => ⟨o, w, hk o k1, k2⟩⟩
    · rw [upd_ne hb] at e
      exact (J.hok b u e).stay (fun _ _ _ h => h) (fun c h => by rw [upd_ne (fun e => by rw [e, na] at h; cases h)]; exact h) fun c xs h => by rw [upd_ne (fun e => by rw [e, na] at h; cases h)]; exact h
end
/-- what the clause wishes: behind the suite the exception at a is tracked -/
def wKeep (K : PySem.W.Frag) (c : Value) (i : Nat) (ts : Addr → Value → Option Addr → TS) (Wo : WX) (D : Ends) : WX := fun cls d σ H =>
  ∃ b, PySem.W.exmOne K cls c = some b ∧ (b = true → ∀ a, H a = none → ts a cls d { nx := fun τ G => D.nx (τ.set i none) (upd G a (ErO cls d a)), rt := fun v G => D.rt v (upd G a (ErO cls d a)), bk := fun τ G => D.bk (τ.set i none) (upd G a (ErO cls d a)), ct := fun τ G => D.ct (τ.set i none) (upd G a (ErO cls d a)) } (σ.set i (some (.ref a))) H) ∧
    (b = false → Wo cls d σ H)
section
variable {X : Cx} {x n : Str} {c : Value} {i : Nat} {body more : List Stmt} {b1 : Stmt} {np p1 p2 : Pos} {tb : WX → TS} {ts : Addr → Value → Option Addr → TS} {Wo : WX}
theorem ps_try_keep (hst : X.stack = X.env :: X.outer) (hfr : X.env.frame = some X.env.locals) (nd : X.N.Nodup) (ni : X.N[i]? = some n) (nl : X.env.kindOf n = some .local) (hc : Names X x c) (hex : X.ex = []) (out : Takes X Wo)
    (hb : ∀ (W : WX) (pn : List (Addr × Obj)) (xe : Value → Shared → Prop), Takes (X.tr pn xe) W → PassesOwn (model X.prog X.w) X.A X.env xe → PSs (X.tr pn xe) body (tb W))
    (hs : ∀ (a : Addr) (oe : Obj) (cls : Value) (d : Option Addr) (pn : List (Addr × Obj)), Zc cls d oe → (∃ vs, oe.data = .fields vs) → PSs (X.suite a ((a, oe) :: pn)) (b1 :: more) (ts a cls d)) :
    PS X (.Try body [.ExceptHandler (some (.Name x np)) (some n) (b1 :: more) p2] [] [] p1) (fun D σ H => tb (wKeep X.K c i ts Wo D) D σ H) := by
  refine ⟨fun pins s σ H D J0 h0 => ?_⟩
  have ok := J0.ok
  have fr2 : X.A.frames = some (X.env :: X.outer) := ok.frames.trans (congrArg some hst)
  have loc : Loc X.env.scope n := .inl nl
  let xh : Value → Shared → Prop := fun e t1 => wpAny (model X.prog X.w) X.A (noteFrame e X.env) (fun _ t2 => wpAny (model X.prog X.w) X.A (setFlight e none) (fun _ t3 => wpAny (model X.prog X.w) X.A (handleBy e X.env [.ExceptHandler (some (.Name x np)) (some n) (b1 :: more) p2]) (SP X pins D) X.xe t3) X.xe t2) X.xe t1
  have catch_ : Takes (X.tr (X.pn ++ pins) xh) (wKeep X.K c i ts Wo D) := by
    rintro u t ⟨a, G, t0, pins', τ, H1, cls, d, rfl, J', nb, up, sky, na, os, ag, b, hb1, yes, no⟩
    have J : Inv X pins τ H1 t0 := J'.ofTry ok
    have sky2 : Sky G (X.env :: X.outer) a (Zc cls d) X.env.locals t.heap := hst ▸ sky
    show wpAny _ _ (noteFrame (.ref a) X.env) _ _ t
    refine Sky.land Zc.steady fr2 hfr sky2 fun h3 fl3 up3 => ?_
    have J3 : Inv X pins τ H1 { t with heap := h3 } := J.landed nb fl3.1 (up.trans up3) os ag
    obtain ⟨oe3, vs3, he3, hz3, hd3⟩ := fl3.there
    have aF : a ∉ frs (X.env :: X.outer) := fun hm => by
      obtain ⟨_, o', e', hn⟩ := fl3.2.2.1.mem hm
      rw [he3] at e'
      cases e'
      exact hn _ hd3
    have aL : a ≠ X.env.locals := fun e => aF (List.mem_filterMap.mpr ⟨X.env, List.mem_cons_self, by rw [hfr, e]⟩)
    have aO : a ∉ X.fs := fun hm => by
      obtain ⟨e, he, q⟩ := List.mem_filterMap.mp hm
      exact aF (List.mem_filterMap.mpr ⟨e, List.mem_cons_of_mem _ he, q⟩)
    have a0 : t0.heap.get? a = none := by
      cases e : t0.heap.get? a with
      | none => rfl
      | some o =>
        have k := nb a o e (by rw [hst]; exact aF)
        rw [fl3.2.1] at k
        cases k
    have a1 : X.s_0.heap.get? a = none := by
      cases e : X.s_0.heap.get? a with
      | none => rfl
      | some o =>
        obtain ⟨o', k⟩ := J.base.there a o e (fun hx => by rw [hex] at hx; cases hx)
        rw [a0] at k
        cases k
    have aP : ∀ p ∈ X.pn ++ pins, p.1 ≠ a := fun p hp e => by
      have k := (J.pin p hp).1
      rw [e, a0] at k
      cases k
    have S3 := J3.suite he3 hd3 na aL aO
    refine wpAny_handleBy_cons (codeAny_handlers_test ?_) (by intro q; cases q)
    have l1 : PySem.W.Looks (model X.prog X.w) h3 (typeOf (.ref a)) cls := fun A Q E s k q => wpAny_typeOf_ref (k _ _ he3) (by rw [hz3.1]; exact q)
    have l2 := PySem.W.exm_one (M := model X.prog X.w) J3.kIn l1 hb1
    have tst : ∀ {Q : Value → Shared → Prop} {E : Value → Shared → Prop}, Q c { t with heap := h3 } → wpAny (model X.prog X.w) (X.A.mark (some (.ref a))) (eval (.Name x np) X.env) Q E { t with heap := h3 } := by
      intro Q E q
      obtain ⟨g1, g2, m1 | ⟨m1, m2, m3⟩⟩ := hc
      · exact ld_glob (X := X.suite a ((a, oe3) :: (X.pn ++ pins))) S3 g1 m1 q g2
      · exact ld_blt (X := X.suite a ((a, oe3) :: (X.pn ++ pins))) S3 g1 m1 m2 q m3 g2
    refine tst (l2.here ?_)
    cases b with
    | true =>
      refine codeAny_handlers_suite_as (HandSPX.lands_againZ fl3 fun h4 fl4 up4 => ?_)
      have J4 : Inv X pins τ H1 { t with heap := h4 } := J.landed nb fl4.1 ((up.trans up3).trans up4) os ag
      obtain ⟨oe4, vs4, he4, hz4, hd4⟩ := fl4.there
      have S4 := J4.suite he4 hd4 na aL aO
      refine store_ok (X := X.suite a ((a, oe4) :: (X.pn ++ pins))) (v := .ref a) S4 nd ni loc rfl (fun s5 S5 => ?_) (.inr nl)
      refine wpAny_mono ((hs a oe4 cls d (X.pn ++ pins) hz4 ⟨_, hd4⟩).run [] s5 _ H1 _ S5 (yes rfl a na)) (fun fl s6 q6 => ?_) (fun _ _ z => z.elim)
      have last : ∀ {τ6 : L2.St} {H6 : Hp} {Q : Shared → Prop}, Inv (X.suite a ((a, oe4) :: (X.pn ++ pins))) [] τ6 H6 s6 → (∀ s7, Inv X pins (τ6.set i none) (upd H6 a (ErO cls d a)) s7 → Q s7) →
          wpAny (model X.prog X.w) X.A (do bindName X.env n .none; unbindBehindTheSuite X.env n p2) (fun _ s7 => Q s7) X.xe s6 := by
        intro τ6 H6 Q S6 hq
        obtain ⟨k1, k2, _⟩ := S6.pin (a, oe4) (by simp)
        exact gone_ok (Inv.adopt (S6.unsuite ok) k1 hz4 hd4 k2 a1 aL aP) nd ni nl hq
      cases fl with
      | next => obtain ⟨τ6, H6, S6, q⟩ := q6; exact last S6 fun s7 J7 => ⟨_, _, J7, q⟩
      | brk => obtain ⟨τ6, H6, S6, q⟩ := q6; exact last S6 fun s7 J7 => ⟨_, _, J7, q⟩
      | cont => obtain ⟨τ6, H6, S6, q⟩ := q6; exact last S6 fun s7 J7 => ⟨_, _, J7, q⟩
      | ret w => obtain ⟨v6, τ6, H6, S6, r6, q⟩ := q6; exact last S6 fun s7 J7 => ⟨_, _, _, J7, r6, q⟩
    | false =>
      refine wpAny_handleBy_nil ?_
      obtain ⟨_, _, _, oe, vs, T, oT, ts', he, hz, hd, h1, hr⟩ := id fl3
      unfold PySem.passOn
      refine wpAny_bind (wpAny_field he hd h1 ?_)
      rw [if_neg (show ¬ ((Value.ref T == Value.none) = true) from by simp)]
      have fly : wpAny (model X.prog X.w) X.A (setFlight (.ref a) X.env.frame) (fun _ t4 => wpAny (model X.prog X.w) X.A (throw (.ref a) : Sem Flow) (SP X pins D) X.xe t4) X.xe { t with heap := h3 } := by
        rw [hfr]
        exact HandSPX.setFlight_upZ fl3 fun h4 hh4 up4 => wpAny_throw (out _ _ ⟨a, G, t0, pins, τ, H1, cls, d, rfl, J, nb, (up.trans up3).trans up4, .inr (.inr (hst ▸ hh4)), na, os, ag, no rfl⟩)
      first
        | exact wpAny_bind (wpAny_pure (wpAny_bind fly))
        | exact wpAny_bind fly
  refine wpAny_Try_except (wpAny_mono ((hb (wKeep X.K c i ts Wo D) (X.pn ++ pins) xh catch_ PassesOwn.looking).run [] s σ H D (J0.toTry _) h0) (fun fl s1 q1 => ?_) (fun e s1 he => he))
  cases fl with
  | next => obtain ⟨τ, H1, J1, q⟩ := q1; exact wpAny_execs_nil ⟨τ, H1, J1.ofTry ok, q⟩
  | brk => obtain ⟨τ, H1, J1, q⟩ := q1; exact ⟨τ, H1, J1.ofTry ok, q⟩
  | cont => obtain ⟨τ, H1, J1, q⟩ := q1; exact ⟨τ, H1, J1.ofTry ok, q⟩
  | ret u => obtain ⟨v, τ, H1, J1, r, q⟩ := q1; exact ⟨v, τ, H1, J1.ofTry ok, r, q⟩
end
theorem wKeep.of {K : PySem.W.Frag} {C c : Addr} {i : Nat} {ts : Addr → Value → Option Addr → TS} {Wo : WX} {D : Ends} {dd : Option Addr} {σ : L2.St} {H : Hp} (e : PySem.W.exmOne K (.ref C) (.ref c) = some true)
    (h : ∀ a, H a = none → ts a (.ref C) dd { nx := fun τ G => D.nx (τ.set i none) (upd G a (ErO (.ref C) dd a)), rt := fun v G => D.rt v (upd G a (ErO (.ref C) dd a)), bk := fun τ G => D.bk (τ.set i none) (upd G a (ErO (.ref C) dd a)), ct := fun τ G => D.ct (τ.set i none) (upd G a (ErO (.ref C) dd a)) } (σ.set i (some (.ref a))) H) : wKeep K (.ref c) i ts Wo D (.ref C) dd σ H :=
  ⟨true, e, fun _ a ha => h a ha, fun z => Bool.noConfusion z⟩
/-! ### a list unpacked -/
def UnlK (K : PySem.W.Frag) (p : Addr) (n : Nat) (H : Hp) (G : List V → Prop) : Prop := ∃ xs, SqL K H p xs ∧ xs.length = n ∧ G xs
theorem g_unl {K : PySem.W.Frag} {n : Nat} {gs : TGs} {a : Addr} {σ : L2.St} {H : Hp} {N : L2.St → Hp → Prop} : gUnl K n gs (.ref a) σ H N ↔ UnlK K a n H fun xs => gs xs σ H N := ⟨fun ⟨_, xs, e, h, z, q⟩ => by cases e; exact ⟨xs, h, z, q⟩, fun ⟨xs, h, z, q⟩ => ⟨a, xs, rfl, h, z, q⟩⟩
theorem UnlK.of {K : PySem.W.Frag} {p : Addr} {n : Nat} {H : Hp} {xs : List V} {G : List V → Prop} (h : SqL K H p xs) (e : xs.length = n) (g : G xs) : UnlK K p n H G := ⟨xs, h, e, g⟩
/-! ### classmethods; a class in a local name -/
theorem fnR_of {P : Program} {w : World} {K : PySem.W.Frag} {mg : Str → Option Value} {bs : Heap} {C : CXT} {k : Nat} {f : Addr} {fd : FuncData} {ps : List Str} {sp : Sp} (F : FnOk P w K mg bs C k f fd ps sp) (b : Binds K fd ps []) : FnR P w K mg bs C k f sp := fun A fr s H us vs Q E r e0 v q => by
  have hl : (us ++ []).length = ps.length := by rw [List.append_nil, ← v.length]; exact F.len _ _ _ _ q
  have kx : K.In s.heap := e0.mod.kin.keeps fun c o z => (e0.bs c o z).1
  have h := b s us kx hl
  rw [List.append_nil] at h
  exact F.run A fr s H ⟨us, []⟩ us vs Q E r e0 h v q
theorem e_cmeth {C : Addr} {sp : Sp} {E : XK} {ta : TE} {t : TA} {σ : L2.St} {H : Hp} {Q : VK} : ClX.tCMeth C sp E ta t σ H Q = ta σ H fun x H1 => x = .ref C ∧ t σ H1 fun vs H2 => sp (.ref C :: vs) H2 Q E := propext ⟨fun h => h, fun h => h⟩
def tMakeV (i : Nat) (C : Addr) (sp : Sp) (E : XK) (t : TA) : TE := fun σ H Q => σ[i]? = some (some (.ref C)) ∧ t σ H fun vs H1 => MkK C H1 fun x H2 => sp (.ref x :: vs) H2 (fun v H3 => v = .non ∧ Q (.ref x) H3) E
theorem e_makeV {i : Nat} {C : Addr} {sp : Sp} {E : XK} {t : TA} {σ : L2.St} {H : Hp} {Q : VK} : tMakeV i C sp E t σ H Q = (σ[i]? = some (some (.ref C)) ∧ t σ H fun vs H1 => MkK C H1 fun x H2 => sp (.ref x :: vs) H2 (fun v H3 => v = .non ∧ Q (.ref x) H3) E) := propext ⟨fun h => h, fun h => h⟩
theorem pe_makeV {X : Cx} {CX : CXT} {k i : Nat} {C f : Addr} {fd : FuncData} {ps : List Str} {sp : Sp} {E : XK} {x : Str} {e : Expr} {es : List Expr} {t : TA} {p pos : Pos} (M : Mk X.K C f) (F : FnOk X.prog X.w X.K X.mg X.base CX k f fd ps sp) (r : Room (k + 1) X.A) (b : Binds X.K fd ps []) (hx : Passes CX X E)
    (hN : X.N[i]? = some x) (hv : Vis X.env.scope x) (ha : PA X (e :: es) t) (h1 : (x == ("__debug__" : Str)) = false := by decide) (h2 : (x == ("__classdict__" : Str)) = false := by decide)
    (he : starEach (e :: es) X.env = (false, eval e X.env) :: starEach es X.env := by rfl) (hp : (backTo pos (starEach es X.env)).any (·.1) = false := by rfl) : PE X (.Call (.Name x p) (e :: es) [] pos) (tMakeV i C sp E t) := by
  refine ⟨fun pins s σ H Q J h => ?_⟩
  obtain ⟨hs, h⟩ := h
  refine wpAny_Call_Name_kw (thn ((pe_var (pos := p) (i := i) hN hv h1 h2).run pins s σ H (fun v H1 => v = .ref C ∧ H1 = H) J ⟨.ref C, hs, rfl, rfl⟩) ?_)
  rintro u s1 ⟨v, H1, J1, rv, rfl, rfl⟩
  cases rv
  refine PySem.W.callWith_K (h₀ := X.base) J.ok.mod.kin M.kp (thn (ha.run pos pins s1 σ _ _ J1 h) ?_) he hp
  rintro us s2 ⟨vs, H2, J2, rs, q⟩
  exact ⟨J2.kIn, run_make M F r b .nil hx J2 rs fun y dx n1 n2 n3 => by rw [List.append_nil]; exact q y dx n1 n2 n3⟩
/-! ### isinstance of a kept exception -/
def rIsX (K : PySem.W.Frag) : List V → Hp → VK → Prop := fun xs H Q => ∃ (D a : Addr) (c : V) (cv : Value) (b : Bool), xs = [.ref a, c] ∧ H a = some (ErO (.ref D) none a) ∧ ExcC K D ∧ (∀ u, RelV c u → u = cv) ∧ PySem.W.kitOne K (.ref D) cv = some b ∧ Q (.bl b) H
theorem cr_isX {X : Cx} : CallR X (.builtin "isinstance") (rIsX X.K) := by
  intro pins s σ H xs us Q J r h
  obtain ⟨D, a, c, cv, b, rfl, ha, C, hcv, e, q⟩ := h
  obtain ⟨⟨oe, vs, hg, hz, hd⟩, _, _⟩ := J.hok a _ ha
  cases r with
  | cons rx rr =>
    cases rr with
    | cons rt rr =>
      cases rr
      cases rx
      have ec := hcv _ rt
      subst ec
      have I2 : PySem.W.InstAt s.heap a oe D none := by
        obtain ⟨oc, od, oda, osl⟩ := oe
        obtain ⟨k1, k2⟩ := hz
        dsimp only at k1 k2 hd
        subst k1 k2 hd
        exact ⟨hg, rfl, rfl, trivial⟩
      exact PySem.W.kia_one (PySem.W.handS_kitx_exc C.hg C.hk C.hs C.hd C.ha C.hn C.ht C.hm) J.kIn I2 e (fun z => nomatch z) fun tk => ⟨.bl b, H, J.kept (t' := tk) fun _ _ z => z, rfl, q⟩
/-- of a class of the text, of a built-in one -/
def IsXK (K : PySem.W.Frag) (a : Addr) (c : Value) (H : Hp) (G : Bool → Prop) : Prop := ∃ D b, H a = some (ErO (.ref D) none a) ∧ ExcC K D ∧ PySem.W.kitOne K (.ref D) c = some b ∧ G b
theorem x_isX {K : PySem.W.Frag} {a C : Addr} {H : Hp} {Q : VK} : rIsX K [.ref a, .ref C] H Q ↔ IsXK K a (.ref C) H fun b => Q (.bl b) H :=
  ⟨fun ⟨D, a', c, cv, b, e, h1, h2, h3, h4, q⟩ => by cases e; have e2 := h3 (.ref C) rfl; subst e2; exact ⟨D, b, h1, h2, h4, q⟩, fun ⟨D, b, h1, h2, h4, q⟩ => ⟨D, a, _, _, b, rfl, h1, h2, fun _ z => z, h4, q⟩⟩
theorem x_isXT {K : PySem.W.Frag} {a : Addr} {T : String} {H : Hp} {Q : VK} : rIsX K [.ref a, .ty T] H Q ↔ IsXK K a (.type T) H fun b => Q (.bl b) H :=
  ⟨fun ⟨D, a', c, cv, b, e, h1, h2, h3, h4, q⟩ => by cases e; have e2 := h3 (.type T) rfl; subst e2; exact ⟨D, b, h1, h2, h4, q⟩, fun ⟨D, b, h1, h2, h4, q⟩ => ⟨D, a, _, _, b, rfl, h1, h2, fun _ z => z, h4, q⟩⟩
theorem IsXK.of {K : PySem.W.Frag} {D a : Addr} {c : Value} {b : Bool} {H : Hp} {G : Bool → Prop} (h : H a = some (ErO (.ref D) none a)) (C : ExcC K D) (k : PySem.W.kitOne K (.ref D) c = some b) (g : G b) : IsXK K a c H G := ⟨D, b, h, C, k, g⟩
/-! ### isinstance, worked out -/
theorem kit_sub {K : PySem.W.Frag} {C D : Addr} {b : Bool} (h0 : (Value.ref C == Value.ref D) = false) (h2 : PySem.W.hasDictIn K D = true) (h3 : PySem.W.typeIn K (.ref D) = some (.type "type")) (h4 : PySem.W.subIn K (.ref C) (.ref D) = some b) : PySem.W.kitOne K (.ref C) (.ref D) = some b := by
  unfold PySem.W.kitOne
  rw [if_neg (by rw [h0]; decide)]
  unfold PySem.W.kitCls
  dsimp only
  have hs : (PySem.W.clsIn K D).isSome = true := by
    unfold PySem.W.hasDictIn at h2
    cases e : PySem.W.clsIn K D with
    | none => rw [e] at h2; cases h2
    | some c => rfl
  rw [hs, h3, if_pos (by rfl)]
  exact h4
theorem kit_self {K : PySem.W.Frag} {C : Addr} : PySem.W.kitOne K (.ref C) (.ref C) = some true := by
  unfold PySem.W.kitOne
  rw [if_pos (by simp)]
theorem kit_blt {K : PySem.W.Frag} {C : Addr} {b : Bool} {T : String} (hm : PySem.W.kitMeta T = true) (h4 : PySem.W.subIn K (.ref C) (.type T) = some b) : PySem.W.kitOne K (.ref C) (.type T) = some b := by
  unfold PySem.W.kitOne
  rw [if_neg (show ¬ ((Value.ref C == Value.type T) = true) from by simp)]
  unfold PySem.W.kitCls
  dsimp only
  rw [if_pos hm]
  exact h4
end Vg


set_option Elab.async false
set_option linter.all false
set_option maxRecDepth 100000
namespace Vg
open PySem PySem.Spec PyProof.Rows L2
/-! ### sum of a tuple of two numbers -/
def rSumT (K : PySem.W.Frag) : List V → Hp → VK → Prop := fun vs H Q => ∃ (a : Addr) (i j : Int), vs = [.ref a] ∧ SqT K H a [.int i, .int j] ∧ Q (.int (i + j)) H
theorem sum_two (i j : Int) : PySem.W.Num.sumInts 0 [.int i, .int j] = some (.int (i + j)) := by
  have e : (0 : Int) + i + j = i + j := by omega
  unfold PySem.W.Num.sumInts
  split
  · unfold PySem.W.Num.sumInts
    split
    · unfold PySem.W.Num.sumInts; rw [e]
    · unfold PySem.W.Num.foldFrom; rw [e]
  · rw [← e]; rfl
theorem cr_sumT {X : Cx} (hc : X.calm = true) : CallR X (.builtin "sum") (rSumT X.K) := by
  intro pins s σ H vs us Q I r h
  obtain ⟨a, i, j, rfl, hs, q⟩ := h
  obtain ⟨its, rv, hl, _⟩ := I.tuple hs
  rw [Vals.ref1 r]
  cases rv with
  | cons r1 rr =>
    cases rr with
    | cons r2 rr =>
      cases rr
      obtain ⟨t1, rfl⟩ := r1
      obtain ⟨t2, rfl⟩ := r2
      refine PySem.Flt.call_sum_walkF (sum_two i j) (PySem.W.iter_tupleW (A := X.A.in1) (I.ok.hd hc) hl fun s₂ e W st hfp hw hk => ?_)
      refine ⟨_, _, _, _, _, _, rfl, W, st, hfp, fun k v hv => ?_, fun s' v hn m => ?_⟩
      · match k, hv with
        | 0, hv => cases hv; exact ⟨_, rfl, .int _ _⟩
        | 1, hv => cases hv; exact ⟨_, rfl, .int _ _⟩
      · obtain ⟨h', tk, rfl, hk'⟩ := PySem.W.moved_old e rfl m
        cases hn
        exact ⟨.int _, H, I.kept hk', ⟨_, rfl⟩, q⟩
end Vg


set_option Elab.async false
set_option linter.all false
set_option maxRecDepth 100000
set_option maxHeartbeats 4000000
namespace My
open PySem PySem.Spec PyProof.Rows L2 Vg
theorem cp_10_15 : CPow 10 15 ↔ True := iff_true_intro ⟨by decide, by decide, by decide⟩
theorem sz_3 : 3 ≤ sizeLine ↔ True := iff_true_intro (by decide)
theorem sz_2 : 2 ≤ sizeLine ↔ True := iff_true_intro (by decide)
theorem sz_0 : 0 ≤ sizeLine ↔ True := iff_true_intro (by decide)
theorem sz_5 : 5 ≤ sizeLine ↔ True := iff_true_intro (by decide)
theorem sz_4 : 4 ≤ sizeLine ↔ True := iff_true_intro (by decide)
theorem sz_1 : 1 ≤ sizeLine ↔ True := iff_true_intro (by decide)
theorem cp_10_44 : CPow 10 44 ↔ True := iff_true_intro ⟨by decide, by decide, by decide⟩
theorem cp_10_43 : CPow 10 43 ↔ True := iff_true_intro ⟨by decide, by decide, by decide⟩
theorem cp_10_18 : CPow 10 18 ↔ True := iff_true_intro ⟨by decide, by decide, by decide⟩
theorem cp_10_4 : CPow 10 4 ↔ True := iff_true_intro ⟨by decide, by decide, by decide⟩
theorem cp_10_9 : CPow 10 9 ↔ True := iff_true_intro ⟨by decide, by decide, by decide⟩
theorem cp_10_39 : CPow 10 39 ↔ True := iff_true_intro ⟨by decide, by decide, by decide⟩
theorem nf__end_in_cell___splitter_at : (("_end_in_cell" : Str) = "_splitter_at") = False := eq_false (by decide +kernel)
theorem nb__end_in_cell___splitter_at : (("_end_in_cell" : Str) == "_splitter_at") = false := by decide +kernel
theorem nf__end_in_cell__cells : (("_end_in_cell" : Str) = "cells") = False := eq_false (by decide +kernel)
theorem nb__end_in_cell__cells : (("_end_in_cell" : Str) == "cells") = false := by decide +kernel
theorem nf__end_in_cell__closed : (("_end_in_cell" : Str) = "closed") = False := eq_false (by decide +kernel)
theorem nb__end_in_cell__closed : (("_end_in_cell" : Str) == "closed") = false := by decide +kernel
theorem nf__end_in_cell__done : (("_end_in_cell" : Str) = "done") = False := eq_false (by decide +kernel)
theorem nb__end_in_cell__done : (("_end_in_cell" : Str) == "done") = false := by decide +kernel
theorem nf__end_in_cell__names : (("_end_in_cell" : Str) = "names") = False := eq_false (by decide +kernel)
theorem nb__end_in_cell__names : (("_end_in_cell" : Str) == "names") = false := by decide +kernel
theorem nf__end_in_cell__places : (("_end_in_cell" : Str) = "places") = False := eq_false (by decide +kernel)
theorem nb__end_in_cell__places : (("_end_in_cell" : Str) == "places") = false := by decide +kernel
theorem nf__end_in_cell__reports : (("_end_in_cell" : Str) = "reports") = False := eq_false (by decide +kernel)
theorem nb__end_in_cell__reports : (("_end_in_cell" : Str) == "reports") = false := by decide +kernel
theorem nf__end_in_cell__steps : (("_end_in_cell" : Str) = "steps") = False := eq_false (by decide +kernel)
theorem nb__end_in_cell__steps : (("_end_in_cell" : Str) == "steps") = false := by decide +kernel
theorem nf__end_in_cell__writer : (("_end_in_cell" : Str) = "writer") = False := eq_false (by decide +kernel)
theorem nb__end_in_cell__writer : (("_end_in_cell" : Str) == "writer") = false := by decide +kernel
theorem nf__splitter_at___end_in_cell : (("_splitter_at" : Str) = "_end_in_cell") = False := eq_false (by decide +kernel)
theorem nb__splitter_at___end_in_cell : (("_splitter_at" : Str) == "_end_in_cell") = false := by decide +kernel
theorem nf__splitter_at__cells : (("_splitter_at" : Str) = "cells") = False := eq_false (by decide +kernel)
theorem nb__splitter_at__cells : (("_splitter_at" : Str) == "cells") = false := by decide +kernel
theorem nf__splitter_at__closed : (("_splitter_at" : Str) = "closed") = False := eq_false (by decide +kernel)
theorem nb__splitter_at__closed : (("_splitter_at" : Str) == "closed") = false := by decide +kernel
theorem nf__splitter_at__done : (("_splitter_at" : Str) = "done") = False := eq_false (by decide +kernel)
theorem nb__splitter_at__done : (("_splitter_at" : Str) == "done") = false := by decide +kernel
theorem nf__splitter_at__names : (("_splitter_at" : Str) = "names") = False := eq_false (by decide +kernel)
theorem nb__splitter_at__names : (("_splitter_at" : Str) == "names") = false := by decide +kernel
theorem nf__splitter_at__places : (("_splitter_at" : Str) = "places") = False := eq_false (by decide +kernel)
theorem nb__splitter_at__places : (("_splitter_at" : Str) == "places") = false := by decide +kernel
theorem nf__splitter_at__reports : (("_splitter_at" : Str) = "reports") = False := eq_false (by decide +kernel)
theorem nb__splitter_at__reports : (("_splitter_at" : Str) == "reports") = false := by decide +kernel
theorem nf__splitter_at__steps : (("_splitter_at" : Str) = "steps") = False := eq_false (by decide +kernel)
theorem nb__splitter_at__steps : (("_splitter_at" : Str) == "steps") = false := by decide +kernel
theorem nf__splitter_at__writer : (("_splitter_at" : Str) = "writer") = False := eq_false (by decide +kernel)
theorem nb__splitter_at__writer : (("_splitter_at" : Str) == "writer") = false := by decide +kernel
theorem nf_cells___end_in_cell : (("cells" : Str) = "_end_in_cell") = False := eq_false (by decide +kernel)
theorem nb_cells___end_in_cell : (("cells" : Str) == "_end_in_cell") = false := by decide +kernel
theorem nf_cells___splitter_at : (("cells" : Str) = "_splitter_at") = False := eq_false (by decide +kernel)
theorem nb_cells___splitter_at : (("cells" : Str) == "_splitter_at") = false := by decide +kernel
theorem nf_cells__closed : (("cells" : Str) = "closed") = False := eq_false (by decide +kernel)
theorem nb_cells__closed : (("cells" : Str) == "closed") = false := by decide +kernel
theorem nf_cells__done : (("cells" : Str) = "done") = False := eq_false (by decide +kernel)
theorem nb_cells__done : (("cells" : Str) == "done") = false := by decide +kernel
theorem nf_cells__names : (("cells" : Str) = "names") = False := eq_false (by decide +kernel)
theorem nb_cells__names : (("cells" : Str) == "names") = false := by decide +kernel
theorem nf_cells__places : (("cells" : Str) = "places") = False := eq_false (by decide +kernel)
theorem nb_cells__places : (("cells" : Str) == "places") = false := by decide +kernel
theorem nf_cells__reports : (("cells" : Str) = "reports") = False := eq_false (by decide +kernel)
theorem nb_cells__reports : (("cells" : Str) == "reports") = false := by decide +kernel
theorem nf_cells__steps : (("cells" : Str) = "steps") = False := eq_false (by decide +kernel)
theorem nb_cells__steps : (("cells" : Str) == "steps") = false := by decide +kernel
theorem nf_cells__writer : (("cells" : Str) = "writer") = False := eq_false (by decide +kernel)
theorem nb_cells__writer : (("cells" : Str) == "writer") = false := by decide +kernel
theorem nf_closed___end_in_cell : (("closed" : Str) = "_end_in_cell") = False := eq_false (by decide +kernel)
theorem nb_closed___end_in_cell : (("closed" : Str) == "_end_in_cell") = false := by decide +kernel
theorem nf_closed___splitter_at : (("closed" : Str) = "_splitter_at") = False := eq_false (by decide +kernel)
theorem nb_closed___splitter_at : (("closed" : Str) == "_splitter_at") = false := by decide +kernel
theorem nf_closed__cells : (("closed" : Str) = "cells") = False := eq_false (by decide +kernel)
theorem nb_closed__cells : (("closed" : Str) == "cells") = false := by decide +kernel
theorem nf_closed__done : (("closed" : Str) = "done") = False := eq_false (by decide +kernel)
theorem nb_closed__done : (("closed" : Str) == "done") = false := by decide +kernel
theorem nf_closed__names : (("closed" : Str) = "names") = False := eq_false (by decide +kernel)
theorem nb_closed__names : (("closed" : Str) == "names") = false := by decide +kernel
theorem nf_closed__places : (("closed" : Str) = "places") = False := eq_false (by decide +kernel)
theorem nb_closed__places : (("closed" : Str) == "places") = false := by decide +kernel
theorem nf_closed__reports : (("closed" : Str) = "reports") = False := eq_false (by decide +kernel)
theorem nb_closed__reports : (("closed" : Str) == "reports") = false := by decide +kernel
theorem nf_closed__steps : (("closed" : Str) = "steps") = False := eq_false (by decide +kernel)
theorem nb_closed__steps : (("closed" : Str) == "steps") = false := by decide +kernel
theorem nf_closed__writer : (("closed" : Str) = "writer") = False := eq_false (by decide +kernel)
theorem nb_closed__writer : (("closed" : Str) == "writer") = false := by decide +kernel
theorem nf_done___end_in_cell : (("done" : Str) = "_end_in_cell") = False := eq_false (by decide +kernel)
theorem nb_done___end_in_cell : (("done" : Str) == "_end_in_cell") = false := by decide +kernel
theorem nf_done___splitter_at : (("done" : Str) = "_splitter_at") = False := eq_false (by decide +kernel)
theorem nb_done___splitter_at : (("done" : Str) == "_splitter_at") = false := by decide +kernel
theorem nf_done__cells : (("done" : Str) = "cells") = False := eq_false (by decide +kernel)
theorem nb_done__cells : (("done" : Str) == "cells") = false := by decide +kernel
theorem nf_done__closed : (("done" : Str) = "closed") = False := eq_false (by decide +kernel)
theorem nb_done__closed : (("done" : Str) == "closed") = false := by decide +kernel
theorem nf_done__names : (("done" : Str) = "names") = False := eq_false (by decide +kernel)
theorem nb_done__names : (("done" : Str) == "names") = false := by decide +kernel
theorem nf_done__places : (("done" : Str) = "places") = False := eq_false (by decide +kernel)
theorem nb_done__places : (("done" : Str) == "places") = false := by decide +kernel
theorem nf_done__reports : (("done" : Str) = "reports") = False := eq_false (by decide +kernel)
theorem nb_done__reports : (("done" : Str) == "reports") = false := by decide +kernel
theorem nf_done__steps : (("done" : Str) = "steps") = False := eq_false (by decide +kernel)
theorem nb_done__steps : (("done" : Str) == "steps") = false := by decide +kernel
theorem nf_done__writer : (("done" : Str) = "writer") = False := eq_false (by decide +kernel)
theorem nb_done__writer : (("done" : Str) == "writer") = false := by decide +kernel
theorem nf_names___end_in_cell : (("names" : Str) = "_end_in_cell") = False := eq_false (by decide +kernel)
theorem nb_names___end_in_cell : (("names" : Str) == "_end_in_cell") = false := by decide +kernel
theorem nf_names___splitter_at : (("names" : Str) = "_splitter_at") = False := eq_false (by decide +kernel)
theorem nb_names___splitter_at : (("names" : Str) == "_splitter_at") = false := by decide +kernel
theorem nf_names__cells : (("names" : Str) = "cells") = False := eq_false (by decide +kernel)
theorem nb_names__cells : (("names" : Str) == "cells") = false := by decide +kernel
theorem nf_names__closed : (("names" : Str) = "closed") = False := eq_false (by decide +kernel)
theorem nb_names__closed : (("names" : Str) == "closed") = false := by decide +kernel
theorem nf_names__done : (("names" : Str) = "done") = False := eq_false (by decide +kernel)
theorem nb_names__done : (("names" : Str) == "done") = false := by decide +kernel
theorem nf_names__places : (("names" : Str) = "places") = False := eq_false (by decide +kernel)
theorem nb_names__places : (("names" : Str) == "places") = false := by decide +kernel
theorem nf_names__reports : (("names" : Str) = "reports") = False := eq_false (by decide +kernel)
theorem nb_names__reports : (("names" : Str) == "reports") = false := by decide +kernel
theorem nf_names__steps : (("names" : Str) = "steps") = False := eq_false (by decide +kernel)
theorem nb_names__steps : (("names" : Str) == "steps") = false := by decide +kernel
theorem nf_names__writer : (("names" : Str) = "writer") = False := eq_false (by decide +kernel)
theorem nb_names__writer : (("names" : Str) == "writer") = false := by decide +kernel
theorem nf_places___end_in_cell : (("places" : Str) = "_end_in_cell") = False := eq_false (by decide +kernel)
theorem nb_places___end_in_cell : (("places" : Str) == "_end_in_cell") = false := by decide +kernel
theorem nf_places___splitter_at : (("places" : Str) = "_splitter_at") = False := eq_false (by decide +kernel)
theorem nb_places___splitter_at : (("places" : Str) == "_splitter_at") = false := by decide +kernel
theorem nf_places__cells : (("places" : Str) = "cells") = False := eq_false (by decide +kernel)
theorem nb_places__cells : (("places" : Str) == "cells") = false := by decide +kernel
theorem nf_places__closed : (("places" : Str) = "closed") = False := eq_false (by decide +kernel)
theorem nb_places__closed : (("places" : Str) == "closed") = false := by decide +kernel
theorem nf_places__done : (("places" : Str) = "done") = False := eq_false (by decide +kernel)
theorem nb_places__done : (("places" : Str) == "done") = false := by decide +kernel
theorem nf_places__names : (("places" : Str) = "names") = False := eq_false (by decide +kernel)
theorem nb_places__names : (("places" : Str) == "names") = false := by decide +kernel
theorem nf_places__reports : (("places" : Str) = "reports") = False := eq_false (by decide +kernel)
theorem nb_places__reports : (("places" : Str) == "reports") = false := by decide +kernel
theorem nf_places__steps : (("places" : Str) = "steps") = False := eq_false (by decide +kernel)
theorem nb_places__steps : (("places" : Str) == "steps") = false := by decide +kernel
theorem nf_places__writer : (("places" : Str) = "writer") = False := eq_false (by decide +kernel)
theorem nb_places__writer : (("places" : Str) == "writer") = false := by decide +kernel
theorem nf_reports___end_in_cell : (("reports" : Str) = "_end_in_cell") = False := eq_false (by decide +kernel)
theorem nb_reports___end_in_cell : (("reports" : Str) == "_end_in_cell") = false := by decide +kernel
theorem nf_reports___splitter_at : (("reports" : Str) = "_splitter_at") = False := eq_false (by decide +kernel)
theorem nb_reports___splitter_at : (("reports" : Str) == "_splitter_at") = false := by decide +kernel
theorem nf_reports__cells : (("reports" : Str) = "cells") = False := eq_false (by decide +kernel)
theorem nb_reports__cells : (("reports" : Str) == "cells") = false := by decide +kernel
theorem nf_reports__closed : (("reports" : Str) = "closed") = False := eq_false (by decide +kernel)
theorem nb_reports__closed : (("reports" : Str) == "closed") = false := by decide +kernel
theorem nf_reports__done : (("reports" : Str) = "done") = False := eq_false (by decide +kernel)
theorem nb_reports__done : (("reports" : Str) == "done") = false := by decide +kernel
theorem nf_reports__names : (("reports" : Str) = "names") = False := eq_false (by decide +kernel)
theorem nb_reports__names : (("reports" : Str) == "names") = false := by decide +kernel
theorem nf_reports__places : (("reports" : Str) = "places") = False := eq_false (by decide +kernel)
theorem nb_reports__places : (("reports" : Str) == "places") = false := by decide +kernel
theorem nf_reports__steps : (("reports" : Str) = "steps") = False := eq_false (by decide +kernel)
theorem nb_reports__steps : (("reports" : Str) == "steps") = false := by decide +kernel
theorem nf_reports__writer : (("reports" : Str) = "writer") = False := eq_false (by decide +kernel)
theorem nb_reports__writer : (("reports" : Str) == "writer") = false := by decide +kernel
theorem nf_steps___end_in_cell : (("steps" : Str) = "_end_in_cell") = False := eq_false (by decide +kernel)
theorem nb_steps___end_in_cell : (("steps" : Str) == "_end_in_cell") = false := by decide +kernel
theorem nf_steps___splitter_at : (("steps" : Str) = "_splitter_at") = False := eq_false (by decide +kernel)
theorem nb_steps___splitter_at : (("steps" : Str) == "_splitter_at") = false := by decide +kernel
theorem nf_steps__cells : (("steps" : Str) = "cells") = False := eq_false (by decide +kernel)
theorem nb_steps__cells : (("steps" : Str) == "cells") = false := by decide +kernel
theorem nf_steps__closed : (("steps" : Str) = "closed") = False := eq_false (by decide +kernel)
theorem nb_steps__closed : (("steps" : Str) == "closed") = false := by decide +kernel
theorem nf_steps__done : (("steps" : Str) = "done") = False := eq_false (by decide +kernel)
theorem nb_steps__done : (("steps" : Str) == "done") = false := by decide +kernel
theorem nf_steps__names : (("steps" : Str) = "names") = False := eq_false (by decide +kernel)
theorem nb_steps__names : (("steps" : Str) == "names") = false := by decide +kernel
theorem nf_steps__places : (("steps" : Str) = "places") = False := eq_false (by decide +kernel)
theorem nb_steps__places : (("steps" : Str) == "places") = false := by decide +kernel
theorem nf_steps__reports : (("steps" : Str) = "reports") = False := eq_false (by decide +kernel)
theorem nb_steps__reports : (("steps" : Str) == "reports") = false := by decide +kernel
theorem nf_steps__writer : (("steps" : Str) = "writer") = False := eq_false (by decide +kernel)
theorem nb_steps__writer : (("steps" : Str) == "writer") = false := by decide +kernel
theorem nf_writer___end_in_cell : (("writer" : Str) = "_end_in_cell") = False := eq_false (by decide +kernel)
theorem nb_writer___end_in_cell : (("writer" : Str) == "_end_in_cell") = false := by decide +kernel
theorem nf_writer___splitter_at : (("writer" : Str) = "_splitter_at") = False := eq_false (by decide +kernel)
theorem nb_writer___splitter_at : (("writer" : Str) == "_splitter_at") = false := by decide +kernel
theorem nf_writer__cells : (("writer" : Str) = "cells") = False := eq_false (by decide +kernel)
theorem nb_writer__cells : (("writer" : Str) == "cells") = false := by decide +kernel
theorem nf_writer__closed : (("writer" : Str) = "closed") = False := eq_false (by decide +kernel)
theorem nb_writer__closed : (("writer" : Str) == "closed") = false := by decide +kernel
theorem nf_writer__done : (("writer" : Str) = "done") = False := eq_false (by decide +kernel)
theorem nb_writer__done : (("writer" : Str) == "done") = false := by decide +kernel
theorem nf_writer__names : (("writer" : Str) = "names") = False := eq_false (by decide +kernel)
theorem nb_writer__names : (("writer" : Str) == "names") = false := by decide +kernel
theorem nf_writer__places : (("writer" : Str) = "places") = False := eq_false (by decide +kernel)
theorem nb_writer__places : (("writer" : Str) == "places") = false := by decide +kernel
theorem nf_writer__reports : (("writer" : Str) = "reports") = False := eq_false (by decide +kernel)
theorem nb_writer__reports : (("writer" : Str) == "reports") = false := by decide +kernel
theorem nf_writer__steps : (("writer" : Str) = "steps") = False := eq_false (by decide +kernel)
theorem nb_writer__steps : (("writer" : Str) == "steps") = false := by decide +kernel
end My

open PySem PySem.Spec PyProof.Rows L2 Vg
set_option hygiene false in
local macro_rules | `(tactic| walk_at "vc") => `(tactic| try simp only [k_cx, k_cx2, x_isI_list, x_isI_str, x_isI_dict, x_isI_tuple, x_isB_list, x_isB_str, x_isB_dict, x_isB_tuple, x_isN_list, x_isN_str, x_isN_dict, x_isN_tuple, x_isS_list, x_isS_dict, x_isS_tuple, x_reprQ, x_cnt, e_revL, x_tupL, e_dn, e_d1, x_dctP, x_strI, x_intB, e_din, e_dnin, x_sortedP, Option.isSome_none, Option.isSome_some, e_dget, e_dget2, s_dput, e_dnT, i_zip, e_disp, tp_nil, tp_cons, x_joinS, x_splitS, x_asciiS, x_digitS, x_intS, x_lenS, x_mulS, x_ixS, ty_S, x_listOf, e_call, e_meth, e_methR, e_make, e_prop, x_lenO, s_par3, e_icon, e_cval, e_fmt, e_jo, e_jo0, g_unl, e_cmeth, e_makeV, x_isX, x_isXT, My.cp_10_15, My.sz_3, My.sz_2, My.sz_0, My.sz_5, My.sz_4, My.sz_1, My.cp_10_44, My.cp_10_43, My.cp_10_18, My.cp_10_4, My.cp_10_9, My.cp_10_39, My.nf__end_in_cell___splitter_at, My.nb__end_in_cell___splitter_at, My.nf__end_in_cell__cells, My.nb__end_in_cell__cells, My.nf__end_in_cell__closed, My.nb__end_in_cell__closed, My.nf__end_in_cell__done, My.nb__end_in_cell__done, My.nf__end_in_cell__names, My.nb__end_in_cell__names, My.nf__end_in_cell__places, My.nb__end_in_cell__places, My.nf__end_in_cell__reports, My.nb__end_in_cell__reports, My.nf__end_in_cell__steps, My.nb__end_in_cell__steps, My.nf__end_in_cell__writer, My.nb__end_in_cell__writer, My.nf__splitter_at___end_in_cell, My.nb__splitter_at___end_in_cell, My.nf__splitter_at__cells, My.nb__splitter_at__cells, My.nf__splitter_at__closed, My.nb__splitter_at__closed, My.nf__splitter_at__done, My.nb__splitter_at__done, My.nf__splitter_at__names, My.nb__splitter_at__names, My.nf__splitter_at__places, My.nb__splitter_at__places, My.nf__splitter_at__reports, My.nb__splitter_at__reports, My.nf__splitter_at__steps, My.nb__splitter_at__steps, My.nf__splitter_at__writer, My.nb__splitter_at__writer, My.nf_cells___end_in_cell, My.nb_cells___end_in_cell, My.nf_cells___splitter_at, My.nb_cells___splitter_at, My.nf_cells__closed, My.nb_cells__closed, My.nf_cells__done, My.nb_cells__done, My.nf_cells__names, My.nb_cells__names, My.nf_cells__places, My.nb_cells__places, My.nf_cells__reports, My.nb_cells__reports, My.nf_cells__steps, My.nb_cells__steps, My.nf_cells__writer, My.nb_cells__writer, My.nf_closed___end_in_cell, My.nb_closed___end_in_cell, My.nf_closed___splitter_at, My.nb_closed___splitter_at, My.nf_closed__cells, My.nb_closed__cells, My.nf_closed__done, My.nb_closed__done, My.nf_closed__names, My.nb_closed__names, My.nf_closed__places, My.nb_closed__places, My.nf_closed__reports, My.nb_closed__reports, My.nf_closed__steps, My.nb_closed__steps, My.nf_closed__writer, My.nb_closed__writer, My.nf_done___end_in_cell, My.nb_done___end_in_cell, My.nf_done___splitter_at, My.nb_done___splitter_at, My.nf_done__cells, My.nb_done__cells, My.nf_done__closed, My.nb_done__closed, My.nf_done__names, My.nb_done__names, My.nf_done__places, My.nb_done__places, My.nf_done__reports, My.nb_done__reports, My.nf_done__steps, My.nb_done__steps, My.nf_done__writer, My.nb_done__writer, My.nf_names___end_in_cell, My.nb_names___end_in_cell, My.nf_names___splitter_at, My.nb_names___splitter_at, My.nf_names__cells, My.nb_names__cells, My.nf_names__closed, My.nb_names__closed, My.nf_names__done, My.nb_names__done, My.nf_names__places, My.nb_names__places, My.nf_names__reports, My.nb_names__reports, My.nf_names__steps, My.nb_names__steps, My.nf_names__writer, My.nb_names__writer, My.nf_places___end_in_cell, My.nb_places___end_in_cell, My.nf_places___splitter_at, My.nb_places___splitter_at, My.nf_places__cells, My.nb_places__cells, My.nf_places__closed, My.nb_places__closed, My.nf_places__done, My.nb_places__done, My.nf_places__names, My.nb_places__names, My.nf_places__reports, My.nb_places__reports, My.nf_places__steps, My.nb_places__steps, My.nf_places__writer, My.nb_places__writer, My.nf_reports___end_in_cell, My.nb_reports___end_in_cell, My.nf_reports___splitter_at, My.nb_reports___splitter_at, My.nf_reports__cells, My.nb_reports__cells, My.nf_reports__closed, My.nb_reports__closed, My.nf_reports__done, My.nb_reports__done, My.nf_reports__names, My.nb_reports__names, My.nf_reports__places, My.nb_reports__places, My.nf_reports__steps, My.nb_reports__steps, My.nf_reports__writer, My.nb_reports__writer, My.nf_steps___end_in_cell, My.nb_steps___end_in_cell, My.nf_steps___splitter_at, My.nb_steps___splitter_at, My.nf_steps__cells, My.nb_steps__cells, My.nf_steps__closed, My.nb_steps__closed, My.nf_steps__done, My.nb_steps__done, My.nf_steps__names, My.nb_steps__names, My.nf_steps__places, My.nb_steps__places, My.nf_steps__reports, My.nb_steps__reports, My.nf_steps__writer, My.nb_steps__writer, My.nf_writer___end_in_cell, My.nb_writer___end_in_cell, My.nf_writer___splitter_at, My.nb_writer___splitter_at, My.nf_writer__cells, My.nb_writer__cells, My.nf_writer__closed, My.nb_writer__closed, My.nf_writer__done, My.nb_writer__done, My.nf_writer__names, My.nb_writer__names, My.nf_writer__places, My.nb_writer__places, My.nf_writer__reports, My.nb_writer__reports, My.nf_writer__steps, My.nb_writer__steps, List.lookup, putF, beq_self_eq_true, e_var, e_c, e_op, e_un, e_if, e_andV, e_orV, e_notV, e_lst, e_tup, e_CB, e_BM, e_BM0, e_G, e_chain, e_sl, e_part, e_nopart, a_nil, a_cons, t_B, t_test, t_and, t_or, t_not, t_yes,
  s_seq, s_next, s_break, s_cont, s_drop, s_ret, s_retN, s_ifS, s_asg, s_aug, s_par, Int.zero_add, g_name, g_tup, g_nil, g_cons, g_sub, i_list, i_tup, i_rng1, i_rng2, i_enum, s_for, e_lc, x_I, x_I0, x_U, x_eq, x_ne, x_ixL, x_ixT, x_setL, x_app, x_ext, x_cat, x_slL, x_in, x_repr, e_fld, s_fld, e_MG, e_KG, x_rpt, x_rem, x_min, e_lrg1, e_rg1, x_rev, s_augS, x_ip, i_rng3, x_isR, x_is_int, x_is_bool, x_is_bi, x_is_bb, x_is_ib, x_is_nb, x_is_ni, x_is_sb, x_is_si, x_len, x_mx, x_mn,
  wipe, sc_ii, sc_ss, sc_bb, sc_nn, sc_ns, sc_sn, sc_ni, sc_in, List.set_cons_zero, List.set_cons_succ, List.getElem?_cons_zero, List.getElem?_cons_succ, Option.some.injEq, exists_eq_left', exists_eq_left, exists_and_left, exists_and_right, V.int.injEq, V.bl.injEq, V.ref.injEq, V.str.injEq, List.cons.injEq, and_true, true_and, decide_eq_true_eq, List.append_nil, reduceCtorEq, and_assoc,
  L2.start, List.map_cons, List.map_nil, List.length_cons, List.length_nil, List.replicate, List.cons_append, List.nil_append, Nat.reduceAdd, Nat.reduceSub, Nat.zero_add, ipI, decide_true, decide_false, if_true, if_false, Bool.not_true, Bool.not_false, Bool.false_eq_true, Int.reduceToNat, Int.reducePow, Int.reduceAdd, Int.reduceSub, Int.reduceMul, Int.reduceNeg, List.length_map])
local macro_rules | `(tactic| walk_at "sd") => `(tactic| first | assumption | omega | decide | exact ⟨by decide, by decide, by decide⟩ | exact ⟨by decide, by decide⟩ | (unfold CMul; omega) | (unfold CDiv; omega) | (show (_ : Nat) ≤ sizeLine; decide) | rfl)
local macro_rules | `(tactic| walk_at "mem") => `(tactic| (repeat (first | exact List.Mem.head _ | apply List.Mem.tail)))
local macro_rules | `(tactic| walk_at "put") => `(tactic| (repeat (first | exact Put.hd | apply Put.tl)))
local macro_rules | `(tactic| walk_at "pick") => `(tactic| (repeat (first | exact Pick.hd | apply Pick.tl)))
local macro_rules | `(tactic| walk_at "sel") => `(tactic| first | exact Sel.all | exact Sel.nil | (refine Sel.cons (by walk_at "pick") ?_; walk_at "sel") | (refine Sel.skip ?_; walk_at "sel"))
local macro_rules | `(tactic| walk_at "ifs") => `(tactic| repeat (first | rw [if_pos (by omega)] | rw [if_neg (by omega)]))
local macro_rules | `(tactic| walk_at "sds") => `(tactic| repeat (with_reducible refine And.intro (by walk_at "sd") ?_))
local macro_rules | `(tactic| walk_at "fs") => `(tactic| first | rfl | simp only [putF, List.lookup, beq_self_eq_true, if_true, if_false, reduceIte, My.nf__end_in_cell___splitter_at, My.nb__end_in_cell___splitter_at, My.nf__end_in_cell__cells, My.nb__end_in_cell__cells, My.nf__end_in_cell__closed, My.nb__end_in_cell__closed, My.nf__end_in_cell__done, My.nb__end_in_cell__done, My.nf__end_in_cell__names, My.nb__end_in_cell__names, My.nf__end_in_cell__places, My.nb__end_in_cell__places, My.nf__end_in_cell__reports, My.nb__end_in_cell__reports, My.nf__end_in_cell__steps, My.nb__end_in_cell__steps, My.nf__end_in_cell__writer, My.nb__end_in_cell__writer, My.nf__splitter_at___end_in_cell, My.nb__splitter_at___end_in_cell, My.nf__splitter_at__cells, My.nb__splitter_at__cells, My.nf__splitter_at__closed, My.nb__splitter_at__closed, My.nf__splitter_at__done, My.nb__splitter_at__done, My.nf__splitter_at__names, My.nb__splitter_at__names, My.nf__splitter_at__places, My.nb__splitter_at__places, My.nf__splitter_at__reports, My.nb__splitter_at__reports, My.nf__splitter_at__steps, My.nb__splitter_at__steps, My.nf__splitter_at__writer, My.nb__splitter_at__writer, My.nf_cells___end_in_cell, My.nb_cells___end_in_cell, My.nf_cells___splitter_at, My.nb_cells___splitter_at, My.nf_cells__closed, My.nb_cells__closed, My.nf_cells__done, My.nb_cells__done, My.nf_cells__names, My.nb_cells__names, My.nf_cells__places, My.nb_cells__places, My.nf_cells__reports, My.nb_cells__reports, My.nf_cells__steps, My.nb_cells__steps, My.nf_cells__writer, My.nb_cells__writer, My.nf_closed___end_in_cell, My.nb_closed___end_in_cell, My.nf_closed___splitter_at, My.nb_closed___splitter_at, My.nf_closed__cells, My.nb_closed__cells, My.nf_closed__done, My.nb_closed__done, My.nf_closed__names, My.nb_closed__names, My.nf_closed__places, My.nb_closed__places, My.nf_closed__reports, My.nb_closed__reports, My.nf_closed__steps, My.nb_closed__steps, My.nf_closed__writer, My.nb_closed__writer, My.nf_done___end_in_cell, My.nb_done___end_in_cell, My.nf_done___splitter_at, My.nb_done___splitter_at, My.nf_done__cells, My.nb_done__cells, My.nf_done__closed, My.nb_done__closed, My.nf_done__names, My.nb_done__names, My.nf_done__places, My.nb_done__places, My.nf_done__reports, My.nb_done__reports, My.nf_done__steps, My.nb_done__steps, My.nf_done__writer, My.nb_done__writer, My.nf_names___end_in_cell, My.nb_names___end_in_cell, My.nf_names___splitter_at, My.nb_names___splitter_at, My.nf_names__cells, My.nb_names__cells, My.nf_names__closed, My.nb_names__closed, My.nf_names__done, My.nb_names__done, My.nf_names__places, My.nb_names__places, My.nf_names__reports, My.nb_names__reports, My.nf_names__steps, My.nb_names__steps, My.nf_names__writer, My.nb_names__writer, My.nf_places___end_in_cell, My.nb_places___end_in_cell, My.nf_places___splitter_at, My.nb_places___splitter_at, My.nf_places__cells, My.nb_places__cells, My.nf_places__closed, My.nb_places__closed, My.nf_places__done, My.nb_places__done, My.nf_places__names, My.nb_places__names, My.nf_places__reports, My.nb_places__reports, My.nf_places__steps, My.nb_places__steps, My.nf_places__writer, My.nb_places__writer, My.nf_reports___end_in_cell, My.nb_reports___end_in_cell, My.nf_reports___splitter_at, My.nb_reports___splitter_at, My.nf_reports__cells, My.nb_reports__cells, My.nf_reports__closed, My.nb_reports__closed, My.nf_reports__done, My.nb_reports__done, My.nf_reports__names, My.nb_reports__names, My.nf_reports__places, My.nb_reports__places, My.nf_reports__steps, My.nb_reports__steps, My.nf_reports__writer, My.nb_reports__writer, My.nf_steps___end_in_cell, My.nb_steps___end_in_cell, My.nf_steps___splitter_at, My.nb_steps___splitter_at, My.nf_steps__cells, My.nb_steps__cells, My.nf_steps__closed, My.nb_steps__closed, My.nf_steps__done, My.nb_steps__done, My.nf_steps__names, My.nb_steps__names, My.nf_steps__places, My.nb_steps__places, My.nf_steps__reports, My.nb_steps__reports, My.nf_steps__writer, My.nb_steps__writer, My.nf_writer___end_in_cell, My.nb_writer___end_in_cell, My.nf_writer___splitter_at, My.nb_writer___splitter_at, My.nf_writer__cells, My.nb_writer__cells, My.nf_writer__closed, My.nb_writer__closed, My.nf_writer__done, My.nb_writer__done, My.nf_writer__names, My.nb_writer__names, My.nf_writer__places, My.nb_writer__places, My.nf_writer__reports, My.nb_writer__reports, My.nf_writer__steps, My.nb_writer__steps])
namespace My
open PySem PySem.Spec PyProof.Rows L2 Vg
def topS (i : Nat) : Stmt := PySem.Challenge.pw_splitnames_k10_names_that_are_reached.main.body.getD i (.Pass ⟨0, 0, 0, 0⟩)
abbrev s_is_integer : Stmt := topS 6
theorem sc_is_integer : FnScope ["value"] ["value"] (defScope s_is_integer) := ⟨rfl, rfl, rfl, by decide +kernel, rfl, by decide +kernel, by decide +kernel⟩
abbrev s_is_integer_within : Stmt := topS 7
theorem sc_is_integer_within : FnScope ["value", "least", "greatest"] ["value", "least", "greatest"] (defScope s_is_integer_within) := ⟨rfl, rfl, rfl, by decide +kernel, rfl, by decide +kernel, by decide +kernel⟩
abbrev s_check_count : Stmt := topS 8
theorem sc_check_count : FnScope ["count", "greatest"] ["count", "greatest"] (defScope s_check_count) := ⟨rfl, rfl, rfl, by decide +kernel, rfl, by decide +kernel, by decide +kernel⟩
abbrev s_cells_before : Stmt := topS 15
theorem sc_cells_before : FnScope ["diagonal"] ["diagonal"] (defScope s_cells_before) := ⟨rfl, rfl, rfl, by decide +kernel, rfl, by decide +kernel, by decide +kernel⟩
abbrev s_most_names : Stmt := topS 13
theorem sc_most_names : FnScope ["count"] ["count"] (defScope s_most_names) := ⟨rfl, rfl, rfl, by decide +kernel, rfl, by decide +kernel, by decide +kernel⟩
abbrev s_Walk___init__ : Stmt := inClass (topS 21) 0
theorem sc_Walk___init__ : FnScope ["self", "count"] ["self", "count"] (defScope s_Walk___init__) := ⟨rfl, rfl, rfl, by decide +kernel, rfl, by decide +kernel, by decide +kernel⟩
abbrev s_Splitter_perform : Stmt := inClass (topS 18) 1
theorem sc_Splitter_perform : FnScope ["self", "process", "done"] ["self", "process", "done"] (defScope s_Splitter_perform) := ⟨rfl, rfl, rfl, by decide +kernel, rfl, by decide +kernel, by decide +kernel⟩
abbrev s_check_coordinate : Stmt := topS 14
theorem sc_check_coordinate : FnScope ["value"] ["value"] (defScope s_check_coordinate) := ⟨rfl, rfl, rfl, by decide +kernel, rfl, by decide +kernel, by decide +kernel⟩
abbrev s_name_of : Stmt := topS 12
theorem sc_name_of : FnScope ["right", "down"] ["right", "down"] (defScope s_name_of) := ⟨rfl, rfl, rfl, by decide +kernel, rfl, by decide +kernel, by decide +kernel⟩
abbrev s_Walk__end_in_cell : Stmt := inClass (topS 21) 4
theorem sc_Walk__end_in_cell : FnScope ["self", "process", "result", "right", "down"] ["self", "process", "result"] (defScope s_Walk__end_in_cell) := ⟨rfl, rfl, rfl, by decide +kernel, rfl, by decide +kernel, by decide +kernel⟩
abbrev s_Splitter___init__ : Stmt := inClass (topS 18) 0
theorem sc_Splitter___init__ : FnScope ["self"] ["self"] (defScope s_Splitter___init__) := ⟨rfl, rfl, rfl, by decide +kernel, rfl, by decide +kernel, by decide +kernel⟩
abbrev s_Walk__splitter_at : Stmt := inClass (topS 21) 3
theorem sc_Walk__splitter_at : FnScope ["self", "place"] ["self", "place"] (defScope s_Walk__splitter_at) := ⟨rfl, rfl, rfl, by decide +kernel, rfl, by decide +kernel, by decide +kernel⟩
abbrev s_Walk_step : Stmt := inClass (topS 21) 2
theorem sc_Walk_step : FnScope ["self", "process", "result", "name"] ["self", "process"] (defScope s_Walk_step) := ⟨rfl, rfl, rfl, by decide +kernel, rfl, by decide +kernel, by decide +kernel⟩
abbrev s_Walk_can_step : Stmt := inClass (topS 21) 1
theorem sc_Walk_can_step : FnScope ["self", "process"] ["self", "process"] (defScope s_Walk_can_step) := ⟨rfl, rfl, rfl, by decide +kernel, rfl, by decide +kernel, by decide +kernel⟩
abbrev s_perform_schedule : Stmt := topS 19
theorem sc_perform_schedule : FnScope ["run", "schedule", "process"] ["run", "schedule"] (defScope s_perform_schedule) := ⟨rfl, rfl, rfl, by decide +kernel, rfl, by decide +kernel, by decide +kernel⟩
abbrev s_walk_after : Stmt := topS 22
theorem sc_walk_after : FnScope ["count", "schedule", "walk"] ["count", "schedule"] (defScope s_walk_after) := ⟨rfl, rfl, rfl, by decide +kernel, rfl, by decide +kernel, by decide +kernel⟩
abbrev s_names_after : Stmt := topS 24
theorem sc_names_after : FnScope ["count", "schedule"] ["count", "schedule"] (defScope s_names_after) := ⟨rfl, rfl, rfl, by decide +kernel, rfl, by decide +kernel, by decide +kernel⟩
abbrev s_law_cells : Stmt := topS 29
theorem sc_law_cells : FnScope ["diagonals", "found", "diagonal", "right"] ["diagonals"] (defScope s_law_cells) := ⟨rfl, rfl, rfl, by decide +kernel, rfl, by decide +kernel, by decide +kernel⟩
abbrev s_law_urn : Stmt := topS 26
theorem sc_law_urn : FnScope ["script", "k", "cell"] ["script", "k"] (defScope s_law_urn) := ⟨rfl, rfl, rfl, by decide +kernel, rfl, by decide +kernel, by decide +kernel⟩
abbrev s_law_dip : Stmt := topS 27
theorem sc_law_dip : FnScope ["urn", "size", "found", "mixed"] ["urn", "size"] (defScope s_law_dip) := ⟨rfl, rfl, rfl, by decide +kernel, rfl, by decide +kernel, by decide +kernel⟩
abbrev s_law_twice : Stmt := topS 35
theorem sc_law_twice : FnScope ["row", "found", "who"] ["row"] (defScope s_law_twice) := ⟨rfl, rfl, rfl, by decide +kernel, rfl, by decide +kernel, by decide +kernel⟩
abbrev s_law_way : Stmt := topS 36
theorem sc_law_way : FnScope ["urn", "cell", "right", "down", "row", "left", "turn", "is_right", "who"] ["urn", "cell"] (defScope s_law_way) := ⟨rfl, rfl, rfl, by decide +kernel, rfl, by decide +kernel, by decide +kernel⟩
abbrev s_law_begun : Stmt := topS 30
theorem sc_law_begun : FnScope ["size"] ["size"] (defScope s_law_begun) := ⟨rfl, rfl, rfl, by decide +kernel, rfl, by decide +kernel, by decide +kernel⟩
abbrev s_law_gone : Stmt := topS 31
theorem sc_law_gone : FnScope ["state", "who", "way", "spots", "done", "right", "down"] ["state", "who", "way"] (defScope s_law_gone) := ⟨rfl, rfl, rfl, by decide +kernel, rfl, by decide +kernel, by decide +kernel⟩
abbrev s_law_moved : Stmt := topS 32
theorem sc_law_moved : FnScope ["state", "who", "owners", "flags", "spots", "done", "ended", "cell", "number"] ["state", "who"] (defScope s_law_moved) := ⟨rfl, rfl, rfl, by decide +kernel, rfl, by decide +kernel, by decide +kernel⟩
abbrev s_law_schedule : Stmt := topS 34
theorem sc_law_schedule : FnScope ["urn", "size", "most", "state", "found", "way", "turn", "able", "some", "who"] ["urn", "size", "most"] (defScope s_law_schedule) := ⟨rfl, rfl, rfl, by decide +kernel, rfl, by decide +kernel, by decide +kernel⟩
abbrev s_law : Stmt := topS 37
theorem sc_law : FnScope ["script", "cells", "k", "urn", "turn", "far", "size", "most", "name", "given", "one"] ["script"] (defScope s_law) := ⟨rfl, rfl, rfl, by decide +kernel, rfl, by decide +kernel, by decide +kernel⟩
/-- where the top has laid what the text names -/
structure Ad where
  a_is_integer : Addr
  fd_is_integer : FuncData
  a_is_integer_within : Addr
  fd_is_integer_within : FuncData
  a_check_count : Addr
  fd_check_count : FuncData
  a_cells_before : Addr
  fd_cells_before : FuncData
  a_most_names : Addr
  fd_most_names : FuncData
  a_Walk___init__ : Addr
  fd_Walk___init__ : FuncData
  a_Splitter_perform : Addr
  fd_Splitter_perform : FuncData
  a_check_coordinate : Addr
  fd_check_coordinate : FuncData
  a_name_of : Addr
  fd_name_of : FuncData
  a_Walk__end_in_cell : Addr
  fd_Walk__end_in_cell : FuncData
  a_Splitter___init__ : Addr
  fd_Splitter___init__ : FuncData
  a_Walk__splitter_at : Addr
  fd_Walk__splitter_at : FuncData
  a_Walk_step : Addr
  fd_Walk_step : FuncData
  a_Walk_can_step : Addr
  fd_Walk_can_step : FuncData
  a_perform_schedule : Addr
  fd_perform_schedule : FuncData
  a_walk_after : Addr
  fd_walk_after : FuncData
  a_names_after : Addr
  fd_names_after : FuncData
  a_law_cells : Addr
  fd_law_cells : FuncData
  a_law_urn : Addr
  fd_law_urn : FuncData
  a_law_dip : Addr
  fd_law_dip : FuncData
  a_law_twice : Addr
  fd_law_twice : FuncData
  a_law_way : Addr
  fd_law_way : FuncData
  a_law_begun : Addr
  fd_law_begun : FuncData
  a_law_gone : Addr
  fd_law_gone : FuncData
  a_law_moved : Addr
  fd_law_moved : FuncData
  a_law_schedule : Addr
  fd_law_schedule : FuncData
  a_law : Addr
  fd_law : FuncData
  c_Splitter : Addr
  c_Walk : Addr
structure Mo (K : PySem.W.Frag) (mg : Str → Option Value) (d : Ad) : Prop where
  F_is_integer : Fun K "is_integer" "is_integer" s_is_integer d.a_is_integer d.fd_is_integer
  b_is_integer : Binds K d.fd_is_integer ["value"] []
  g_is_integer : mg "is_integer" = some (.ref d.a_is_integer)
  F_is_integer_within : Fun K "is_integer_within" "is_integer_within" s_is_integer_within d.a_is_integer_within d.fd_is_integer_within
  b_is_integer_within : Binds K d.fd_is_integer_within ["value", "least", "greatest"] []
  g_is_integer_within : mg "is_integer_within" = some (.ref d.a_is_integer_within)
  F_check_count : Fun K "check_count" "check_count" s_check_count d.a_check_count d.fd_check_count
  b_check_count : Binds K d.fd_check_count ["count", "greatest"] []
  g_check_count : mg "check_count" = some (.ref d.a_check_count)
  F_cells_before : Fun K "_cells_before" "_cells_before" s_cells_before d.a_cells_before d.fd_cells_before
  b_cells_before : Binds K d.fd_cells_before ["diagonal"] []
  g_cells_before : mg "_cells_before" = some (.ref d.a_cells_before)
  F_most_names : Fun K "most_names" "most_names" s_most_names d.a_most_names d.fd_most_names
  b_most_names : Binds K d.fd_most_names ["count"] []
  g_most_names : mg "most_names" = some (.ref d.a_most_names)
  F_Walk___init__ : Fun K "__init__" "Walk.__init__" s_Walk___init__ d.a_Walk___init__ d.fd_Walk___init__
  b_Walk___init__ : Binds K d.fd_Walk___init__ ["self", "count"] []
  F_Splitter_perform : Fun K "perform" "Splitter.perform" s_Splitter_perform d.a_Splitter_perform d.fd_Splitter_perform
  b_Splitter_perform : Binds K d.fd_Splitter_perform ["self", "process", "done"] []
  M_Splitter_perform : Meth K d.c_Splitter "perform" d.a_Splitter_perform
  F_check_coordinate : Fun K "_check_coordinate" "_check_coordinate" s_check_coordinate d.a_check_coordinate d.fd_check_coordinate
  b_check_coordinate : Binds K d.fd_check_coordinate ["value"] []
  g_check_coordinate : mg "_check_coordinate" = some (.ref d.a_check_coordinate)
  F_name_of : Fun K "name_of" "name_of" s_name_of d.a_name_of d.fd_name_of
  b_name_of : Binds K d.fd_name_of ["right", "down"] []
  g_name_of : mg "name_of" = some (.ref d.a_name_of)
  F_Walk__end_in_cell : Fun K "_end_in_cell" "Walk._end_in_cell" s_Walk__end_in_cell d.a_Walk__end_in_cell d.fd_Walk__end_in_cell
  b_Walk__end_in_cell : Binds K d.fd_Walk__end_in_cell ["self", "process", "result"] []
  M_Walk__end_in_cell : Meth K d.c_Walk "_end_in_cell" d.a_Walk__end_in_cell
  F_Splitter___init__ : Fun K "__init__" "Splitter.__init__" s_Splitter___init__ d.a_Splitter___init__ d.fd_Splitter___init__
  b_Splitter___init__ : Binds K d.fd_Splitter___init__ ["self"] []
  F_Walk__splitter_at : Fun K "_splitter_at" "Walk._splitter_at" s_Walk__splitter_at d.a_Walk__splitter_at d.fd_Walk__splitter_at
  b_Walk__splitter_at : Binds K d.fd_Walk__splitter_at ["self", "place"] []
  M_Walk__splitter_at : Meth K d.c_Walk "_splitter_at" d.a_Walk__splitter_at
  F_Walk_step : Fun K "step" "Walk.step" s_Walk_step d.a_Walk_step d.fd_Walk_step
  b_Walk_step : Binds K d.fd_Walk_step ["self", "process"] []
  M_Walk_step : Meth K d.c_Walk "step" d.a_Walk_step
  F_Walk_can_step : Fun K "can_step" "Walk.can_step" s_Walk_can_step d.a_Walk_can_step d.fd_Walk_can_step
  b_Walk_can_step : Binds K d.fd_Walk_can_step ["self", "process"] []
  M_Walk_can_step : Meth K d.c_Walk "can_step" d.a_Walk_can_step
  F_perform_schedule : Fun K "perform_schedule" "perform_schedule" s_perform_schedule d.a_perform_schedule d.fd_perform_schedule
  b_perform_schedule : Binds K d.fd_perform_schedule ["run", "schedule"] []
  g_perform_schedule : mg "perform_schedule" = some (.ref d.a_perform_schedule)
  F_walk_after : Fun K "walk_after" "walk_after" s_walk_after d.a_walk_after d.fd_walk_after
  b_walk_after : Binds K d.fd_walk_after ["count", "schedule"] []
  g_walk_after : mg "walk_after" = some (.ref d.a_walk_after)
  F_names_after : Fun K "names_after" "names_after" s_names_after d.a_names_after d.fd_names_after
  b_names_after : Binds K d.fd_names_after ["count", "schedule"] []
  g_names_after : mg "names_after" = some (.ref d.a_names_after)
  F_law_cells : Fun K "_law_cells" "_law_cells" s_law_cells d.a_law_cells d.fd_law_cells
  b_law_cells : Binds K d.fd_law_cells ["diagonals"] []
  g_law_cells : mg "_law_cells" = some (.ref d.a_law_cells)
  F_law_urn : Fun K "_law_urn" "_law_urn" s_law_urn d.a_law_urn d.fd_law_urn
  b_law_urn : Binds K d.fd_law_urn ["script", "k"] []
  g_law_urn : mg "_law_urn" = some (.ref d.a_law_urn)
  F_law_dip : Fun K "_law_dip" "_law_dip" s_law_dip d.a_law_dip d.fd_law_dip
  b_law_dip : Binds K d.fd_law_dip ["urn", "size"] []
  g_law_dip : mg "_law_dip" = some (.ref d.a_law_dip)
  F_law_twice : Fun K "_law_twice" "_law_twice" s_law_twice d.a_law_twice d.fd_law_twice
  b_law_twice : Binds K d.fd_law_twice ["row"] []
  g_law_twice : mg "_law_twice" = some (.ref d.a_law_twice)
  F_law_way : Fun K "_law_way" "_law_way" s_law_way d.a_law_way d.fd_law_way
  b_law_way : Binds K d.fd_law_way ["urn", "cell"] []
  g_law_way : mg "_law_way" = some (.ref d.a_law_way)
  F_law_begun : Fun K "_law_begun" "_law_begun" s_law_begun d.a_law_begun d.fd_law_begun
  b_law_begun : Binds K d.fd_law_begun ["size"] []
  g_law_begun : mg "_law_begun" = some (.ref d.a_law_begun)
  F_law_gone : Fun K "_law_gone" "_law_gone" s_law_gone d.a_law_gone d.fd_law_gone
  b_law_gone : Binds K d.fd_law_gone ["state", "who", "way"] []
  g_law_gone : mg "_law_gone" = some (.ref d.a_law_gone)
  F_law_moved : Fun K "_law_moved" "_law_moved" s_law_moved d.a_law_moved d.fd_law_moved
  b_law_moved : Binds K d.fd_law_moved ["state", "who"] []
  g_law_moved : mg "_law_moved" = some (.ref d.a_law_moved)
  F_law_schedule : Fun K "_law_schedule" "_law_schedule" s_law_schedule d.a_law_schedule d.fd_law_schedule
  b_law_schedule : Binds K d.fd_law_schedule ["urn", "size", "most"] []
  g_law_schedule : mg "_law_schedule" = some (.ref d.a_law_schedule)
  F_law : Fun K "law" "law" s_law d.a_law d.fd_law
  b_law : Binds K d.fd_law ["script"] []
  g_law : mg "law" = some (.ref d.a_law)
  g_Splitter : mg "Splitter" = some (.ref d.c_Splitter)
  C_Splitter : Cls K d.c_Splitter
  K_Splitter : Mk K d.c_Splitter d.a_Splitter___init__
  x_Splitter_writer : NoAttr K d.c_Splitter "writer"
  x_Splitter_closed : NoAttr K d.c_Splitter "closed"
  g_Walk : mg "Walk" = some (.ref d.c_Walk)
  C_Walk : Cls K d.c_Walk
  K_Walk : Mk K d.c_Walk d.a_Walk___init__
  x_Walk_cells : NoAttr K d.c_Walk "cells"
  x_Walk_places : NoAttr K d.c_Walk "places"
  x_Walk_done : NoAttr K d.c_Walk "done"
  x_Walk_names : NoAttr K d.c_Walk "names"
  x_Walk_steps : NoAttr K d.c_Walk "steps"
  x_Walk_reports : NoAttr K d.c_Walk "reports"
  n_bool : mg "bool" = none
  n_int : mg "int" = none
  n_isinstance : mg "isinstance" = none
  n_len : mg "len" = none
  n_list : mg "list" = none
  n_max : mg "max" = none
  n_min : mg "min" = none
  n_range : mg "range" = none
  n_repr : mg "repr" = none
  n_sum : mg "sum" = none
  mg_GREATEST_COORDINATE : ∃ t, mg "GREATEST_COORDINATE" = some (.int (1000000000000000) t)
  mg_GREATEST_COUNT_grid : ∃ t, mg "GREATEST_COUNT_grid" = some (.int (1000000000000000) t)
  mg_GREATEST_COUNT_splitters : ∃ t, mg "GREATEST_COUNT_splitters" = some (.int (40) t)
/-! ### the grid as it is run -/
abbrev Cell := Nat × Nat
structure Gs where
  pos : List Cell
  dn : List Nat
  fin : List Bool
  x : Cell → Option Nat
  y : Cell → Bool
def Gs.init (n : Nat) : Gs := ⟨List.replicate n (0, 0), List.replicate n 0, List.replicate n false, fun _ => none, fun _ => false⟩
def fset {α : Type} (f : Cell → α) (c : Cell) (v : α) : Cell → α := fun d => if d = c then v else f d
inductive Rs | non | right (c : Cell) | down (c : Cell) | stop (c : Cell)
def Gs.at (g : Gs) (p : Nat) : Cell := g.pos.getD p (0, 0)
def Gs.dnAt (g : Gs) (p : Nat) : Nat := g.dn.getD p 0
/-- what the next step of p gives -/
def Gs.res (g : Gs) (p : Nat) : Rs :=
  if g.dnAt p = 1 ∧ g.y (g.at p) = true then .right ((g.at p).1 + 1, (g.at p).2)
  else if g.dnAt p = 3 then (if g.x (g.at p) = some p then .stop (g.at p) else .down ((g.at p).1, (g.at p).2 + 1)) else .non
def Gs.step (g : Gs) (p : Nat) : Gs :=
  match g.res p with
  | .right c => { g with pos := g.pos.set p c, dn := g.dn.set p 0 }
  | .down c => { g with pos := g.pos.set p c, dn := g.dn.set p 0 }
  | .stop _ => { g with fin := g.fin.set p true, dn := g.dn.set p 4 }
  | .non => { g with dn := g.dn.set p (g.dnAt p + 1), x := if g.dnAt p = 0 then fset g.x (g.at p) (some p) else g.x, y := if g.dnAt p = 2 then fset g.y (g.at p) true else g.y }
def Gs.run (g : Gs) (l : List Nat) : Gs := l.foldl Gs.step g
def Gs.Ok (g : Gs) (p : Nat) : Prop := g.fin[p]? = some false
def GVal : Gs → List Nat → Prop
  | _, [] => True
  | g, p :: r => g.Ok p ∧ GVal (g.step p) r
structure Gs.Ln (g : Gs) (n : Nat) : Prop where
  lp : g.pos.length = n
  ld : g.dn.length = n
  lf : g.fin.length = n
structure Gs.Wf (g : Gs) (n : Nat) : Prop extends Gs.Ln g n where
  d3 : ∀ p, g.Ok p → g.dnAt p ≤ 3
  wx : ∀ p, g.Ok p → g.dnAt p ≠ 0 → (g.x (g.at p)).isSome = true
theorem Gs.init_wf (n : Nat) : (Gs.init n).Wf n := by
  refine ⟨⟨List.length_replicate, List.length_replicate, List.length_replicate⟩, fun p h => ?_, fun p h h2 => ?_⟩
  · unfold Gs.dnAt Gs.init
    rw [List.getD_eq_getElem?_getD, List.getElem?_replicate]
    split <;> simp
  · refine absurd ?_ h2
    unfold Gs.dnAt Gs.init
    rw [List.getD_eq_getElem?_getD, List.getElem?_replicate]
    split <;> simp
theorem Gs.Ok.lt {g : Gs} {n p : Nat} (h : g.Ok p) (wf : g.Wf n) : p < n := by
  rw [← wf.lf]
  exact (List.getElem?_eq_some_iff.mp h).1
theorem getD_set {α : Type} {l : List α} {i j : Nat} {v d : α} (h : i < l.length) : (l.set i v).getD j d = if i = j then v else l.getD j d := by
  rw [List.getD_eq_getElem?_getD, List.getD_eq_getElem?_getD, List.getElem?_set]
  split
  · rename_i c; subst c; simp [h]
  · rfl
theorem Gs.Wf.step {g : Gs} {n p : Nat} (wf : g.Wf n) (ok : g.Ok p) : (g.step p).Wf n := by
  have hp := ok.lt wf
  have hd := wf.d3 p ok
  have hpl : p < g.pos.length := by rw [wf.lp]; exact hp
  have hdl : p < g.dn.length := by rw [wf.ld]; exact hp
  have mv : ∀ c, Gs.Wf { g with pos := g.pos.set p c, dn := g.dn.set p 0 } n := by
    intro c
    refine ⟨⟨by simp [wf.lp], by simp [wf.ld], wf.lf⟩, fun q hq => ?_, fun q hq h2 => ?_⟩
    · show (g.dn.set p 0).getD q 0 ≤ 3
      rw [getD_set hdl]
      split
      · omega
      · exact wf.d3 q hq
    · have h2 : (g.dn.set p 0).getD q 0 ≠ 0 := h2
      show (g.x ((g.pos.set p c).getD q (0, 0))).isSome = true
      rw [getD_set hdl] at h2
      rw [getD_set hpl]
      split
      · rename_i e; rw [if_pos e] at h2; exact absurd rfl h2
      · rename_i e; rw [if_neg e] at h2; exact wf.wx q hq h2
  unfold Gs.step
  split <;> rename_i hr
  · exact mv _
  · exact mv _
  · have off : ∀ q, (g.fin.set p true)[q]? = some false → p ≠ q ∧ g.Ok q := fun q hq => by
      by_cases c : p = q
      · subst c
        rw [List.getElem?_set_self (by rw [wf.lf]; exact hp)] at hq
        cases hq
      · rw [List.getElem?_set_ne c] at hq
        exact ⟨c, hq⟩
    refine ⟨⟨wf.lp, by simp [wf.ld], by simp [wf.lf]⟩, fun q hq => ?_, fun q hq h2 => ?_⟩
    · obtain ⟨c, hq⟩ := off q hq
      show (g.dn.set p 4).getD q 0 ≤ 3
      rw [getD_set hdl, if_neg c]
      exact wf.d3 q hq
    · obtain ⟨c, hq⟩ := off q hq
      have h2 : (g.dn.set p 4).getD q 0 ≠ 0 := h2
      rw [getD_set hdl, if_neg c] at h2
      exact wf.wx q hq h2
  · refine ⟨⟨wf.lp, by simp [wf.ld], wf.lf⟩, fun q hq => ?_, fun q hq h2 => ?_⟩
    · show (g.dn.set p (g.dnAt p + 1)).getD q 0 ≤ 3
      rw [getD_set hdl]
      split
      · have : g.dnAt p ≠ 3 := by
          intro c
          unfold Gs.res at hr
          rw [c] at hr
          rw [if_neg (by omega), if_pos rfl] at hr
          split at hr <;> cases hr
        omega
      · exact wf.d3 q hq
    · have h2 : (g.dn.set p (g.dnAt p + 1)).getD q 0 ≠ 0 := h2
      show ((if g.dnAt p = 0 then fset g.x (g.at p) (some p) else g.x) (g.at q)).isSome = true
      rw [getD_set hdl] at h2
      by_cases e0 : g.dnAt p = 0
      · rw [if_pos e0]
        unfold fset
        split
        · rfl
        · rename_i ne
          by_cases c : p = q
          · subst c; exact absurd rfl ne
          · rw [if_neg c] at h2; exact wf.wx q hq h2
      · rw [if_neg e0]
        by_cases c : p = q
        · subst c; exact wf.wx p hq e0
        · rw [if_neg c] at h2; exact wf.wx q hq h2
theorem GVal.wf : ∀ {l : List Nat} {g : Gs} {n : Nat}, g.Wf n → GVal g l → (g.run l).Wf n
  | [], _, _, h, _ => h
  | p :: r, g, n, h, v => GVal.wf (l := r) (h.step v.1) v.2
theorem grun_take {g : Gs} {l : List Nat} {i p : Nat} (h : l[i]? = some p) : g.run (l.take (i + 1)) = (g.run (l.take i)).step p := by
  unfold Gs.run
  rw [List.take_add_one, h, List.foldl_append]
  rfl
theorem grun_app (g : Gs) (l : List Nat) (p : Nat) : g.run (l ++ [p]) = (g.run l).step p := by
  unfold Gs.run
  rw [List.foldl_append]
  rfl
theorem GVal.take : ∀ {l : List Nat} {g : Gs} (i : Nat), GVal g l → GVal g (l.take i)
  | _, _, 0, _ => trivial
  | [], _, i + 1, _ => trivial
  | p :: r, g, i + 1, v => ⟨v.1, GVal.take i v.2⟩
theorem GVal.at : ∀ {l : List Nat} {g : Gs} {i p : Nat}, GVal g l → l[i]? = some p → (g.run (l.take i)).Ok p
  | p :: r, g, 0, q, v, h => by cases h; exact v.1
  | p :: r, g, i + 1, q, v, h => GVal.at (l := r) (g := g.step p) v.2 h
theorem GVal.app : ∀ {l : List Nat} {g : Gs} {p : Nat}, GVal g l → (g.run l).Ok p → GVal g (l ++ [p])
  | [], _, _, _, h => ⟨h, trivial⟩
  | q :: r, g, p, v, h => ⟨v.1, GVal.app (l := r) (g := g.step q) v.2 h⟩
theorem GVal.lt : ∀ {l : List Nat} {g : Gs} {n : Nat}, g.Wf n → GVal g l → ∀ p ∈ l, p < n
  | [], _, _, _, _, p, hp => (List.not_mem_nil hp).elim
  | q :: r, g, n, wf, v, p, hp => by
    rcases List.mem_cons.mp hp with z | z
    · rw [z]
      exact v.1.lt wf
    · exact GVal.lt (l := r) (wf.step v.1) v.2 p z
/-! ### values -/
def nv (l : List Nat) : List V := l.map fun (p : Nat) => V.int (p : Int)
theorem nv_len (l : List Nat) : (nv l).length = l.length := by unfold nv; rw [List.length_map]
theorem nv_at {l : List Nat} {i : Nat} {x : V} (h : (nv l)[i]? = some x) : ∃ p, l[i]? = some p ∧ x = V.int (p : Int) := by
  unfold nv at h
  rw [List.getElem?_map] at h
  cases e : l[i]? with
  | none => rw [e] at h; cases h
  | some p => rw [e] at h; cases h; exact ⟨p, rfl, rfl⟩
theorem atI_nat' {α : Type} {l : List α} {i : Nat} {x : α} (h : l[i]? = some x) : atI l (i : Int) = some x := by
  have hi : i < l.length := (List.getElem?_eq_some_iff.mp h).1
  rw [atI_in (by omega) (by omega), ← h]
  simp only [Int.toNat_natCast]
  exact (List.getElem?_eq_getElem _).symm
theorem nv_atI {l : List Nat} {i d : Nat} (h : l[i]? = some d) : atI (nv l) (i : Int) = some (V.int (d : Int)) :=
  atI_nat' (by unfold nv; rw [List.getElem?_map, h]; rfl)
theorem ixN_nat {n i : Nat} (h : i < n) : ixN n (i : Int) = some i := by
  unfold ixN
  rw [if_pos (by omega), if_pos (by omega), Int.toNat_natCast]
theorem nv_set (l : List Nat) (i d : Nat) : (nv l).set i (V.int (d : Int)) = nv (l.set i d) := by
  unfold nv
  rw [List.map_set]
theorem nv_put (l : List Nat) (p k : Nat) : (nv l).set p (V.int ((k : Int) + 1)) = nv (l.set p (k + 1)) := by rw [← nv_set]; rfl
theorem nv_app (l : List Nat) (d : Nat) : nv (l ++ [d]) = nv l ++ [V.int (d : Int)] := by
  unfold nv
  rw [List.map_append]
  rfl
theorem nv_pick {l : List Nat} {r : Int} (h0 : 0 ≤ r) (h : r < l.length) : ∃ p, p ∈ l ∧ atI (nv l) r = some (V.int (p : Int)) := by
  have hr : r.toNat < l.length := by omega
  refine ⟨l[r.toNat], List.getElem_mem _, ?_⟩
  have := nv_atI (List.getElem?_eq_getElem hr)
  rw [Int.toNat_of_nonneg h0] at this
  exact this
theorem cut_take {α : Type} (xs : List V) (k : Nat) : cutV xs none (some (k : Int)) = xs.take k := by
  unfold cutV
  rw [HT.sIx_none, HT.sIx_nat]
  show (xs.drop 0).take (min k xs.length - 0) = _
  rw [List.drop_zero, Nat.sub_zero, List.take_eq_take_iff]
  omega
theorem nv_take (l : List Nat) (k : Nat) : (nv l).take k = nv (l.take k) := by
  unfold nv
  rw [List.map_take]
theorem nv_rep (n : Nat) : nv (List.replicate n 0) = List.replicate n (V.int 0) := by unfold nv; rw [List.map_replicate]; rfl
def cellV (c : Cell) : List V := [.int (c.1 : Int), .int (c.2 : Int)]
def keyC (c : Cell) : List Key := [.inl (c.1 : Int), .inl (c.2 : Int)]
theorem keyC_inj {c d : Cell} (h : keyC c = keyC d) : c = d := by
  unfold keyC at h
  simp only [List.cons.injEq, Sum.inl.injEq, and_true] at h
  exact Prod.ext (by omega) (by omega)
def nmC (c : Cell) : Int := ((c.1 : Int) + (c.2 : Int)) * ((c.1 : Int) + (c.2 : Int) + 1) / 2 + (c.1 : Int)
def wV : Option Nat → V
  | none => .non
  | some p => .int (p : Int)
def Gs.names (g : Gs) : List V := List.zipWith (fun (f : Bool) (c : Cell) => if f = true then V.int (nmC c) else V.non) g.fin g.pos
theorem Gs.names_at {g : Gs} {n p : Nat} (wf : g.Ln n) (hp : p < n) : g.names[p]? = some (if g.fin[p]? = some true then V.int (nmC (g.at p)) else V.non) := by
  have h1 : p < g.fin.length := by rw [wf.lf]; exact hp
  have h2 : p < g.pos.length := by rw [wf.lp]; exact hp
  unfold Gs.names Gs.at
  rw [List.getElem?_zipWith, List.getElem?_eq_getElem h1, List.getElem?_eq_getElem h2, List.getD_eq_getElem?_getD, List.getElem?_eq_getElem h2]
  simp
theorem Gs.at_get {g : Gs} {n p : Nat} (wf : g.Ln n) (hp : p < n) : g.pos[p]? = some (g.at p) := by
  have h2 : p < g.pos.length := by rw [wf.lp]; exact hp
  unfold Gs.at
  rw [List.getD_eq_getElem?_getD, List.getElem?_eq_getElem h2]; rfl
theorem Gs.dn_get {g : Gs} {n p : Nat} (wf : g.Ln n) (hp : p < n) : g.dn[p]? = some (g.dnAt p) := by
  have h2 : p < g.dn.length := by rw [wf.ld]; exact hp
  unfold Gs.dnAt
  rw [List.getD_eq_getElem?_getD, List.getElem?_eq_getElem h2]; rfl
theorem Gs.names_len {g : Gs} {n : Nat} (wf : g.Ln n) : g.names.length = n := by
  unfold Gs.names
  rw [List.length_zipWith, wf.lf, wf.lp]; omega
/-- names after a move, after a stop -/
theorem names_move {fin : List Bool} {pos : List Cell} {p : Nat} {c : Cell} (ok : fin[p]? = some false) :
    List.zipWith (fun (f : Bool) (c : Cell) => if f = true then V.int (nmC c) else V.non) fin (pos.set p c) = List.zipWith (fun (f : Bool) (c : Cell) => if f = true then V.int (nmC c) else V.non) fin pos := by
  apply List.ext_getElem?
  intro q
  rw [List.getElem?_zipWith, List.getElem?_zipWith, List.getElem?_set]
  by_cases e : p = q
  · subst e
    rw [if_pos rfl, ok]
    split <;> (cases hq : pos[p]? <;> simp_all)
  · rw [if_neg e]
theorem names_stop {fin : List Bool} {pos : List Cell} {p : Nat} {c : Cell} (hp : pos[p]? = some c) (hl : p < fin.length) :
    List.zipWith (fun (f : Bool) (c : Cell) => if f = true then V.int (nmC c) else V.non) (fin.set p true) pos = (List.zipWith (fun (f : Bool) (c : Cell) => if f = true then V.int (nmC c) else V.non) fin pos).set p (V.int (nmC c)) := by
  apply List.ext_getElem?
  intro q
  have h2 : p < pos.length := (List.getElem?_eq_some_iff.mp hp).1
  rw [List.getElem?_zipWith, List.getElem?_set, List.getElem?_set, List.getElem?_zipWith, List.length_zipWith]
  by_cases e : p = q
  · subst e
    rw [if_pos rfl, if_pos rfl, if_pos hl, if_pos (by omega), hp]
    simp
  · rw [if_neg e, if_neg e]
/-! ### lists of tuples that stand -/
def Tups (B : Hp) (xs : List V) (ts : List (List V)) : Prop := xs.length = ts.length ∧ ∀ (i : Nat) (t : List V), ts[i]? = some t → ∃ a, xs[i]? = some (.ref a) ∧ B a = some (.tup t)
theorem Tups.mono {B B' : Hp} {xs : List V} {ts : List (List V)} (h : Tups B xs ts) (s : Same B B') : Tups B' xs ts := ⟨h.1, fun i t e => by
  obtain ⟨a, h1, h2⟩ := h.2 i t e
  exact ⟨a, h1, s _ _ h2⟩⟩
theorem Tups.nil (B : Hp) : Tups B [] [] := ⟨rfl, fun i t e => by rw [List.getElem?_nil] at e; cases e⟩
theorem Tups.rep {B : Hp} {a : Addr} {t : List V} (h : B a = some (.tup t)) (n : Nat) : Tups B (List.replicate n (.ref a)) (List.replicate n t) := ⟨by rw [List.length_replicate, List.length_replicate], fun i u e => by
  rw [List.getElem?_replicate] at e ⊢
  split at e
  · cases e
    exact ⟨a, by rw [if_pos ‹_›], h⟩
  · cases e⟩
theorem Tups.set {B : Hp} {xs : List V} {ts : List (List V)} {a : Addr} {t : List V} (h : Tups B xs ts) (p : Nat) (ha : B a = some (.tup t)) : Tups B (xs.set p (.ref a)) (ts.set p t) := ⟨by rw [List.length_set, List.length_set]; exact h.1, fun i u e => by
  rw [List.getElem?_set] at e ⊢
  by_cases c : p = i
  · subst c
    rw [if_pos rfl] at e ⊢
    split at e
    · cases e
      exact ⟨a, by rw [if_pos (by rw [h.1]; assumption)], ha⟩
    · cases e
  · rw [if_neg c] at e ⊢
    exact h.2 i u e⟩
theorem Tups.app {B : Hp} {xs : List V} {ts : List (List V)} {a : Addr} {t : List V} (h : Tups B xs ts) (ha : B a = some (.tup t)) : Tups B (xs ++ [.ref a]) (ts ++ [t]) := ⟨by rw [List.length_append, List.length_append, h.1]; rfl, fun i u e => by
  by_cases c : i < ts.length
  · rw [List.getElem?_append_left c] at e
    rw [List.getElem?_append_left (by rw [h.1]; exact c)]
    exact h.2 i u e
  · rw [List.getElem?_append_right (by omega)] at e
    rw [List.getElem?_append_right (by rw [h.1]; omega), h.1]
    cases hi : i - ts.length with
    | zero => rw [hi] at e; cases e; exact ⟨a, rfl, ha⟩
    | succ j => rw [hi] at e; simp at e⟩
theorem Tups.at {B : Hp} {xs : List V} {ts : List (List V)} {i : Nat} {x : V} (h : Tups B xs ts) (e : xs[i]? = some x) : ∃ a t, x = .ref a ∧ ts[i]? = some t ∧ B a = some (.tup t) := by
  have hi : i < ts.length := by rw [← h.1]; exact (List.getElem?_eq_some_iff.mp e).1
  obtain ⟨a, h1, h2⟩ := h.2 i _ (List.getElem?_eq_getElem hi)
  rw [e] at h1
  exact ⟨a, _, Option.some.inj h1, List.getElem?_eq_getElem hi, h2⟩
theorem Tups.spot {B : Hp} {xs : List V} {g : Gs} {n p : Nat} (h : Tups B xs (g.pos.map cellV)) (wf : g.Ln n) (hp : p < n) : ∃ a, xs[p]? = some (.ref a) ∧ B a = some (.tup (cellV (g.at p))) :=
  h.2 p _ (by rw [List.getElem?_map, Gs.at_get wf hp]; rfl)
/-! ### how many processes enter a cell -/
theorem step_cases (g : Gs) (p : Nat) : (∃ c, (c = ((g.at p).1 + 1, (g.at p).2) ∧ g.dnAt p = 1 ∧ g.y (g.at p) = true ∨ c = ((g.at p).1, (g.at p).2 + 1) ∧ g.dnAt p = 3 ∧ g.x (g.at p) ≠ some p) ∧ g.step p = { g with pos := g.pos.set p c, dn := g.dn.set p 0 }) ∨
    (g.dnAt p = 3 ∧ g.x (g.at p) = some p ∧ g.step p = { g with fin := g.fin.set p true, dn := g.dn.set p 4 }) ∨
    (g.dnAt p ≠ 3 ∧ (g.dnAt p = 1 → g.y (g.at p) = false) ∧ g.step p = { g with dn := g.dn.set p (g.dnAt p + 1), x := if g.dnAt p = 0 then fset g.x (g.at p) (some p) else g.x, y := if g.dnAt p = 2 then fset g.y (g.at p) true else g.y }) := by
  by_cases a : g.dnAt p = 1 ∧ g.y (g.at p) = true
  · have er : g.res p = .right ((g.at p).1 + 1, (g.at p).2) := by unfold Gs.res; rw [if_pos a]
    exact Or.inl ⟨_, Or.inl ⟨rfl, a⟩, by unfold Gs.step; rw [er]⟩
  · by_cases b : g.dnAt p = 3
    · by_cases c : g.x (g.at p) = some p
      · have er : g.res p = .stop (g.at p) := by unfold Gs.res; rw [if_neg a, if_pos b, if_pos c]
        exact Or.inr (Or.inl ⟨b, c, by unfold Gs.step; rw [er]⟩)
      · have er : g.res p = .down ((g.at p).1, (g.at p).2 + 1) := by unfold Gs.res; rw [if_neg a, if_pos b, if_neg c]
        exact Or.inl ⟨_, Or.inr ⟨rfl, b, c⟩, by unfold Gs.step; rw [er]⟩
    · have er : g.res p = .non := by unfold Gs.res; rw [if_neg a, if_neg b]
      exact Or.inr (Or.inr ⟨b, fun h => by cases hy : g.y (g.at p) with | true => exact (a ⟨h, hy⟩).elim | false => rfl, by unfold Gs.step; rw [er]⟩)
theorem gset_self {α : Type} {l : List α} {p : Nat} {a d : α} (h : p < l.length) : (l.set p a).getD p d = a := by
  rw [List.getD_eq_getElem?_getD, List.getElem?_set_self h]; rfl
theorem gset_ne {α : Type} {l : List α} {p q : Nat} {a d : α} (h : q ≠ p) : (l.set p a).getD q d = l.getD q d := by
  rw [List.getD_eq_getElem?_getD, List.getElem?_set_ne (fun e => h e.symm), ← List.getD_eq_getElem?_getD]
/-- where each process has been: 0 not, 1 is, 2 went right, 3 went down -/
structure Gh (g : Gs) (n : Nat) (v : Nat → Cell → Nat) : Prop where
  lt : ∀ p c, v p c ≠ 0 → p < n
  here : ∀ p, p < n → v p (g.at p) = 1
  one : ∀ p c, v p c = 1 → c = g.at p
  far : ∀ p c, v p c ≠ 0 → c.1 + c.2 ≤ (g.at p).1 + (g.at p).2
  k3 : ∀ p c, v p c ≤ 3
  pre : ∀ p c, v p c ≠ 0 → c = (0, 0) ∨ (∃ r, c.1 = r + 1 ∧ v p (r, c.2) = 2) ∨ ∃ e, c.2 = e + 1 ∧ v p (c.1, e) = 3
  yp : ∀ p c, v p c = 2 → g.y c = true
  yq : ∀ c, g.y c = true → ∃ q, v q c ≠ 0 ∧ v q c ≠ 2 ∧ (v q c = 1 → 2 ≤ g.dnAt q)
  xp : ∀ p c, v p c = 3 → ∃ q, g.x c = some q
  xq : ∀ c q, g.x c = some q → v q c ≠ 0 ∧ v q c ≠ 3 ∧ (v q c = 1 → 1 ≤ g.dnAt q)
theorem Gh.init (n : Nat) : Gh (Gs.init n) n fun p c => if p < n ∧ c = (0, 0) then 1 else 0 := by
  have ha : ∀ p, (Gs.init n).at p = (0, 0) := fun p => by
    unfold Gs.at Gs.init
    rw [List.getD_eq_getElem?_getD, List.getElem?_replicate]
    split <;> rfl
  refine ⟨fun p c h => ?_, fun p h => ?_, fun p c h => ?_, fun p c h => ?_, fun p c => ?_, fun p c h => ?_, fun p c h => ?_, fun c h => ?_, fun p c h => ?_, fun c q h => ?_⟩
  · by_cases z : p < n ∧ c = (0, 0)
    · exact z.1
    · exact (h (if_neg z)).elim
  · rw [ha]; exact if_pos ⟨h, rfl⟩
  · rw [ha]
    by_cases z : p < n ∧ c = (0, 0)
    · exact z.2
    · have h : (if p < n ∧ c = (0, 0) then 1 else 0) = 1 := h
      rw [if_neg z] at h; cases h
  · by_cases z : p < n ∧ c = (0, 0)
    · rw [z.2]; exact Nat.zero_le _
    · exact (h (if_neg z)).elim
  · show (if p < n ∧ c = (0, 0) then 1 else 0) ≤ 3
    split <;> decide
  · by_cases z : p < n ∧ c = (0, 0)
    · exact Or.inl z.2
    · exact (h (if_neg z)).elim
  · have h : (if p < n ∧ c = (0, 0) then 1 else 0) = 2 := h
    split at h <;> cases h
  · cases (show false = true from h)
  · have h : (if p < n ∧ c = (0, 0) then 1 else 0) = 3 := h
    split at h <;> cases h
  · cases (show none = some q from h)
theorem Gh.step {g : Gs} {n p : Nat} {v : Nat → Cell → Nat} (h : Gh g n v) (wf : g.Wf n) (ok : g.Ok p) : ∃ v', Gh (g.step p) n v' := by
  have hp := ok.lt wf
  have h1 : p < g.pos.length := by rw [wf.lp]; exact hp
  have h2 : p < g.dn.length := by rw [wf.ld]; exact hp
  have d3 := wf.d3 p ok
  have hv := h.here p hp
  rcases step_cases g p with ⟨c', hc, e⟩ | ⟨a, b, e⟩ | ⟨a, b, e⟩ <;> rw [e]
  · have hd : c'.1 + c'.2 = (g.at p).1 + (g.at p).2 + 1 := by
      rcases hc with ⟨w, _⟩ | ⟨w, _⟩ <;> (rw [w]; dsimp only; omega)
    have h0 : v p c' = 0 := by
      by_cases z : v p c' = 0
      · exact z
      · have := h.far p c' z; omega
    have hne : c' ≠ g.at p := fun z => by rw [z] at hd; omega
    obtain ⟨k, hk, hk2⟩ : ∃ k, (k = 2 ∨ k = 3) ∧ (k = 2 → g.dnAt p = 1 ∧ g.y (g.at p) = true ∧ c' = ((g.at p).1 + 1, (g.at p).2)) ∧ (k = 3 → g.dnAt p = 3 ∧ g.x (g.at p) ≠ some p ∧ c' = ((g.at p).1, (g.at p).2 + 1)) := by
      rcases hc with ⟨w, w1, w2⟩ | ⟨w, w1, w2⟩
      · exact ⟨2, Or.inl rfl, fun _ => ⟨w1, w2, w⟩, fun z => (by cases z)⟩
      · exact ⟨3, Or.inr rfl, fun z => (by cases z), fun _ => ⟨w1, w2, w⟩⟩
    have an : ∀ q, q ≠ p → Gs.at { g with pos := g.pos.set p c', dn := g.dn.set p 0 } q = g.at q := fun q hq => gset_ne hq
    have as : Gs.at { g with pos := g.pos.set p c', dn := g.dn.set p 0 } p = c' := gset_self h1
    have dn : ∀ q, q ≠ p → Gs.dnAt { g with pos := g.pos.set p c', dn := g.dn.set p 0 } q = g.dnAt q := fun q hq => gset_ne hq
    obtain ⟨v', ev, eo, e1, e2⟩ : ∃ v' : Nat → Cell → Nat, v' p (g.at p) = k ∧ (∀ q c, q ≠ p → v' q c = v q c) ∧ v' p c' = 1 ∧ ∀ c, c ≠ g.at p → c ≠ c' → v' p c = v p c :=
      ⟨fun q c => if q = p then (if c = g.at p then k else if c = c' then 1 else v p c) else v q c, by dsimp only; rw [if_pos rfl, if_pos rfl], fun q c hq => if_neg hq, by dsimp only; rw [if_pos rfl, if_neg hne, if_pos rfl], fun c z1 z2 => by dsimp only; rw [if_pos rfl, if_neg z1, if_neg z2]⟩
    have hkn : k ≠ 0 ∧ k ≠ 1 ∧ k ≤ 3 := by omega
    have back : ∀ c, v' p c ≠ 0 → c = c' ∨ v p c ≠ 0 := fun c z => by
      by_cases w : c = c'
      · exact Or.inl w
      · by_cases w2 : c = g.at p
        · rw [w2, hv]; exact Or.inr (by decide)
        · rw [e2 c w2 w] at z; exact Or.inr z
    have old2 : ∀ c k', v p c = k' → k' ≠ 0 → k' ≠ 1 → v' p c = k' := fun c k' z z1 z2 => by
      rw [e2 c (fun w => z2 (by rw [← z, w, hv])) (fun w => z1 (by rw [← z, w, h0]))]; exact z
    refine ⟨v', ⟨fun q c z => ?_, fun q hq => ?_, fun q c z => ?_, fun q c z => ?_, fun q c => ?_, fun q c z => ?_, fun q c z => ?_, fun c z => ?_, fun q c z => ?_, fun c q z => ?_⟩⟩
    · by_cases w : q = p
      · rw [w]; exact hp
      · exact h.lt q c (by rw [← eo q c w]; exact z)
    · by_cases w : q = p
      · rw [w, as]; exact e1
      · rw [an q w, eo q _ w]; exact h.here q hq
    · by_cases w : q = p
      · subst w
        rw [as]
        by_cases w : c = c'
        · exact w
        · by_cases w2 : c = g.at q
          · rw [w2, ev] at z; omega
          · rw [e2 c w2 w] at z
            exact (w2 (h.one q c z)).elim
      · rw [an q w]; rw [eo q c w] at z; exact h.one q c z
    · by_cases w : q = p
      · subst w
        rw [as]
        rcases back c z with w | w
        · rw [w]; exact Nat.le_refl _
        · have := h.far q c w; omega
      · rw [an q w]; rw [eo q c w] at z; exact h.far q c z
    · by_cases w : q = p
      · subst w
        by_cases w : c = c'
        · rw [w, e1]; decide
        · by_cases w2 : c = g.at q
          · rw [w2, ev]; exact hkn.2.2
          · rw [e2 c w2 w]; exact h.k3 q c
      · rw [eo q c w]; exact h.k3 q c
    · by_cases w : q = p
      · subst w
        rcases back c z with w | w
        · subst w
          rcases hk with u | u
          · obtain ⟨_, _, u3⟩ := hk2.1 u
            exact Or.inr (Or.inl ⟨(g.at q).1, by rw [u3], by rw [show ((g.at q).1, c.2) = g.at q by rw [u3], ev, u]⟩)
          · obtain ⟨_, _, u3⟩ := hk2.2 u
            exact Or.inr (Or.inr ⟨(g.at q).2, by rw [u3], by rw [show (c.1, (g.at q).2) = g.at q by rw [u3], ev, u]⟩)
        · rcases h.pre q c w with u | ⟨r, u1, u2⟩ | ⟨r, u1, u2⟩
          · exact Or.inl u
          · exact Or.inr (Or.inl ⟨r, u1, old2 _ _ u2 (by decide) (by decide)⟩)
          · exact Or.inr (Or.inr ⟨r, u1, old2 _ _ u2 (by decide) (by decide)⟩)
      · rw [eo q c w] at z
        rcases h.pre q c z with u | ⟨r, u1, u2⟩ | ⟨r, u1, u2⟩
        · exact Or.inl u
        · exact Or.inr (Or.inl ⟨r, u1, by rw [eo q _ w]; exact u2⟩)
        · exact Or.inr (Or.inr ⟨r, u1, by rw [eo q _ w]; exact u2⟩)
    · show g.y c = true
      by_cases w : q = p
      · subst w
        by_cases w : c = c'
        · rw [w, e1] at z; cases z
        · by_cases w2 : c = g.at q
          · rw [w2, ev] at z; rw [w2]; exact (hk2.1 z).2.1
          · rw [e2 c w2 w] at z; exact h.yp q c z
      · rw [eo q c w] at z; exact h.yp q c z
    · obtain ⟨q, q1, q2, q3⟩ := h.yq c z
      refine ⟨q, ?_⟩
      by_cases w : q = p
      · subst w
        by_cases w2 : c = g.at q
        · subst w2
          have := q3 hv
          rw [ev]
          have : k = 3 := by
            rcases hk with u | u
            · have := (hk2.1 u).1; omega
            · exact u
          omega
        · have w3 : v q c ≠ 1 := fun u => w2 (h.one q c u)
          rw [old2 c _ rfl q1 w3]
          exact ⟨q1, q2, fun u => (w3 u).elim⟩
      · rw [eo q c w, dn q w]; exact ⟨q1, q2, q3⟩
    · show ∃ q, g.x c = some q
      by_cases w : q = p
      · subst w
        by_cases w : c = c'
        · rw [w, e1] at z; cases z
        · by_cases w2 : c = g.at q
          · rw [w2, ev] at z; rw [w2]
            have := (hk2.2 z).1
            exact Option.isSome_iff_exists.mp (wf.wx q ok (by omega))
          · rw [e2 c w2 w] at z; exact h.xp q c z
      · rw [eo q c w] at z; exact h.xp q c z
    · obtain ⟨q1, q2, q3⟩ := h.xq c q z
      by_cases w : q = p
      · subst w
        by_cases w2 : c = g.at q
        · subst w2
          rw [ev]
          have : k = 2 := by
            rcases hk with u | u
            · exact u
            · exact ((hk2.2 u).2.1 z).elim
          omega
        · have w3 : v q c ≠ 1 := fun u => w2 (h.one q c u)
          rw [old2 c _ rfl q1 w3]
          exact ⟨q1, q2, fun u => (w3 u).elim⟩
      · rw [eo q c w, dn q w]; exact ⟨q1, q2, q3⟩
  · have dn : ∀ q, g.dnAt q ≤ Gs.dnAt { g with fin := g.fin.set p true, dn := g.dn.set p 4 } q := fun q => by
      by_cases w : q = p
      · subst w
        rw [show Gs.dnAt { g with fin := g.fin.set q true, dn := g.dn.set q 4 } q = 4 from gset_self h2]; omega
      · rw [show Gs.dnAt { g with fin := g.fin.set p true, dn := g.dn.set p 4 } q = g.dnAt q from gset_ne w]; exact Nat.le_refl _
    refine ⟨v, ⟨h.lt, h.here, h.one, h.far, h.k3, h.pre, h.yp, fun c z => ?_, h.xp, fun c q z => ?_⟩⟩
    · obtain ⟨q, q1, q2, q3⟩ := h.yq c z
      exact ⟨q, q1, q2, fun u => Nat.le_trans (q3 u) (dn q)⟩
    · obtain ⟨q1, q2, q3⟩ := h.xq c q z
      exact ⟨q1, q2, fun u => Nat.le_trans (q3 u) (dn q)⟩
  · generalize hx : (if g.dnAt p = 0 then fset g.x (g.at p) (some p) else g.x) = x'
    generalize hy : (if g.dnAt p = 2 then fset g.y (g.at p) true else g.y) = y'
    have ds : Gs.dnAt { g with dn := g.dn.set p (g.dnAt p + 1), x := x', y := y' } p = g.dnAt p + 1 := gset_self h2
    have dn : ∀ q, g.dnAt q ≤ Gs.dnAt { g with dn := g.dn.set p (g.dnAt p + 1), x := x', y := y' } q := fun q => by
      by_cases w : q = p
      · subst w; rw [ds]; omega
      · rw [show Gs.dnAt { g with dn := g.dn.set p (g.dnAt p + 1), x := x', y := y' } q = g.dnAt q from gset_ne w]; exact Nat.le_refl _
    have yy : ∀ c, y' c = true → g.y c = true ∨ (c = g.at p ∧ g.dnAt p = 2) := fun c z => by
      rw [← hy] at z
      split at z
      · unfold fset at z
        by_cases w : c = g.at p
        · exact Or.inr ⟨w, by assumption⟩
        · rw [if_neg w] at z; exact Or.inl z
      · exact Or.inl z
    have yup : ∀ c, g.y c = true → y' c = true := fun c z => by
      rw [← hy]
      split
      · unfold fset
        split
        · rfl
        · exact z
      · exact z
    have xx : ∀ c q, x' c = some q → g.x c = some q ∨ (c = g.at p ∧ q = p) := fun c q z => by
      rw [← hx] at z
      split at z
      · unfold fset at z
        by_cases w : c = g.at p
        · rw [if_pos w] at z; exact Or.inr ⟨w, (Option.some.inj z).symm⟩
        · rw [if_neg w] at z; exact Or.inl z
      · exact Or.inl z
    have xup : ∀ c, (∃ q, g.x c = some q) → ∃ q, x' c = some q := fun c ⟨q, z⟩ => by
      rw [← hx]
      split
      · unfold fset
        split
        · exact ⟨p, rfl⟩
        · exact ⟨q, z⟩
      · exact ⟨q, z⟩
    refine ⟨v, ⟨h.lt, h.here, h.one, h.far, h.k3, h.pre, fun q c z => yup c (h.yp q c z), fun c z => ?_, fun q c z => xup c (h.xp q c z), fun c q z => ?_⟩⟩
    · rcases yy c z with w | ⟨w, w2⟩
      · obtain ⟨q, q1, q2, q3⟩ := h.yq c w
        exact ⟨q, q1, q2, fun u => Nat.le_trans (q3 u) (dn q)⟩
      · exact ⟨p, by rw [w, hv]; decide, by rw [w, hv]; decide, fun _ => by rw [ds]; omega⟩
    · rcases xx c q z with w | ⟨w, w2⟩
      · obtain ⟨q1, q2, q3⟩ := h.xq c q w
        exact ⟨q1, q2, fun u => Nat.le_trans (q3 u) (dn q)⟩
      · subst w2
        exact ⟨by rw [w, hv]; decide, by rw [w, hv]; decide, fun _ => by rw [ds]; omega⟩
theorem Gh.run : ∀ {l : List Nat} {g : Gs} {n : Nat} {v : Nat → Cell → Nat}, Gh g n v → g.Wf n → GVal g l → ∃ v', Gh (g.run l) n v'
  | [], _, _, v, h, _, _ => ⟨v, h⟩
  | p :: r, g, n, v, h, wf, hv => by
    obtain ⟨v', h'⟩ := h.step wf hv.1
    exact Gh.run (l := r) (g := g.step p) h' (wf.step hv.1) hv.2
/-! ### counting them -/
theorem count_le {L : List Nat} {P Q : Nat → Bool} (h : ∀ p ∈ L, P p = true → Q p = true) : L.countP P ≤ L.countP Q := List.countP_mono_left h
theorem count_lt {P Q : Nat → Bool} {q : Nat} : ∀ {L : List Nat}, (∀ p ∈ L, P p = true → Q p = true) → q ∈ L → Q q = true → P q = false → L.countP P + 1 ≤ L.countP Q
  | [], _, hq, _, _ => (List.not_mem_nil hq).elim
  | a :: r, h, hq, h1, h2 => by
    rw [List.countP_cons, List.countP_cons]
    by_cases e : a = q
    · rw [e, h1, h2, if_pos rfl, if_neg (by decide)]
      have := count_le (L := r) fun p hp => h p (List.mem_cons_of_mem _ hp)
      omega
    · have hq2 : q ∈ r := by
        rcases List.mem_cons.mp hq with z | z
        · exact (e z.symm).elim
        · exact z
      have := count_lt (L := r) (fun p hp => h p (List.mem_cons_of_mem _ hp)) hq2 h1 h2
      have ha := h a List.mem_cons_self
      cases hP : P a with
      | true => rw [ha hP]; omega
      | false => rw [if_neg (by decide)]; split <;> omega
theorem count_lt2 {P Q : Nat → Bool} {q s : Nat} {L : List Nat} (h : ∀ p ∈ L, P p = true → Q p = true) (hq : q ∈ L) (h1 : Q q = true) (h2 : P q = false) (hs : s ∈ L) (h3 : Q s = true) (h4 : P s = false) (ne : q ≠ s) : L.countP P + 2 ≤ L.countP Q := by
  have a := count_lt (L := L) (P := P) (Q := fun p => P p || decide (p = q)) (q := q) (fun p _ hp => by rw [hp]; rfl) hq (by rw [decide_eq_true rfl, Bool.or_true]) h2
  have b := count_lt (L := L) (P := fun p => P p || decide (p = q)) (Q := Q) (q := s) (fun p hp z => by
    rcases Bool.or_eq_true_iff.mp z with w | w
    · exact h p hp w
    · rw [of_decide_eq_true w]; exact h1) hs h3 (by rw [h4, decide_eq_false (fun z => ne z.symm)]; rfl)
  omega
theorem least_of {P : Nat → Prop} : ∀ (k : Nat), P k → ∃ m, m ≤ k ∧ P m ∧ ∀ r, r < m → ¬ P r := fun k => by
  induction k using Nat.strongRecOn with
  | _ k ih =>
    intro hk
    by_cases h : ∃ r, r < k ∧ P r
    · obtain ⟨r, h1, h2⟩ := h
      obtain ⟨m, a, b, c⟩ := ih r h1 h2
      exact ⟨m, by omega, b, c⟩
    · exact ⟨k, Nat.le_refl _, hk, fun r h1 h2 => h ⟨r, h1, h2⟩⟩
theorem most_of {P : Nat → Prop} {B : Nat} {k : Nat} (hk : k ≤ B) (h : P k) : ∃ m, k ≤ m ∧ m ≤ B ∧ P m ∧ ∀ r, m < r → r ≤ B → ¬ P r := by
  obtain ⟨m, a, ⟨b0, b⟩, c⟩ := least_of (P := fun i => i ≤ B ∧ P (B - i)) (B - k) ⟨by omega, by rw [show B - (B - k) = k by omega]; exact h⟩
  refine ⟨B - m, by omega, by omega, b, fun r h1 h2 h3 => c (B - r) (by omega) ⟨by omega, by rw [show B - (B - r) = r by omega]; exact h3⟩⟩
section
variable {g : Gs} {n : Nat} {v : Nat → Cell → Nat}
theorem Gh.same (h : Gh g n v) (p : Nat) : ∀ (t r s : Nat), r ≤ t → s ≤ t → v p (r, t - r) ≠ 0 → v p (s, t - s) ≠ 0 → r = s := by
  intro t
  induction t with
  | zero => intro r s h1 h2 _ _; omega
  | succ t ih =>
    have pr : ∀ r, r ≤ t + 1 → v p (r, t + 1 - r) ≠ 0 → (∃ k, k ≤ t ∧ r = k + 1 ∧ v p (k, t - k) = 2) ∨ (r ≤ t ∧ v p (r, t - r) = 3) := fun r hr z => by
      rcases h.pre p _ z with e | ⟨k, e1, e2⟩ | ⟨e, e1, e2⟩
      · have a := congrArg Prod.fst e
        have b := congrArg Prod.snd e
        dsimp only at a b
        omega
      · dsimp only at e1 e2
        exact Or.inl ⟨k, by omega, e1, by rw [show t - k = t + 1 - r by omega]; exact e2⟩
      · dsimp only at e1 e2
        exact Or.inr ⟨by omega, by rw [show t - r = e by omega]; exact e2⟩
    intro r s h1 h2 z1 z2
    rcases pr r h1 z1 with ⟨k, a1, a2, a3⟩ | ⟨a1, a3⟩ <;> rcases pr s h2 z2 with ⟨j, b1, b2, b3⟩ | ⟨b1, b3⟩
    · have := ih k j a1 b1 (by rw [a3]; decide) (by rw [b3]; decide); omega
    · have := ih k s a1 b1 (by rw [a3]; decide) (by rw [b3]; decide)
      subst this
      rw [a3] at b3; cases b3
    · have := ih r j a1 b1 (by rw [a3]; decide) (by rw [b3]; decide)
      subst this
      rw [a3] at b3; cases b3
    · exact ih r s a1 b1 (by rw [a3]; decide) (by rw [b3]; decide)
theorem Gh.notR (h : Gh g n v) {p : Nat} {c : Cell} (z : v p c ≠ 0) : ∃ q, v q c ≠ 0 ∧ v q c ≠ 2 := by
  by_cases w : v p c = 2
  · obtain ⟨q, a, b, _⟩ := h.yq c (h.yp p c w)
    exact ⟨q, a, b⟩
  · exact ⟨p, z, w⟩
theorem Gh.notD (h : Gh g n v) {p : Nat} {c : Cell} (z : v p c ≠ 0) : ∃ q, v q c ≠ 0 ∧ v q c ≠ 3 := by
  by_cases w : v p c = 3
  · obtain ⟨q, e⟩ := h.xp p c w
    obtain ⟨a, b, _⟩ := h.xq c q e
    exact ⟨q, a, b⟩
  · exact ⟨p, z, w⟩
/-- p has been in a cell of diagonal t, between a and b -/
def visB (v : Nat → Cell → Nat) (t a b p : Nat) : Bool := (List.range (t + 1)).any fun r => decide (a ≤ r ∧ r ≤ b ∧ v p (r, t - r) ≠ 0)
theorem visB_iff {t a b p : Nat} : visB v t a b p = true ↔ ∃ r, r ≤ t ∧ a ≤ r ∧ r ≤ b ∧ v p (r, t - r) ≠ 0 := by
  unfold visB
  rw [List.any_eq_true]
  constructor
  · rintro ⟨r, h1, h2⟩
    obtain ⟨h3, h4, h5⟩ := of_decide_eq_true h2
    exact ⟨r, by have := List.mem_range.mp h1; omega, h3, h4, h5⟩
  · rintro ⟨r, h1, h2, h3, h4⟩
    exact ⟨r, List.mem_range.mpr (by omega), decide_eq_true ⟨h2, h3, h4⟩⟩
theorem visB_no {t a b p : Nat} (h : ¬ ∃ r, r ≤ t ∧ a ≤ r ∧ r ≤ b ∧ v p (r, t - r) ≠ 0) : visB v t a b p = false := by
  cases e : visB v t a b p with
  | false => rfl
  | true => exact (h (visB_iff.mp e)).elim
theorem Gh.few (h : Gh g n v) : ∀ (t a b : Nat), a ≤ b → b ≤ t → (∃ p, v p (a, t - a) ≠ 0) → (∃ p, v p (b, t - b) ≠ 0) → (List.range n).countP (visB v t a b) + t ≤ n + (b - a) := by
  intro t
  induction t with
  | zero =>
    intro a b h1 h2 _ _
    have := List.countP_le_length (p := visB v 0 a b) (l := List.range n)
    rw [List.length_range] at this
    omega
  | succ t ih =>
    intro a b h1 h2 ⟨pa, za⟩ ⟨pb, zb⟩
    have pr : ∀ p r, r ≤ t + 1 → v p (r, t + 1 - r) ≠ 0 → (∃ k, k ≤ t ∧ r = k + 1 ∧ v p (k, t - k) = 2) ∨ (r ≤ t ∧ v p (r, t - r) = 3) := fun p r hr z => by
      rcases h.pre p _ z with e | ⟨k, e1, e2⟩ | ⟨e, e1, e2⟩
      · have a := congrArg Prod.fst e
        have b := congrArg Prod.snd e
        dsimp only at a b
        omega
      · dsimp only at e1 e2
        exact Or.inl ⟨k, by omega, e1, by rw [show t - k = t + 1 - r by omega]; exact e2⟩
      · dsimp only at e1 e2
        exact Or.inr ⟨by omega, by rw [show t - r = e by omega]; exact e2⟩
    -- the cells behind
    have hin : ∀ p, visB v (t + 1) a b p = true → ∃ r, r ≤ t ∧ a ≤ r + 1 ∧ r ≤ b ∧ v p (r, t - r) ≠ 0 := fun p hp => by
      obtain ⟨r, r1, r2, r3, r4⟩ := visB_iff.mp hp
      rcases pr p r r1 r4 with ⟨k, k1, k2, k3⟩ | ⟨k1, k3⟩
      · exact ⟨k, k1, by omega, by omega, by rw [k3]; decide⟩
      · exact ⟨r, k1, by omega, r3, by rw [k3]; decide⟩
    obtain ⟨r0, r1, r2, r3, r4⟩ := hin pa (visB_iff.mpr ⟨a, by omega, Nat.le_refl _, h1, za⟩)
    obtain ⟨a', a1, ⟨a2, a3, a4, pa', a5⟩, a6⟩ := least_of (P := fun r => r ≤ t ∧ a ≤ r + 1 ∧ r ≤ b ∧ ∃ p, v p (r, t - r) ≠ 0) r0 ⟨r1, r2, r3, pa, r4⟩
    obtain ⟨b', b1, b0, ⟨b2, b3, b4, pb', b5⟩, b6⟩ := most_of (P := fun r => r ≤ t ∧ a ≤ r + 1 ∧ r ≤ b ∧ ∃ p, v p (r, t - r) ≠ 0) (B := t) a2 ⟨a2, a3, a4, pa', a5⟩
    have I := ih a' b' b1 b2 ⟨pa', a5⟩ ⟨pb', b5⟩
    have sub : ∀ p ∈ List.range n, visB v (t + 1) a b p = true → visB v t a' b' p = true := fun p _ hp => by
      obtain ⟨r, c1, c2, c3, c4⟩ := hin p hp
      refine visB_iff.mpr ⟨r, c1, ?_, ?_, c4⟩
      · by_cases w : r < a'
        · exact (a6 r w ⟨c1, c2, c3, p, c4⟩).elim
        · omega
      · by_cases w : b' < r
        · exact (b6 r w c1 ⟨c1, c2, c3, p, c4⟩).elim
        · omega
    -- one that does not come from the left end, one that does not come from the right end
    have lo : a' + 1 = a → ∃ q, q < n ∧ visB v t a' b' q = true ∧ visB v (t + 1) a b q = false ∧ v q (a', t - a') ≠ 0 := fun e => by
      obtain ⟨q, q1, q2⟩ := h.notR a5
      refine ⟨q, h.lt _ _ q1, visB_iff.mpr ⟨a', a2, Nat.le_refl _, b1, q1⟩, visB_no ?_, q1⟩
      rintro ⟨r, c1, c2, c3, c4⟩
      rcases pr q r c1 c4 with ⟨k, k1, k2, k3⟩ | ⟨k1, k3⟩
      · have := h.same q t k a' k1 a2 (by rw [k3]; decide) q1
        subst this
        exact q2 k3
      · have := h.same q t r a' k1 a2 (by rw [k3]; decide) q1
        omega
    have hi : b' = b → ∃ q, q < n ∧ visB v t a' b' q = true ∧ visB v (t + 1) a b q = false ∧ v q (b', t - b') ≠ 0 := fun e => by
      obtain ⟨q, q1, q2⟩ := h.notD b5
      refine ⟨q, h.lt _ _ q1, visB_iff.mpr ⟨b', b2, b1, Nat.le_refl _, q1⟩, visB_no ?_, q1⟩
      rintro ⟨r, c1, c2, c3, c4⟩
      rcases pr q r c1 c4 with ⟨k, k1, k2, k3⟩ | ⟨k1, k3⟩
      · have := h.same q t k b' k1 b2 (by rw [k3]; decide) q1
        omega
      · have := h.same q t r b' k1 b2 (by rw [k3]; decide) q1
        subst this
        exact q2 k3
    by_cases ea : a' + 1 = a
    · obtain ⟨q, q0, q1, q2, q3⟩ := lo ea
      by_cases eb : b' = b
      · obtain ⟨s, s0, s1, s2, s3⟩ := hi eb
        have := count_lt2 sub (List.mem_range.mpr q0) q1 q2 (List.mem_range.mpr s0) s1 s2 (fun z => by
          subst z
          have := h.same q t a' b' a2 b2 q3 s3
          clear lo hi
          omega)
        clear lo hi
        omega
      · have := count_lt sub (List.mem_range.mpr q0) q1 q2
        clear lo hi
        omega
    · by_cases eb : b' = b
      · obtain ⟨s, s0, s1, s2, s3⟩ := hi eb
        have := count_lt sub (List.mem_range.mpr s0) s1 s2
        clear lo hi
        omega
      · have := count_le sub
        clear lo hi
        omega
/-- no process gets behind diagonal n - 1 -/
theorem Gh.near (h : Gh g n v) {p : Nat} (hp : p < n) : (g.at p).1 + (g.at p).2 < n := by
  have hv : v p (g.at p) ≠ 0 := by rw [h.here p hp]; decide
  have e : ((g.at p).1, (g.at p).1 + (g.at p).2 - (g.at p).1) = g.at p := by rw [Nat.add_sub_cancel_left]
  have I := h.few ((g.at p).1 + (g.at p).2) (g.at p).1 (g.at p).1 (Nat.le_refl _) (Nat.le_add_right _ _) ⟨p, by rw [e]; exact hv⟩ ⟨p, by rw [e]; exact hv⟩
  have c : 0 < (List.range n).countP (visB v ((g.at p).1 + (g.at p).2) (g.at p).1 (g.at p).1) := List.countP_pos_iff.mpr ⟨p, List.mem_range.mpr hp, visB_iff.mpr ⟨(g.at p).1, Nat.le_add_right _ _, Nat.le_refl _, Nat.le_refl _, by rw [e]; exact hv⟩⟩
  omega
end
theorem grid_near {n p : Nat} {sch : List Nat} (hv : GVal (Gs.init n) sch) (hp : p < n) : (((Gs.init n).run sch).at p).1 + (((Gs.init n).run sch).at p).2 < n := by
  obtain ⟨v, h⟩ := (Gh.init n).run (Gs.init_wf n) hv
  exact h.near hp
/-! ### the way to a cell -/
def dbl (l : List Nat) : List Nat := l.flatMap fun p => [p, p]
def Sits (g : Gs) (p : Nat) (c : Cell) (k : Nat) : Prop := g.fin[p]? = some false ∧ g.pos[p]? = some c ∧ g.dn[p]? = some k
section
variable {g : Gs} {p q : Nat} {c d : Cell} {k j : Nat}
theorem Sits.at (s : Sits g p c k) : g.at p = c := by unfold Gs.at; rw [List.getD_eq_getElem?_getD, s.2.1]; rfl
theorem Sits.dn (s : Sits g p c k) : g.dnAt p = k := by unfold Gs.dnAt; rw [List.getD_eq_getElem?_getD, s.2.2]; rfl
theorem Sits.ld (s : Sits g p c k) : p < g.dn.length := (List.getElem?_eq_some_iff.mp s.2.2).1
theorem Sits.lp (s : Sits g p c k) : p < g.pos.length := (List.getElem?_eq_some_iff.mp s.2.1).1
theorem Sits.lf (s : Sits g p c k) : p < g.fin.length := (List.getElem?_eq_some_iff.mp s.1).1
theorem st0 (s : Sits g p c 0) : g.step p = { g with dn := g.dn.set p 1, x := fset g.x c (some p) } := by
  have er : g.res p = .non := by unfold Gs.res; rw [s.dn, if_neg (by omega), if_neg (by omega)]
  unfold Gs.step; rw [er, s.dn, s.at]; rfl
theorem st1t (s : Sits g p c 1) (hy : g.y c = true) : g.step p = { g with pos := g.pos.set p (c.1 + 1, c.2), dn := g.dn.set p 0 } := by
  have er : g.res p = .right (c.1 + 1, c.2) := by unfold Gs.res; rw [s.dn, s.at, if_pos ⟨rfl, hy⟩]
  unfold Gs.step; rw [er]
theorem st1f (s : Sits g p c 1) (hy : g.y c = false) : g.step p = { g with dn := g.dn.set p 2 } := by
  have er : g.res p = .non := by unfold Gs.res; rw [s.dn, s.at, if_neg (by rw [hy]; exact fun z => Bool.false_ne_true z.2), if_neg (by omega)]
  unfold Gs.step; rw [er, s.dn, s.at]; rfl
theorem st2 (s : Sits g p c 2) : g.step p = { g with dn := g.dn.set p 3, y := fset g.y c true } := by
  have er : g.res p = .non := by unfold Gs.res; rw [s.dn, if_neg (by omega), if_neg (by omega)]
  unfold Gs.step; rw [er, s.dn, s.at]; rfl
theorem st3s (s : Sits g p c 3) (hx : g.x c = some p) : g.step p = { g with fin := g.fin.set p true, dn := g.dn.set p 4 } := by
  have er : g.res p = .stop c := by unfold Gs.res; rw [s.dn, s.at, if_neg (by omega), if_pos rfl, if_pos hx]
  unfold Gs.step; rw [er]
theorem st3d (s : Sits g p c 3) (hx : g.x c ≠ some p) : g.step p = { g with pos := g.pos.set p (c.1, c.2 + 1), dn := g.dn.set p 0 } := by
  have er : g.res p = .down (c.1, c.2 + 1) := by unfold Gs.res; rw [s.dn, s.at, if_neg (by omega), if_pos rfl, if_neg hx]
  unfold Gs.step; rw [er]
/-- only p has moved -/
def Fr1 (p : Nat) (g h : Gs) : Prop := ∀ q, q ≠ p → h.fin[q]? = g.fin[q]? ∧ h.pos[q]? = g.pos[q]? ∧ h.dn[q]? = g.dn[q]?
theorem Fr1.sits {h : Gs} (f : Fr1 p g h) (hq : q ≠ p) (s : Sits g q d j) : Sits h q d j := by
  obtain ⟨a, b, e⟩ := f q hq
  exact ⟨a.trans s.1, b.trans s.2.1, e.trans s.2.2⟩
theorem run2 : g.run [p, p] = (g.step p).step p := rfl
theorem goR (s : Sits g p c 0) (hy : g.y c = true) : GVal g [p, p] ∧ Sits (g.run [p, p]) p (c.1 + 1, c.2) 0 ∧ Fr1 p g (g.run [p, p]) ∧ (g.run [p, p]).y = g.y := by
  have s1 : Sits (g.step p) p c 1 := by rw [st0 s]; exact ⟨s.1, s.2.1, List.getElem?_set_self s.ld⟩
  have hy1 : (g.step p).y c = true := by rw [st0 s]; exact hy
  have e : g.run [p, p] = { g with pos := g.pos.set p (c.1 + 1, c.2), dn := (g.dn.set p 1).set p 0, x := fset g.x c (some p) } := by rw [run2, st1t s1 hy1, st0 s]
  refine ⟨⟨s.1, s1.1, trivial⟩, ?_, fun q hq => ?_, by rw [e]⟩
  · rw [e]; exact ⟨s.1, List.getElem?_set_self s.lp, List.getElem?_set_self (by rw [List.length_set]; exact s.ld)⟩
  · rw [e]; exact ⟨rfl, List.getElem?_set_ne (fun z => hq z.symm), by rw [List.getElem?_set_ne (fun z => hq z.symm), List.getElem?_set_ne (fun z => hq z.symm)]⟩
theorem goH (s : Sits g p c 0) (hy : g.y c = false) : GVal g [p, p] ∧ Sits (g.run [p, p]) p c 2 ∧ Fr1 p g (g.run [p, p]) ∧ (g.run [p, p]).y = g.y := by
  have s1 : Sits (g.step p) p c 1 := by rw [st0 s]; exact ⟨s.1, s.2.1, List.getElem?_set_self s.ld⟩
  have hy1 : (g.step p).y c = false := by rw [st0 s]; exact hy
  have e : g.run [p, p] = { g with dn := (g.dn.set p 1).set p 2, x := fset g.x c (some p) } := by rw [run2, st1f s1 hy1, st0 s]
  refine ⟨⟨s.1, s1.1, trivial⟩, ?_, fun q hq => ?_, by rw [e]⟩
  · rw [e]; exact ⟨s.1, s.2.1, List.getElem?_set_self (by rw [List.length_set]; exact s.ld)⟩
  · rw [e]; exact ⟨rfl, rfl, by rw [List.getElem?_set_ne (fun z => hq z.symm), List.getElem?_set_ne (fun z => hq z.symm)]⟩
theorem goD (s : Sits g p c 2) (hx : g.x c ≠ some p) : GVal g [p, p] ∧ Sits (g.run [p, p]) p (c.1, c.2 + 1) 0 ∧ Fr1 p g (g.run [p, p]) ∧ (g.run [p, p]).x = g.x ∧ ∀ d, d ≠ c → (g.run [p, p]).y d = g.y d := by
  have s1 : Sits (g.step p) p c 3 := by rw [st2 s]; exact ⟨s.1, s.2.1, List.getElem?_set_self s.ld⟩
  have hx1 : (g.step p).x c ≠ some p := by rw [st2 s]; exact hx
  have e : g.run [p, p] = { g with pos := g.pos.set p (c.1, c.2 + 1), dn := (g.dn.set p 3).set p 0, y := fset g.y c true } := by rw [run2, st3d s1 hx1, st2 s]
  refine ⟨⟨s.1, s1.1, trivial⟩, ?_, fun q hq => ?_, by rw [e], fun d hd => ?_⟩
  · rw [e]; exact ⟨s.1, List.getElem?_set_self s.lp, List.getElem?_set_self (by rw [List.length_set]; exact s.ld)⟩
  · rw [e]; exact ⟨rfl, List.getElem?_set_ne (fun z => hq z.symm), by rw [List.getElem?_set_ne (fun z => hq z.symm), List.getElem?_set_ne (fun z => hq z.symm)]⟩
  · rw [e]; exact if_neg hd
theorem goS (s : Sits g p c 0) (hy : g.y c = false) : GVal g [p, p, p, p] ∧ (g.run [p, p, p, p]).fin[p]? = some true ∧ (g.run [p, p, p, p]).pos[p]? = some c ∧ Fr1 p g (g.run [p, p, p, p]) ∧ (g.run [p, p, p, p]).x c = some p ∧ (g.run [p, p, p, p]).y c = true ∧ ∀ d, d ≠ c → (g.run [p, p, p, p]).y d = g.y d := by
  obtain ⟨v, s2, f, ey⟩ := goH s hy
  have s1 : Sits (g.step p) p c 1 := by rw [st0 s]; exact ⟨s.1, s.2.1, List.getElem?_set_self s.ld⟩
  have hy1 : (g.step p).y c = false := by rw [st0 s]; exact hy
  have e2 : g.run [p, p] = { g with dn := (g.dn.set p 1).set p 2, x := fset g.x c (some p) } := by rw [run2, st1f s1 hy1, st0 s]
  have s3 : Sits ((g.run [p, p]).step p) p c 3 := by rw [st2 s2]; exact ⟨s2.1, s2.2.1, List.getElem?_set_self s2.ld⟩
  have hx3 : ((g.run [p, p]).step p).x c = some p := by rw [st2 s2, e2]; exact if_pos rfl
  have e4 : g.run [p, p, p, p] = { (g.run [p, p]) with fin := (g.run [p, p]).fin.set p true, dn := ((g.run [p, p]).dn.set p 3).set p 4, y := fset (g.run [p, p]).y c true } := by
    show ((g.run [p, p]).step p).step p = _
    rw [st3s s3 hx3, st2 s2]
  refine ⟨⟨s.1, s1.1, s2.1, s3.1, trivial⟩, ?_, ?_, fun q hq => ?_, ?_, ?_, fun d hd => ?_⟩
  · rw [e4]; exact List.getElem?_set_self s2.lf
  · rw [e4]; exact s2.2.1
  · obtain ⟨a, b, e⟩ := f q hq
    rw [e4]
    exact ⟨(List.getElem?_set_ne (fun z => hq z.symm)).trans a, b, by rw [List.getElem?_set_ne (fun z => hq z.symm), List.getElem?_set_ne (fun z => hq z.symm)]; exact e⟩
  · rw [e4, e2]; exact if_pos rfl
  · rw [e4]; exact if_pos rfl
  · rw [e4, ← ey]; exact if_neg hd
end
theorem run_two (g : Gs) (a b : List Nat) : g.run (a ++ b) = (g.run a).run b := by unfold Gs.run; rw [List.foldl_append]
theorem gval_two : ∀ {a : List Nat} {g : Gs} {b : List Nat}, GVal g a → GVal (g.run a) b → GVal g (a ++ b)
  | [], _, _, _, h => h
  | p :: r, g, b, h1, h2 => ⟨h1.1, gval_two (a := r) (g := g.step p) h1.2 h2⟩
theorem twR {c : Cell} : ∀ {l : List Nat} {g : Gs}, l.Nodup → (∀ p ∈ l, Sits g p c 0) → g.y c = true → GVal g (dbl l) ∧ (∀ p ∈ l, Sits (g.run (dbl l)) p (c.1 + 1, c.2) 0) ∧ (∀ q, q ∉ l → ∀ d k, Sits g q d k → Sits (g.run (dbl l)) q d k) ∧ (g.run (dbl l)).y = g.y
  | [], g, _, _, _ => ⟨trivial, fun p hp => (List.not_mem_nil hp).elim, fun q _ d k s => s, rfl⟩
  | p :: r, g, nd, hs, hy => by
    obtain ⟨nd1, nd2⟩ := List.nodup_cons.mp nd
    obtain ⟨v1, s1, f1, y1⟩ := goR (hs p List.mem_cons_self) hy
    obtain ⟨v2, s2, f2, y2⟩ := twR (l := r) (g := g.run [p, p]) nd2 (fun q hq => f1.sits (fun z => nd1 (z ▸ hq)) (hs q (List.mem_cons_of_mem _ hq))) (by rw [y1]; exact hy)
    have e : g.run (dbl (p :: r)) = (g.run [p, p]).run (dbl r) := run_two g [p, p] (dbl r)
    refine ⟨gval_two (a := [p, p]) v1 v2, fun q hq => ?_, fun q hq d k s => ?_, by rw [e, y2, y1]⟩
    · rw [e]
      rcases List.mem_cons.mp hq with z | z
      · rw [z]; exact f2 p nd1 _ _ s1
      · exact s2 q z
    · rw [e]
      exact f2 q (fun z => hq (List.mem_cons_of_mem _ z)) d k (f1.sits (fun z => hq (z ▸ List.mem_cons_self)) s)
theorem twH {c : Cell} : ∀ {l : List Nat} {g : Gs}, l.Nodup → (∀ p ∈ l, Sits g p c 0) → g.y c = false → GVal g (dbl l) ∧ (∀ p ∈ l, Sits (g.run (dbl l)) p c 2) ∧ (∀ q, q ∉ l → ∀ d k, Sits g q d k → Sits (g.run (dbl l)) q d k) ∧ (g.run (dbl l)).y = g.y
  | [], g, _, _, _ => ⟨trivial, fun p hp => (List.not_mem_nil hp).elim, fun q _ d k s => s, rfl⟩
  | p :: r, g, nd, hs, hy => by
    obtain ⟨nd1, nd2⟩ := List.nodup_cons.mp nd
    obtain ⟨v1, s1, f1, y1⟩ := goH (hs p List.mem_cons_self) hy
    obtain ⟨v2, s2, f2, y2⟩ := twH (l := r) (g := g.run [p, p]) nd2 (fun q hq => f1.sits (fun z => nd1 (z ▸ hq)) (hs q (List.mem_cons_of_mem _ hq))) (by rw [y1]; exact hy)
    have e : g.run (dbl (p :: r)) = (g.run [p, p]).run (dbl r) := run_two g [p, p] (dbl r)
    refine ⟨gval_two (a := [p, p]) v1 v2, fun q hq => ?_, fun q hq d k s => ?_, by rw [e, y2, y1]⟩
    · rw [e]
      rcases List.mem_cons.mp hq with z | z
      · rw [z]; exact f2 p nd1 _ _ s1
      · exact s2 q z
    · rw [e]
      exact f2 q (fun z => hq (List.mem_cons_of_mem _ z)) d k (f1.sits (fun z => hq (z ▸ List.mem_cons_self)) s)
theorem twD {c : Cell} {w : Nat} : ∀ {l : List Nat} {g : Gs}, l.Nodup → (∀ p ∈ l, Sits g p c 2) → g.x c = some w → w ∉ l → GVal g (dbl l) ∧ (∀ p ∈ l, Sits (g.run (dbl l)) p (c.1, c.2 + 1) 0) ∧ (∀ q, q ∉ l → ∀ d k, Sits g q d k → Sits (g.run (dbl l)) q d k) ∧ ∀ d, d ≠ c → (g.run (dbl l)).y d = g.y d
  | [], g, _, _, _, _ => ⟨trivial, fun p hp => (List.not_mem_nil hp).elim, fun q _ d k s => s, fun _ _ => rfl⟩
  | p :: r, g, nd, hs, hx, hw => by
    obtain ⟨nd1, nd2⟩ := List.nodup_cons.mp nd
    obtain ⟨v1, s1, f1, x1, y1⟩ := goD (hs p List.mem_cons_self) (by rw [hx]; exact fun z => hw ((Option.some.inj z) ▸ List.mem_cons_self))
    obtain ⟨v2, s2, f2, y2⟩ := twD (l := r) (g := g.run [p, p]) nd2 (fun q hq => f1.sits (fun z => nd1 (z ▸ hq)) (hs q (List.mem_cons_of_mem _ hq))) (by rw [x1]; exact hx) (fun z => hw (List.mem_cons_of_mem _ z))
    have e : g.run (dbl (p :: r)) = (g.run [p, p]).run (dbl r) := run_two g [p, p] (dbl r)
    refine ⟨gval_two (a := [p, p]) v1 v2, fun q hq => ?_, fun q hq d k s => ?_, fun d hd => by rw [e, y2 d hd, y1 d hd]⟩
    · rw [e]
      rcases List.mem_cons.mp hq with z | z
      · rw [z]; exact f2 p nd1 _ _ s1
      · exact s2 q z
    · rw [e]
      exact f2 q (fun z => hq (List.mem_cons_of_mem _ z)) d k (f1.sits (fun z => hq (z ▸ List.mem_cons_self)) s)
/-- all that are left stand in c, and nobody has closed a cell there or behind -/
structure WayI (n : Nat) (row left : List Nat) (c : Cell) : Prop where
  gv : GVal (Gs.init n) row
  nd : left.Nodup
  st : ∀ p ∈ left, Sits ((Gs.init n).run row) p c 0
  ye : ∀ d : Cell, c.1 + c.2 ≤ d.1 + d.2 → ((Gs.init n).run row).y d = false
theorem WayI.init {n t : Nat} (h : t < n) : WayI n [] (List.range (t + 1)) (0, 0) := by
  refine ⟨trivial, List.nodup_range, fun p hp => ?_, fun d _ => rfl⟩
  have hp := List.mem_range.mp hp
  have h2 : p < n := by omega
  exact ⟨by show (List.replicate n false)[p]? = _; rw [List.getElem?_replicate, if_pos h2], by show (List.replicate n (0, 0))[p]? = _; rw [List.getElem?_replicate, if_pos h2], by show (List.replicate n 0)[p]? = _; rw [List.getElem?_replicate, if_pos h2]⟩
theorem WayI.right {n w : Nat} {row l : List Nat} {c : Cell} (h : WayI n row (w :: l) c) : WayI n (row ++ ([w, w, w, w] ++ dbl l)) l (c.1 + 1, c.2) := by
  obtain ⟨nd1, nd2⟩ := List.nodup_cons.mp h.nd
  obtain ⟨v1, _, _, f1, _, y1, y2⟩ := goS (h.st w List.mem_cons_self) (h.ye c (Nat.le_refl _))
  obtain ⟨v2, s2, _, y3⟩ := twR (l := l) nd2 (fun q hq => f1.sits (fun z => nd1 (z ▸ hq)) (h.st q (List.mem_cons_of_mem _ hq))) y1
  have e : (Gs.init n).run (row ++ ([w, w, w, w] ++ dbl l)) = (((Gs.init n).run row).run [w, w, w, w]).run (dbl l) := by rw [run_two, run_two]
  refine ⟨gval_two h.gv (gval_two v1 v2), nd2, fun p hp => by rw [e]; exact s2 p hp, fun d hd => ?_⟩
  dsimp only at hd
  rw [e, y3, y2 d (fun z => by rw [z] at hd; omega)]
  exact h.ye d (by omega)
theorem WayI.down {n w : Nat} {row l : List Nat} {c : Cell} (h : WayI n row (w :: l) c) : WayI n ((row ++ dbl l) ++ ([w, w, w, w] ++ dbl l)) l (c.1, c.2 + 1) := by
  obtain ⟨nd1, nd2⟩ := List.nodup_cons.mp h.nd
  obtain ⟨v0, s0, f0, y0⟩ := twH (l := l) nd2 (fun q hq => h.st q (List.mem_cons_of_mem _ hq)) (h.ye c (Nat.le_refl _))
  obtain ⟨v1, _, _, f1, x1, _, y2⟩ := goS (f0 w nd1 _ _ (h.st w List.mem_cons_self)) (by rw [y0]; exact h.ye c (Nat.le_refl _))
  obtain ⟨v2, s2, _, y3⟩ := twD (l := l) nd2 (fun q hq => f1.sits (fun z => nd1 (z ▸ hq)) (s0 q hq)) x1 nd1
  have e : (Gs.init n).run ((row ++ dbl l) ++ ([w, w, w, w] ++ dbl l)) = ((((Gs.init n).run row).run (dbl l)).run [w, w, w, w]).run (dbl l) := by rw [run_two, run_two, run_two]
  refine ⟨gval_two (gval_two h.gv v0) (by rw [run_two]; exact gval_two v1 v2), nd2, fun p hp => by rw [e]; exact s2 p hp, fun d hd => ?_⟩
  dsimp only at hd
  have hne : d ≠ c := fun z => by rw [z] at hd; omega
  rw [e, y3 d hne, y2 d hne, y0]
  exact h.ye d (by omega)
theorem WayI.last {n w : Nat} {row : List Nat} {c : Cell} (h : WayI n row [w] c) : GVal (Gs.init n) (row ++ [w, w, w, w]) ∧ ((Gs.init n).run (row ++ [w, w, w, w])).fin[w]? = some true ∧ ((Gs.init n).run (row ++ [w, w, w, w])).at w = c := by
  obtain ⟨v1, a, b, _⟩ := goS (h.st w List.mem_cons_self) (h.ye c (Nat.le_refl _))
  refine ⟨gval_two h.gv v1, by rw [run_two]; exact a, ?_⟩
  rw [run_two]
  unfold Gs.at
  rw [List.getD_eq_getElem?_getD, b]
  rfl
/-! ### the Walk as it stands -/
structure Wad where
  w : Addr
  dx : Addr
  cl : Addr
  pl : Addr
  dl : Addr
  nl : Addr
  sl : Addr
  rl : Addr
def splE (d : Ad) (g : Gs) (e : Cell × Addr × Addr) : Addr × HO := (e.2.1, .ins d.c_Splitter e.2.2 [("writer", wV (g.x e.1)), ("closed", .bl (g.y e.1))])
def csK (cs : List (Cell × Addr × Addr)) : List (List Key × V) := cs.map fun e => (keyC e.1, V.ref e.2.1)
def walkO (d : Ad) (W : Wad) : Addr × HO := (W.w, .ins d.c_Walk W.dx [("cells", .ref W.cl), ("places", .ref W.pl), ("done", .ref W.dl), ("names", .ref W.nl), ("steps", .ref W.sl), ("reports", .ref W.rl)])
def walkL (d : Ad) (W : Wad) (g : Gs) (xs : List V) (cs : List (Cell × Addr × Addr)) (sch : List Nat) (rp : List V) (l : List (Addr × HO)) : List (Addr × HO) :=
  walkO d W :: (W.cl, .dT (csK cs)) :: (W.pl, .lst xs) :: (W.dl, .lst (nv g.dn)) :: (W.nl, .lst g.names) :: (W.sl, .lst (nv sch)) :: (W.rl, .lst rp) :: (cs.map (splE d g) ++ l)
structure WalkC (d : Ad) (B H : Hp) (W : Wad) (g : Gs) (n : Nat) (xs : List V) (cs : List (Cell × Addr × Addr)) (sch : List Nat) (rp : List V) (evs : List (List V)) (m b : Nat) (l : List (Addr × HO)) : Prop where
  sp : Tups B xs (g.pos.map cellV)
  rt : Tups B rp evs
  nd : (cs.map (·.1)).Nodup
  fr : ∀ c, c ∉ cs.map (·.1) → g.x c = none ∧ g.y c = false
  ln : cs.length ≤ m
  bd : ∀ c ∈ g.pos, c.1 + c.2 ≤ b
  rn : evs.length ≤ m
  led : Led B H (walkL d W g xs cs sch rp l)
def WalkR (d : Ad) (B H : Hp) (W : Wad) (g : Gs) (n : Nat) (sch : List Nat) (evs : List (List V)) (l : List (Addr × HO)) : Prop :=
  g.Wf n ∧ ∃ xs cs rp, WalkC d B H W g n xs cs sch rp evs sch.length sch.length l
theorem csK_look (c : Cell) : ∀ cs : List (Cell × Addr × Addr), (∃ s dx, (c, s, dx) ∈ cs ∧ valV (csK cs) (keyC c) = some (.ref s)) ∨ (c ∉ cs.map (·.1) ∧ valV (csK cs) (keyC c) = none)
  | [] => Or.inr ⟨List.not_mem_nil, rfl⟩
  | (c1, s1, dx1) :: r => by
    by_cases e : c1 = c
    · subst e
      exact Or.inl ⟨s1, dx1, List.mem_cons_self, valV_pos rfl⟩
    · have hk : ¬ keyC c1 = keyC c := fun z => e (keyC_inj z)
      have hv : valV (csK ((c1, s1, dx1) :: r)) (keyC c) = valV (csK r) (keyC c) := valV_neg (p := (keyC c1, V.ref s1)) hk
      rcases csK_look c r with ⟨s, dx, h1, h2⟩ | ⟨h1, h2⟩
      · exact Or.inl ⟨s, dx, List.mem_cons_of_mem _ h1, by rw [hv]; exact h2⟩
      · exact Or.inr ⟨fun z => by
          rw [List.map_cons] at z
          rcases List.mem_cons.mp z with z | z
          · exact e z.symm
          · exact h1 z, by rw [hv]; exact h2⟩
/-- one splitter of them is changed -/
theorem put_spl {d : Ad} {g g' : Gs} {c : Cell} {s dx : Addr} : ∀ {cs : List (Cell × Addr × Addr)}, (cs.map (·.1)).Nodup → ((cs.map (splE d g)).map (·.1)).Nodup → (c, s, dx) ∈ cs → (∀ c', c' ≠ c → g'.x c' = g.x c' ∧ g'.y c' = g.y c') →
    putL (cs.map (splE d g)) s (splE d g' (c, s, dx)).2 = cs.map (splE d g')
  | [], _, _, h, _ => by cases h
  | e :: r, n1, n2, h, hc => by
    rw [List.map_cons] at n1
    rw [List.map_cons, List.map_cons] at n2
    obtain ⟨a1, a2⟩ := List.nodup_cons.mp n1
    obtain ⟨b1, b2⟩ := List.nodup_cons.mp n2
    rw [List.map_cons, putL_cons, List.map_cons]
    rcases List.mem_cons.mp h with z | z
    · subst z
      rw [if_pos (show (splE d g (c, s, dx)).1 = s from rfl), putL_not (show s ∉ _ from b1)]
      congr 1
      refine List.map_congr_left fun e he => ?_
      have : e.1 ≠ c := fun z => a1 (by rw [← z]; exact List.mem_map_of_mem (f := (·.1)) he)
      unfold splE
      rw [(hc _ this).1, (hc _ this).2]
    · have ne : e.1 ≠ c := fun w => a1 (by rw [w]; exact List.mem_map_of_mem (f := (·.1)) z)
      have ne2 : ¬ (splE d g e).1 = s := fun w => b1 (by
        rw [w]
        exact List.mem_map.mpr ⟨splE d g (c, s, dx), List.mem_map_of_mem z, rfl⟩)
      rw [if_neg ne2, put_spl a2 b2 z hc]
      congr 1
      unfold splE
      rw [(hc _ ne).1, (hc _ ne).2]
theorem names_init (n : Nat) : (Gs.init n).names = List.replicate n .non := by
  apply List.ext_getElem?
  intro q
  have wf := Gs.init_wf n
  by_cases c : q < n
  · rw [Gs.names_at wf.toLn c, List.getElem?_replicate, if_pos c, if_neg]
    show ¬ (List.replicate n false)[q]? = some true
    rw [List.getElem?_replicate, if_pos c]
    decide
  · rw [List.getElem?_eq_none (by rw [Gs.names_len wf.toLn]; omega), List.getElem?_eq_none (by rw [List.length_replicate]; omega)]
/-- what a step gives, as told -/
def resT : Rs → Option (Str × Int)
  | .non => none
  | .right c => some ("right", nmC c)
  | .down c => some ("down", nmC c)
  | .stop c => some ("stop", nmC c)
def RV (B : Hp) (v : V) : Option (Str × Int) → Prop
  | none => v = .non
  | some (s, i) => ∃ t, v = .ref t ∧ B t = some (.tup [.str s, .int i])
def evT (p : Nat) : Option (Str × Int) → List (List V)
  | none => []
  | some (s, i) => [[.int (p : Int), .str s, .int i]]
def evsOf : Gs → List Nat → List (List V)
  | _, [] => []
  | g, p :: r => evT p (resT (g.res p)) ++ evsOf (g.step p) r
theorem evsOf_app : ∀ (l : List Nat) (g : Gs) (p : Nat), evsOf g (l ++ [p]) = evsOf g l ++ evT p (resT ((g.run l).res p))
  | [], g, p => by
    show evT p (resT (g.res p)) ++ [] = [] ++ _
    rw [List.append_nil]; rfl
  | q :: r, g, p => by
    show evT q (resT (g.res q)) ++ evsOf (g.step q) (r ++ [p]) = (evT q (resT (g.res q)) ++ evsOf (g.step q) r) ++ _
    rw [evsOf_app r, List.append_assoc]
    rfl
theorem nm_bd {c : Cell} {m : Nat} (h : c.1 + c.2 ≤ m) (hm : m ≤ 1000000) : (0 : Int) ≤ c.1 ∧ (c.1 : Int) ≤ 10 ^ 15 ∧ (0 : Int) ≤ c.2 ∧ (c.2 : Int) ≤ 10 ^ 15 := by omega
theorem walk_tail {d : Ad} {B H : Hp} {W : Wad} {g : Gs} {xs : List V} {cs : List (Cell × Addr × Addr)} {sch : List Nat} {rp : List V} {l : List (Addr × HO)} (L : Led B H (walkL d W g xs cs sch rp l)) : Led B H l :=
  L.subl (((((((List.sublist_append_right _ l).cons _).cons _).cons _).cons _).cons _).cons _ |>.cons _)
theorem walk_front {d : Ad} {B H : Hp} {W : Wad} {g : Gs} {xs : List V} {cs : List (Cell × Addr × Addr)} {sch : List Nat} {rp : List V} {l : List (Addr × HO)} : Led B H (walkL d W g xs cs sch rp l) ↔ Led B H (l ++ walkL d W g xs cs sch rp []) := by
  have p : (walkL d W g xs cs sch rp l).Perm (l ++ walkL d W g xs cs sch rp []) := by
    have e : walkL d W g xs cs sch rp l = walkL d W g xs cs sch rp [] ++ l := by
      unfold walkL
      simp only [List.append_nil, List.cons_append]
    rw [e]
    exact List.perm_append_comm
  exact ⟨fun L => L.perm p, fun L => L.perm p.symm⟩
theorem Led.nd_mid {B H : Hp} {a b c : List (Addr × HO)} (L : Led B H (a ++ (b ++ c))) : ((b).map (·.1)).Nodup ∧ (∀ e ∈ b, e.1 ∉ a.map (·.1) ∧ e.1 ∉ c.map (·.1)) := by
  have nd := L.nd
  rw [List.map_append, List.map_append] at nd
  obtain ⟨n1, n2, n3⟩ := List.nodup_append.mp nd
  obtain ⟨m1, m2, m3⟩ := List.nodup_append.mp n2
  refine ⟨m1, fun e he => ⟨fun z => ?_, fun z => ?_⟩⟩
  · exact n3 _ z e.1 (List.mem_append_left _ (List.mem_map_of_mem he)) rfl
  · exact m3 e.1 (List.mem_map_of_mem he) _ z rfl
/-- a drawer of numbers stands at u, besides l -/
def Urn (B H : Hp) (u : Addr) (l : List (Addr × HO)) (c : Nat) : Prop := ∃ x y z : Int, Led B H ((u, .lst [.int x, .int y, .int z]) :: l) ∧ 0 ≤ x ∧ 0 ≤ y ∧ y < 2 ^ 150 ∧ 0 ≤ z ∧ z ≤ (c : Int)
theorem Urn.led {B H : Hp} {u : Addr} {l : List (Addr × HO)} {c : Nat} (U : Urn B H u l c) : Led B H l := by
  obtain ⟨x, y, z, L, _⟩ := U
  exact L.drop (n := 1)
theorem Urn.map {B H B' H' : Hp} {u : Addr} {l l' : List (Addr × HO)} {c : Nat} (U : Urn B H u l c) (h : ∀ o, Led B H ((u, o) :: l) → Led B' H' ((u, o) :: l')) : Urn B' H' u l' c := by
  obtain ⟨x, y, z, L, r⟩ := U
  exact ⟨x, y, z, h _ L, r⟩
theorem Urn.up {B H : Hp} {u : Addr} {l : List (Addr × HO)} {c d : Nat} (U : Urn B H u l c) (h : c ≤ d) : Urn B H u l d := by
  obtain ⟨x, y, z, L, r1, r2, r3, r4, r5⟩ := U
  exact ⟨x, y, z, L, r1, r2, r3, r4, by omega⟩
theorem Urn.new {B H : Hp} {u : Addr} {l : List (Addr × HO)} {c : Nat} {o : HO} {G : Addr → Hp → Prop} (U : Urn B H u l c) (k : ∀ p H1, Urn B H1 u ((p, o) :: l) c → G p H1) : NewK o H G := fun p hp =>
  k p _ (U.map fun o L => (L.new hp).sel (.cons (.tl .hd) .all))
theorem Urn.sel {B H : Hp} {u : Addr} {l l' : List (Addr × HO)} {c : Nat} (U : Urn B H u l c) (h : Sel l l') : Urn B H u l' c := U.map fun o L => L.sel (.cons .hd h)
theorem Urn.put {B H : Hp} {u p : Addr} {o : HO} {l l' : List (Addr × HO)} {c : Nat} (U : Urn B H u l c) (h : Put l p o l') : Urn B (upd H p o) u l' c := U.map fun _ L => L.put (.tl h)
theorem Urn.catK {B H : Hp} {u p q : Addr} {l : List (Addr × HO)} {c : Nat} {xs ys : List V} {G : Addr → Hp → Prop} (U : Urn B H u l c) (h : (p, HO.lst xs) ∈ l) (h2 : (q, HO.lst ys) ∈ l) (a : xs.length + ys.length ≤ sizeLine)
    (k : ∀ r H1, Urn B H1 u ((r, .lst (xs ++ ys)) :: l) c → G r H1) : CatK p q H G := ⟨xs, ys, U.led.at h, U.led.at h2, a, U.new k⟩
theorem Urn.appK {B H : Hp} {u p : Addr} {l l' : List (Addr × HO)} {c : Nat} {xs : List V} {v : V} {G : Hp → Prop} (U : Urn B H u l c) (h : (p, HO.lst xs) ∈ l) (a : xs.length < sizeLine) (t : Put l p (.lst (xs ++ [v])) l')
    (k : ∀ H1, Urn B H1 u l' c → G H1) : AppK p v H G := ⟨xs, U.led.at h, a, k _ (U.put t)⟩
theorem Urn.setK {B H : Hp} {u p : Addr} {l l' : List (Addr × HO)} {c j : Nat} {i : Int} {xs : List V} {v : V} {G : Hp → Prop} (U : Urn B H u l c) (h : (p, HO.lst xs) ∈ l) (a : ixN xs.length i = some j) (t : Put l p (.lst (xs.set j v)) l')
    (k : ∀ H1, Urn B H1 u l' c → G H1) : SetK p i v H G := ⟨xs, j, U.led.at h, a, k _ (U.put t)⟩
theorem Urn.rptK {B H : Hp} {u a : Addr} {l : List (Addr × HO)} {c n : Nat} {v : V} {G : Addr → Hp → Prop} (U : Urn B H u l c) (h : (a, HO.lst [v]) ∈ l) (hn : n ≤ 100000) (k : ∀ p H1, Urn B H1 u ((p, .lst (List.replicate n v)) :: l) c → G p H1) : RptK a (n : Int) H G :=
  ⟨[v], U.led.at h, by omega, by omega, Nat.le_trans (m := 100000) (by rw [Int.toNat_natCast]; simpa using hn) (by decide), by rw [Int.toNat_natCast, flat_one]; exact U.new k⟩
theorem Urn.remK {B H : Hp} {u a : Addr} {l l' : List (Addr × HO)} {c : Nat} {n : Int} {ns : List Int} {G : Hp → Prop} (U : Urn B H u l c) (h : (a, HO.lst (ns.map V.int)) ∈ l) (hm : n ∈ ns) (t : Put l a (.lst ((ns.erase n).map V.int)) l') (k : ∀ H1, Urn B H1 u l' c → G H1) : RemK a n H G := by
  obtain ⟨j, h1, h2, h3⟩ := first_at hm
  exact ⟨ns, j, U.led.at h, h1, h2, by rw [h3]; exact k _ (U.put t)⟩
theorem Urn.sink {B H : Hp} {u p : Addr} {o : HO} {l : List (Addr × HO)} {c : Nat} (U : Urn B H u ((p, o) :: l) c) : ∃ B', Same B B' ∧ B' p = some o ∧ Urn B' H u l c := by
  obtain ⟨x, y, z, L, r⟩ := U
  obtain ⟨B', s, h, L⟩ := (L.sel (l' := (p, o) :: (u, .lst [.int x, .int y, .int z]) :: l) (.cons (.tl .hd) (.cons .hd .all))).sink
  exact ⟨B', s, h, x, y, z, L, r⟩
theorem pickV {l : List V} {r : Int} (h0 : 0 ≤ r) (h : r < l.length) : ∃ x ∈ l, atI l r = some x := ⟨_, List.getElem_mem _, atI_in h0 h⟩
/-! ### the machine of the law -/
structure Mad where
  m : Addr
  c : Addr
  dn : Addr
  st : Addr
  x : Addr
  y : Addr
def machRoot (M : Mad) : HO := .lst [.ref M.x, .ref M.y, .ref M.c, .ref M.dn, .ref M.st]
def bv (l : List Bool) : List V := l.map V.bl
def machL (M : Mad) (g : Gs) (xs : List V) (kx ky : List (List Key × V)) (l : List (Addr × HO)) : List (Addr × HO) :=
  (M.m, machRoot M) :: (M.c, .lst xs) :: (M.dn, .lst (nv g.dn)) :: (M.st, .lst (bv g.fin)) :: (M.x, .dT kx) :: (M.y, .dT ky) :: l
structure MachF (B : Hp) (g : Gs) (xs : List V) (kx ky : List (List Key × V)) (m : Nat) : Prop where
  sp : Tups B xs (g.pos.map cellV)
  hx : ∀ c, valV kx (keyC c) = (g.x c).map fun (p : Nat) => V.int (p : Int)
  hy : ∀ c, (valV ky (keyC c)).isSome = g.y c
  tr : ∀ k v, valV ky k = some v → v = .bl true
  lx : kx.length ≤ m
  ly : ky.length ≤ m
  bd : ∀ c ∈ g.pos, c.1 + c.2 ≤ m
theorem MachF.mono {B B' : Hp} {g : Gs} {xs : List V} {kx ky : List (List Key × V)} {m : Nat} (F : MachF B g xs kx ky m) (s : Same B B') : MachF B' g xs kx ky m := ⟨F.sp.mono s, F.hx, F.hy, F.tr, F.lx, F.ly, F.bd⟩
def MachR (B H : Hp) (M : Mad) (g : Gs) (n m : Nat) (l : List (Addr × HO)) : Prop := g.Wf n ∧ ∃ xs kx ky, MachF B g xs kx ky m ∧ Led B H (machL M g xs kx ky l)
theorem bv_set (l : List Bool) (i : Nat) (b : Bool) : (bv l).set i (V.bl b) = bv (l.set i b) := by unfold bv; rw [List.map_set]
theorem bv_len (l : List Bool) : (bv l).length = l.length := by unfold bv; rw [List.length_map]
def leftL (g : Gs) (n : Nat) : List Nat := (List.range n).filter fun p => decide (g.fin[p]? = some false)
theorem left_mem {g : Gs} {n p : Nat} : p ∈ leftL g n ↔ p < n ∧ g.Ok p := by
  unfold leftL Gs.Ok
  rw [List.mem_filter, List.mem_range, decide_eq_true_eq]
theorem left_len (g : Gs) (n : Nat) : (leftL g n).length ≤ n := by
  unfold leftL
  have := List.length_filter_le (fun p => decide (g.fin[p]? = some false)) (List.range n)
  rw [List.length_range] at this
  exact this
def MachU (B H : Hp) (u : Addr) (c : Nat) (M : Mad) (g : Gs) (n m : Nat) (l : List (Addr × HO)) : Prop := g.Wf n ∧ ∃ xs kx ky, MachF B g xs kx ky m ∧ Urn B H u (machL M g xs kx ky l) c
theorem MachU.of {B H : Hp} {u : Addr} {c : Nat} {M : Mad} {g : Gs} {n m : Nat} {l : List (Addr × HO)} (h : MachU B H u c M g n m l) : ∃ x y z : Int, MachR B H M g n m ((u, .lst [.int x, .int y, .int z]) :: l) ∧ 0 ≤ x ∧ 0 ≤ y ∧ y < 2 ^ 150 ∧ 0 ≤ z ∧ z ≤ (c : Int) := by
  obtain ⟨wf, xs, kx, ky, F, x, y, z, L, r⟩ := h
  refine ⟨x, y, z, ⟨wf, xs, kx, ky, F, ?_⟩, r⟩
  unfold machL at L ⊢
  exact L.sel (.cons (.tl .hd) (.cons (.tl .hd) (.cons (.tl .hd) (.cons (.tl .hd) (.cons (.tl .hd) (.cons (.tl .hd) .all))))))
theorem MachU.to {B H : Hp} {u : Addr} {c : Nat} {M : Mad} {g : Gs} {n m : Nat} {l : List (Addr × HO)} {x y z : Int} (h : MachR B H M g n m ((u, .lst [.int x, .int y, .int z]) :: l)) (r : 0 ≤ x ∧ 0 ≤ y ∧ y < 2 ^ 150 ∧ 0 ≤ z ∧ z ≤ (c : Int)) : MachU B H u c M g n m l := by
  obtain ⟨wf, xs, kx, ky, F, L⟩ := h
  refine ⟨wf, xs, kx, ky, F, x, y, z, ?_, r⟩
  unfold machL at L ⊢
  exact L.sel (.cons (.tl (.tl (.tl (.tl (.tl (.tl .hd)))))) .all)
section
variable {B H : Hp} {u p : Addr} {c : Nat} {M : Mad} {g : Gs} {n m : Nat} {l l' : List (Addr × HO)} {o : HO}
theorem MachU.new {G : Addr → Hp → Prop} (U : MachU B H u c M g n m l) (k : ∀ p H1, MachU B H1 u c M g n m ((p, o) :: l) → G p H1) : NewK o H G := by
  obtain ⟨wf, xs, kx, ky, F, U⟩ := U
  refine U.new fun p H1 U => k p H1 ⟨wf, xs, kx, ky, F, ?_⟩
  unfold machL at U ⊢
  exact U.sel (.cons (.tl .hd) (.cons (.tl .hd) (.cons (.tl .hd) (.cons (.tl .hd) (.cons (.tl .hd) (.cons (.tl .hd) .all))))))
theorem MachU.sel (U : MachU B H u c M g n m l) (h : Sel l l') : MachU B H u c M g n m l' := by
  obtain ⟨wf, xs, kx, ky, F, U⟩ := U
  exact ⟨wf, xs, kx, ky, F, U.sel (.cons .hd (.cons .hd (.cons .hd (.cons .hd (.cons .hd (.cons .hd h))))))⟩
theorem MachU.up {d : Nat} (U : MachU B H u c M g n m l) (h : c ≤ d) : MachU B H u d M g n m l := by
  obtain ⟨wf, xs, kx, ky, F, U⟩ := U
  exact ⟨wf, xs, kx, ky, F, U.up h⟩
theorem MachU.led (U : MachU B H u c M g n m l) : Led B H l := by
  obtain ⟨wf, xs, kx, ky, F, U⟩ := U
  exact U.led.drop (n := 6)
theorem MachU.put (U : MachU B H u c M g n m l) (h : Put l p o l') : MachU B (upd H p o) u c M g n m l' := by
  obtain ⟨wf, xs, kx, ky, F, U⟩ := U
  exact ⟨wf, xs, kx, ky, F, U.put (.tl (.tl (.tl (.tl (.tl (.tl h))))))⟩
theorem MachU.appK {xs : List V} {v : V} {G : Hp → Prop} (U : MachU B H u c M g n m l) (h : (p, HO.lst xs) ∈ l) (a : xs.length < sizeLine) (t : Put l p (.lst (xs ++ [v])) l') (k : ∀ H1, MachU B H1 u c M g n m l' → G H1) : AppK p v H G := ⟨xs, U.led.at h, a, k _ (U.put t)⟩
theorem MachU.same {H' : Hp} (U : MachU B H u c M g n m l) (s : Same H H') : MachU B H' u c M g n m l := by
  obtain ⟨wf, xs, kx, ky, F, U⟩ := U
  exact ⟨wf, xs, kx, ky, F, U.map fun o L => L.same s⟩
theorem MachU.join1 {H' : Hp} {a : Addr} {w : HO} (U : MachU B H u c M g n m l) (L2 : Led H H' [(a, w)]) : MachU B H' u c M g n m ((a, w) :: l) := by
  obtain ⟨wf, xs, kx, ky, F, U⟩ := U
  refine ⟨wf, xs, kx, ky, F, U.map fun o L => ?_⟩
  have L := L.join L2
  unfold machL at L ⊢
  exact L.sel (.cons (.tl .hd) (.cons (.tl .hd) (.cons (.tl .hd) (.cons (.tl .hd) (.cons (.tl .hd) (.cons (.tl .hd) (.cons (.tl .hd) .all)))))))
theorem MachU.sink (U : MachU B H u c M g n m ((p, o) :: l)) : ∃ B', Same B B' ∧ B' p = some o ∧ MachU B' H u c M g n m l := by
  obtain ⟨wf, xs, kx, ky, F, U⟩ := U
  obtain ⟨B', s, h, U⟩ := (U.sel (l' := (p, o) :: machL M g xs kx ky l) (.cons (.tl (.tl (.tl (.tl (.tl (.tl .hd)))))) (.cons .hd (.cons .hd (.cons .hd (.cons .hd (.cons .hd (.cons .hd .all)))))))).sink
  exact ⟨B', s, h, wf, xs, kx, ky, F.mono s, U⟩
end
/-! ### == of lists of None, numbers, bools -/
def toDf : V → PyData
  | .bl b => .bool b
  | .int i => .int i
  | _ => .none
def plainV : V → Bool
  | .non => true
  | .bl _ => true
  | .int _ => true
  | _ => false
theorem dp_plain {K : PySem.W.Frag} {H : Hp} : ∀ l : List V, (∀ x ∈ l, plainV x = true) → DpAll K H l (l.map toDf)
  | [], _ => .nil
  | x :: r, h => by
    refine .cons ?_ (dp_plain r fun y hy => h y (List.mem_cons_of_mem _ hy))
    have := h x List.mem_cons_self
    cases x <;> first | exact .non | exact .bl _ | exact .int _ | cases this
theorem eqd_plain {l : List V} (hp : ∀ x ∈ l, plainV x = true) : Eqd 2 (.list (l.map toDf)) := Eqd.lst fun d hd => by
  obtain ⟨x, hx, rfl⟩ := List.mem_map.mp hd
  have := hp x hx
  cases x <;> first | exact Eqd.non | exact Eqd.bl _ | exact Eqd.int _ | cases this
theorem ne_plain {K : PySem.W.Frag} {H : Hp} {a b : Addr} {l : List V} {Q : VK} (h : SqL K H a l) (h2 : SqL K H b l) (hp : ∀ x ∈ l, plainV x = true) (q : Q (.bl false) H) : rNeD K (.ref a) (.ref b) H Q := by
  have g := eqd_plain hp
  refine NeD.of (.lst h (dp_plain l hp)) (.lst h2 (dp_plain l hp)) (g.sh (by decide)) (g.sh (by decide)) ?_
  rw [SeqAt.eqv_refl _ g.c]
  exact q
theorem eq_plain {K : PySem.W.Frag} {H : Hp} {a b : Addr} {l : List V} {Q : VK} (h : SqL K H a l) (h2 : SqL K H b l) (hp : ∀ x ∈ l, plainV x = true) (q : Q (.bl true) H) : rEqL K (.ref a) (.ref b) H Q := by
  have g := eqd_plain hp
  refine Or.inl (EqD.of (.lst h (dp_plain l hp)) (.lst h2 (dp_plain l hp)) (g.sh (by decide)) (g.sh (by decide)) ?_)
  rw [SeqAt.eqv_refl _ g.c]
  exact q
theorem names_plain {g : Gs} {n : Nat} (wf : g.Ln n) : ∀ x ∈ g.names, plainV x = true := fun x hx => by
  obtain ⟨i, hi, e⟩ := List.mem_iff_getElem.mp hx
  have h := Gs.names_at (p := i) wf (by rw [← Gs.names_len wf]; exact hi)
  rw [List.getElem?_eq_getElem hi, e] at h
  rw [Option.some.inj h]
  split <;> rfl
theorem ne_nv0 {K : PySem.W.Frag} {H : Hp} {a b : Addr} {l : List Nat} {Q : VK} (h : SqL K H a (nv l)) (h2 : SqL K H b []) (q : Q (.bl (!l.isEmpty)) H) : rNeD K (.ref a) (.ref b) H Q := by
  have dp : ∀ l : List Nat, DpAll K H (nv l) (l.map fun (p : Nat) => .int (p : Int)) := fun l => by
    induction l with
    | nil => exact .nil
    | cons x r ih => exact .cons (.int _) ih
  refine NeD.nil (k := 1) h (dp l) (fun x hx => by obtain ⟨p, _, rfl⟩ := List.mem_map.mp hx; exact Eqd.int _) (by decide) h2 ?_
  rw [List.isEmpty_map]
  exact q
theorem MachR.newU {B H : Hp} {M : Mad} {g : Gs} {n m : Nat} {l : List (Addr × HO)} {p : Addr} {o : HO} (h : MachR B H M g n m l) (hp : H p = none) : MachR B (upd H p o) M g n m ((p, o) :: l) := by
  obtain ⟨wf, xs, kx, ky, F, L⟩ := h
  refine ⟨wf, xs, kx, ky, F, ?_⟩
  have L := L.new (o := o) hp
  unfold machL at L ⊢
  exact L.sel (.cons (.tl .hd) (.cons (.tl .hd) (.cons (.tl .hd) (.cons (.tl .hd) (.cons (.tl .hd) (.cons (.tl .hd) .all))))))
theorem MachR.sel {B H : Hp} {M : Mad} {g : Gs} {n m : Nat} {l l' : List (Addr × HO)} (h : MachR B H M g n m l) (s : Sel l l') : MachR B H M g n m l' := by
  obtain ⟨wf, xs, kx, ky, F, L⟩ := h
  exact ⟨wf, xs, kx, ky, F, L.sel (.cons .hd (.cons .hd (.cons .hd (.cons .hd (.cons .hd (.cons .hd s))))))⟩
theorem MachR.tlU {B H : Hp} {M : Mad} {g : Gs} {n m : Nat} {l : List (Addr × HO)} {e : Addr × HO} (h : MachR B H M g n m (e :: l)) : MachR B H M g n m l := h.sel (.skip .all)
theorem MachR.led {B H : Hp} {M : Mad} {g : Gs} {n m : Nat} {l : List (Addr × HO)} (h : MachR B H M g n m l) : Led B H l := by
  obtain ⟨_, xs, kx, ky, _, L⟩ := h
  exact L.drop (n := 6)
theorem MachR.putU {B H : Hp} {M : Mad} {g : Gs} {n m : Nat} {l l' : List (Addr × HO)} {p : Addr} {o : HO} (h : MachR B H M g n m l) (s : Put l p o l') : MachR B (upd H p o) M g n m l' := by
  obtain ⟨wf, xs, kx, ky, F, L⟩ := h
  exact ⟨wf, xs, kx, ky, F, L.put (.tl (.tl (.tl (.tl (.tl (.tl s))))))⟩
theorem atI_last {l : List Nat} (h : l ≠ []) : ∃ p, p ∈ l ∧ atI (nv l) (-1) = some (.int (p : Int)) := by
  obtain ⟨p1, hp1⟩ : ∃ p, l.getLast? = some p := ⟨_, List.getLast?_eq_some_getLast h⟩
  have hpos : 0 < l.length := List.length_pos_iff.mpr h
  refine ⟨p1, List.mem_of_getLast? hp1, ?_⟩
  unfold atI ixN
  rw [if_neg (by decide), nv_len, if_pos (by omega)]
  show (nv l)[((-1 : Int) + (l.length : Int)).toNat]? = _
  unfold nv
  rw [List.getElem?_map, show ((-1 : Int) + (l.length : Int)).toNat = l.length - 1 by omega, ← List.getLast?_eq_getElem?, hp1]
  rfl
theorem atI_end {l : List Nat} {p : Nat} : atI (nv (l ++ [p])) (-1) = some (.int (p : Int)) := by
  unfold atI ixN
  rw [if_neg (by decide), nv_len, List.length_append, if_pos (by simp only [List.length_cons, List.length_nil]; omega)]
  show (nv (l ++ [p]))[((-1 : Int) + ((l.length + 1 : Nat) : Int)).toNat]? = _
  unfold nv
  rw [List.getElem?_map, show ((-1 : Int) + ((l.length + 1 : Nat) : Int)).toNat = l.length by omega, List.getElem?_append_right (Nat.le_refl _), Nat.sub_self]
  rfl
theorem pickP {l : List Nat} {r : Int} (h0 : 0 ≤ r) (h : r < l.length) : ∃ p, p ∈ l ∧ atI (nv l) r = some (.int (p : Int)) := by
  have h2 : r < ((nv l).length : Nat) := by rw [nv_len]; exact h
  refine ⟨l[r.toNat]'(by omega), List.getElem_mem _, ?_⟩
  rw [atI_in h0 h2]
  unfold nv
  rw [List.getElem_map]
theorem MachR.new {B H : Hp} {M : Mad} {g : Gs} {n m : Nat} {l : List (Addr × HO)} {o : HO} {G : Addr → Hp → Prop} (h : MachR B H M g n m l) (k : ∀ p H1, MachR B H1 M g n m ((p, o) :: l) → G p H1) : NewK o H G := fun p hp => k p _ (h.newU hp)
theorem MachR.root {K : PySem.W.Frag} {B H : Hp} {M : Mad} {g : Gs} {n m : Nat} {l : List (Addr × HO)} (h : MachR B H M g n m l) : SqL K H M.m [.ref M.x, .ref M.y, .ref M.c, .ref M.dn, .ref M.st] := by
  obtain ⟨wf, xs, kx, ky, F, L⟩ := h
  unfold machL machRoot at L
  exact L.lstAt (.head _)
theorem MachR.stl {K : PySem.W.Frag} {B H : Hp} {M : Mad} {g : Gs} {n m : Nat} {l : List (Addr × HO)} (h : MachR B H M g n m l) : SqL K H M.st (bv g.fin) := by
  obtain ⟨wf, xs, kx, ky, F, L⟩ := h
  unfold machL machRoot at L
  exact L.lstAt (.tail _ (.tail _ (.tail _ (.head _))))
theorem MachU.toS {B H : Hp} {u : Addr} {c : Nat} {M : Mad} {g : Gs} {n m : Nat} {l : List (Addr × HO)} {x y z : Int} {e : Addr × HO} (h : MachR B H M g n m (e :: (u, .lst [.int x, .int y, .int z]) :: l)) (r : 0 ≤ x ∧ 0 ≤ y ∧ y < 2 ^ 150 ∧ 0 ≤ z ∧ z ≤ (c : Int)) : MachU B H u c M g n m (e :: l) := MachU.to (h.sel (.cons (.tl .hd) .all)) r
def rowN (t : Nat) : List (List V) := (List.range (t + 1)).map fun (r : Nat) => [.int (r : Int), .int ((t : Int) - (r : Int))]
def cellsN (k : Nat) : List (List V) := (List.range k).flatMap rowN
theorem cellsN_succ (k : Nat) : cellsN (k + 1) = cellsN k ++ rowN k := by
  unfold cellsN
  rw [List.range_succ, List.flatMap_append]
  simp only [List.flatMap_cons, List.flatMap_nil, List.append_nil]
theorem Tups.cat {B : Hp} {xs ys : List V} {ts us : List (List V)} (h : Tups B xs ts) (h2 : Tups B ys us) : Tups B (xs ++ ys) (ts ++ us) := by
  refine ⟨by rw [List.length_append, List.length_append, h.1, h2.1], fun i t e => ?_⟩
  by_cases z : i < ts.length
  · rw [List.getElem?_append_left z] at e
    rw [List.getElem?_append_left (by rw [h.1]; exact z)]
    exact h.2 i t e
  · rw [List.getElem?_append_right (by omega)] at e
    rw [List.getElem?_append_right (by rw [h.1]; omega), h.1]
    exact h2.2 _ t e
theorem dbl_take {s : List Nat} {i p : Nat} (h : s[i]? = some p) : dbl (s.take (i + 1)) = dbl (s.take i) ++ [p, p] := by
  unfold dbl
  rw [List.take_add_one, h, List.flatMap_append]
  rfl
theorem dbl_len (s : List Nat) : (dbl s).length = 2 * s.length := by
  unfold dbl
  induction s with
  | nil => rfl
  | cons a r ih => rw [List.flatMap_cons, List.length_append, ih]; simp only [List.length_cons, List.length_nil]; omega
theorem cellsN_len (m : Nat) : 2 * (cellsN m).length = m * (m + 1) := by
  induction m with
  | zero => rfl
  | succ m ih =>
    rw [cellsN_succ, List.length_append]
    have : (rowN m).length = m + 1 := by unfold rowN; rw [List.length_map, List.length_range]
    have e : (m + 1) * (m + 1 + 1) = m * (m + 1) + 2 * (m + 1) := by simp only [Nat.add_mul, Nat.mul_add, Nat.mul_one, Nat.one_mul]; omega
    rw [e, this]; omega
theorem cellsN_at (m : Nat) : ∀ n, n ≤ m → ∀ k, 2 * k < n * (n + 1) → ∃ r e : Nat, r + e < n ∧ 2 * k = (r + e) * (r + e + 1) + 2 * r ∧ (cellsN m)[k]? = some [.int (r : Int), .int (e : Int)] := by
  induction m with
  | zero => intro n hn k hk; obtain rfl : n = 0 := by omega
            simp at hk
  | succ m ih =>
    intro n hn k hk
    have keep : (∃ r e : Nat, r + e < n ∧ 2 * k = (r + e) * (r + e + 1) + 2 * r ∧ (cellsN m)[k]? = some [.int (r : Int), .int (e : Int)]) → ∃ r e : Nat, r + e < n ∧ 2 * k = (r + e) * (r + e + 1) + 2 * r ∧ (cellsN (m + 1))[k]? = some [.int (r : Int), .int (e : Int)] := by
      rintro ⟨r, e, h1, h2, h3⟩
      exact ⟨r, e, h1, h2, by rw [cellsN_succ, List.getElem?_append_left (List.getElem?_eq_some_iff.mp h3).1]; exact h3⟩
    by_cases z : n ≤ m
    · exact keep (ih n z k hk)
    · obtain rfl : n = m + 1 := by omega
      by_cases z2 : 2 * k < m * (m + 1)
      · obtain ⟨r, e, h1, h2, h3⟩ := ih m (Nat.le_refl _) k z2
        exact keep ⟨r, e, by omega, h2, h3⟩
      · have cl := cellsN_len m
        have e1 : (m + 1) * (m + 1 + 1) = m * (m + 1) + 2 * (m + 1) := by simp only [Nat.add_mul, Nat.mul_add, Nat.mul_one, Nat.one_mul]; omega
        rw [e1] at hk
        generalize hP : m * (m + 1) = P at *
        refine ⟨k - (cellsN m).length, m - (k - (cellsN m).length), by omega, ?_, ?_⟩
        · rw [show k - (cellsN m).length + (m - (k - (cellsN m).length)) = m by omega, hP]; omega
        · rw [cellsN_succ, List.getElem?_append_right (by omega)]
          unfold rowN
          rw [List.getElem?_map, List.getElem?_range (by omega)]
          show some [V.int _, V.int _] = _
          rw [show ((m : Int) - ((k - (cellsN m).length : Nat) : Int)) = ((m - (k - (cellsN m).length) : Nat) : Int) by omega]
theorem nm_at {r e k : Nat} (h : 2 * k = (r + e) * (r + e + 1) + 2 * r) : nmC (r, e) = (k : Int) := by
  unfold nmC
  dsimp only
  have e1 : ((r : Int) + (e : Int)) * ((r : Int) + (e : Int) + 1) = (((r + e) * (r + e + 1) : Nat) : Int) := by push_cast; rfl
  rw [e1]
  generalize (r + e) * (r + e + 1) = P at *
  omega
theorem nm_lt {c : Cell} {n : Nat} (h : c.1 + c.2 < n) : nmC c < (n : Int) * ((n : Int) + 1) / 2 := by
  unfold nmC
  have e1 : ((c.1 : Int) + (c.2 : Int)) * ((c.1 : Int) + (c.2 : Int) + 1) = (((c.1 + c.2) * (c.1 + c.2 + 1) : Nat) : Int) := by push_cast; rfl
  have e2 : (n : Int) * ((n : Int) + 1) = ((n * (n + 1) : Nat) : Int) := by push_cast; rfl
  have e3 : (c.1 + c.2 + 1) * (c.1 + c.2 + 2) ≤ n * (n + 1) := Nat.mul_le_mul (by omega) (by omega)
  have e4 : (c.1 + c.2 + 1) * (c.1 + c.2 + 2) = (c.1 + c.2) * (c.1 + c.2 + 1) + 2 * (c.1 + c.2 + 1) := by
    generalize c.1 + c.2 = s
    simp only [Nat.add_mul, Nat.mul_add, Nat.mul_one, Nat.one_mul]; omega
  rw [e1, e2]
  rw [e4] at e3
  generalize (c.1 + c.2) * (c.1 + c.2 + 1) = P at *
  generalize n * (n + 1) = Q at *
  omega
theorem RepQ.big {K : PySem.W.Frag} {H : Hp} {i : Int} {G : Str → Prop} (h : i.natAbs < 2 ^ 120) (q : G (PyData.int i).shown) : RepQ K (.int i) H G :=
  ⟨_, .int _, (Shw.int (k := 120) (by decide) (by decide) h).q.up (by decide) (by decide), q⟩
theorem tri_big {x y : Int} (h0 : 0 ≤ x) (h1 : x ≤ 10 ^ 15) (h2 : 0 ≤ y) (h3 : y ≤ 10 ^ 15 + 1) : 0 ≤ x * y / 2 ∧ (x * y / 2).natAbs < 2 ^ 120 := by
  have a : 0 ≤ x * y := Int.mul_nonneg h0 h2
  have b : x * y ≤ 10 ^ 15 * (10 ^ 15 + 1) := Int.mul_le_mul h1 h3 h2 (by decide)
  generalize x * y = z at *
  omega
def iOf : V → Option Int
  | .int i => some i
  | _ => none
theorem names_kind {g : Gs} {n j : Nat} {x : V} (wf : g.Ln n) (h : g.names[j]? = some x) : j < n ∧ ((g.fin[j]? ≠ some true ∧ x = .non) ∨ x = .int (nmC (g.at j))) := by
  have hj : j < n := by rw [← Gs.names_len wf]; exact (List.getElem?_eq_some_iff.mp h).1
  rw [Gs.names_at wf hj] at h
  refine ⟨hj, ?_⟩
  have h := Option.some.inj h
  split at h
  · exact Or.inr h.symm
  · exact Or.inl ⟨by assumption, h.symm⟩
theorem mem_iOf {xs : List V} {i : Int} (h : i ∈ xs.filterMap iOf) : V.int i ∈ xs := by
  obtain ⟨v, hv, e⟩ := List.mem_filterMap.mp h
  cases v <;> first | (cases e; exact hv) | cases e
theorem pop0 {k : Nat} (h : 0 < k) : PySem.seqIndex? 0 k = some 0 := by
  unfold PySem.seqIndex?
  simp [h]
section
variable {P : Program} {w : World} {K : PySem.W.Frag} {mg : Str → Option Value} {bs : Heap} {d : Ad}
/-! cut is_integer -/
def sp_is_integer (K : PySem.W.Frag) : Sp := fun vs H Q _ => ∃ a : Int, vs = [.int a] ∧ Q (.bl true) H
theorem ok_is_integer (m : Mo K mg d) (sm : SM bs) : FnOk P w K mg bs CX0 1 d.a_is_integer d.fd_is_integer ["value"] (sp_is_integer K) := by
  refine m.F_is_integer.ok (k := 0) sc_is_integer (fun vs H Q E h => ?_) (fun cdv A fr s H vs Q E hr h => ?_)
  · obtain ⟨a, rfl, q⟩ := h
    rfl
  · obtain ⟨a, rfl, q⟩ := h
    refine ⟨_, (pss_one (ps_ret (pe_and (pe_callB cr_is (by rfl) m.n_isinstance (by decide +kernel) (pa_cons (pv 0) (pa_cons (pe_bltn (v := .ty "int") (by rfl) m.n_int (by decide +kernel) rfl) pa_nil))) (pe_one (pe_not (pe_callB cr_is (by rfl) m.n_isinstance (by decide +kernel) (pa_cons (pv 0) (pa_cons (pe_bltn (v := .ty "bool") (by rfl) m.n_bool (by decide +kernel) rfl) pa_nil)))))))), ?_⟩
    walk_at "vc"
    exact q
/-! cut is_integer_within -/
def sp_is_integer_within (K : PySem.W.Frag) : Sp := fun vs H Q _ => ∃ a lo hi : Int, vs = [.int a, .int lo, .int hi] ∧ Q (.bl (decide (lo ≤ a) && decide (a ≤ hi))) H
theorem ok_is_integer_within (m : Mo K mg d) (sm : SM bs) (G_is_integer : FnOk P w K mg bs CX0 1 d.a_is_integer d.fd_is_integer ["value"] (sp_is_integer K)) : FnOk P w K mg bs CX0 2 d.a_is_integer_within d.fd_is_integer_within ["value", "least", "greatest"] (sp_is_integer_within K) := by
  refine m.F_is_integer_within.ok (k := 1) sc_is_integer_within (fun vs H Q E h => ?_) (fun cdv A fr s H vs Q E hr h => ?_)
  · obtain ⟨a, lo, hi, rfl, q⟩ := h
    rfl
  · obtain ⟨a, lo, hi, rfl, q⟩ := h
    refine ⟨_, (pss_one (ps_ret (pe_and (pe_call G_is_integer (hr.mono (by decide)) (by rfl) m.g_is_integer m.F_is_integer.kp m.b_is_integer .nil pass0 (pa_cons (pv 0) pa_nil)) (pe_one (pe_chain op_le op_le (pv 1) (pv 0) (pv 2)))))), ?_⟩
    walk_at "vc"
    refine ⟨_, rfl, ?_⟩
    walk_at "vc"
    split
    · rename_i h1
      rw [decide_eq_true h1] at q
      exact q
    · rename_i h1
      rw [decide_eq_false h1] at q
      exact q
/-! cut check_count -/
def sp_check_count (K : PySem.W.Frag) : Sp := fun vs H Q _ => ∃ c g : Int, vs = [.int c, .int g] ∧ 1 ≤ c ∧ c ≤ g ∧ Q .non H
theorem ok_check_count (m : Mo K mg d) (sm : SM bs) (G_is_integer_within : FnOk P w K mg bs CX0 2 d.a_is_integer_within d.fd_is_integer_within ["value", "least", "greatest"] (sp_is_integer_within K)) : FnOk P w K mg bs CX0 3 d.a_check_count d.fd_check_count ["count", "greatest"] (sp_check_count K) := by
  refine m.F_check_count.ok (k := 2) sc_check_count (fun vs H Q E h => ?_) (fun cdv A fr s H vs Q E hr h => ?_)
  · obtain ⟨c, g, rfl, h0, h1, q⟩ := h
    rfl
  · obtain ⟨c, g, rfl, h0, h1, q⟩ := h
    refine ⟨_, (pss_one (ps_if (pt_not (pt_val (pe_call G_is_integer_within (hr.mono (by decide)) (by rfl) m.g_is_integer_within m.F_is_integer_within.kp m.b_is_integer_within .nil pass0 (pa_cons (pv 0) (pa_cons pe_int (pa_cons (pv 1) pa_nil))))))
      (pss_one ps_never)
      pss_nil)), ?_⟩
    walk_at "vc"
    refine ⟨_, _, _, rfl, ?_⟩
    walk_at "vc"
    rw [decide_eq_true h0, decide_eq_true h1]
    walk_at "vc"
    exact q
/-! cut cells_before -/
def sp_cells_before (K : PySem.W.Frag) : Sp := fun vs H Q _ => ∃ t : Int, vs = [.int t] ∧ 0 ≤ t ∧ t < 2 ^ 60 ∧ Q (.int (t * (t + 1) / 2)) H
theorem ok_cells_before (m : Mo K mg d) (sm : SM bs) : FnOk P w K mg bs CX0 1 d.a_cells_before d.fd_cells_before ["diagonal"] (sp_cells_before K) := by
  refine m.F_cells_before.ok (k := 0) sc_cells_before (fun vs H Q E h => ?_) (fun cdv A fr s H vs Q E hr h => ?_)
  · obtain ⟨t, rfl, h0, h1, q⟩ := h
    rfl
  · obtain ⟨t, rfl, h0, h1, q⟩ := h
    refine ⟨_, (pss_one (ps_ret (pe_op op_fdiv (pe_op op_mul (pv 0) (pe_op op_add (pv 0) pe_int)) pe_int))), ?_⟩
    walk_at "vc"
    exact ⟨by walk_at "sd", by walk_at "sd", q⟩
/-! cut most_names -/
def sp_most_names (K : PySem.W.Frag) : Sp := fun vs H Q _ => ∃ (n : Int), vs = [.int n] ∧ 1 ≤ n ∧ n ≤ 1000000000000000 ∧ Q (.int (n * (n + 1) / 2)) H
theorem ok_most_names (m : Mo K mg d) (sm : SM bs) (G_check_count : FnOk P w K mg bs CX0 3 d.a_check_count d.fd_check_count ["count", "greatest"] (sp_check_count K)) (G_cells_before : FnOk P w K mg bs CX0 1 d.a_cells_before d.fd_cells_before ["diagonal"] (sp_cells_before K)) : FnOk P w K mg bs CX0 4 d.a_most_names d.fd_most_names ["count"] (sp_most_names K) := by
  obtain ⟨t_GREATEST_COUNT_grid, h_GREATEST_COUNT_grid⟩ := m.mg_GREATEST_COUNT_grid
  refine m.F_most_names.ok (k := 3) sc_most_names (fun vs H Q E h => ?_) (fun cdv A fr s H vs Q E hr h => ?_)
  · obtain ⟨n, rfl, h1, h2, q⟩ := h
    rfl
  · obtain ⟨n, rfl, h1, h2, q⟩ := h
    refine ⟨_, (pss_cons (ps_expr (pe_call G_check_count (hr.mono (by decide)) (by rfl) m.g_check_count m.F_check_count.kp m.b_check_count .nil pass0 (pa_cons (pv 0) (pa_cons (pe_glob (v := .int (1000000000000000)) rfl h_GREATEST_COUNT_grid ⟨_, rfl⟩) pa_nil))))
      (pss_one (ps_ret (pe_call G_cells_before (hr.mono (by decide)) (by rfl) m.g_cells_before m.F_cells_before.kp m.b_cells_before .nil pass0 (pa_cons (pv 0) pa_nil))))), ?_⟩
    walk_at "vc"
    refine ⟨n, _, rfl, h1, h2, ?_⟩
    exact ⟨n, rfl, by omega, by omega, q⟩
/-! cut Walk___init__ -/
def sp_Walk___init__ (K : PySem.W.Frag) (d : Ad) : Sp := fun vs H Q _ => ∃ (B : Hp) (p dx : Addr) (n : Nat) (l : List (Addr × HO)), vs = [.ref p, .int n] ∧ n ≤ 40 ∧ Led B H ((p, .ins d.c_Walk dx []) :: l) ∧ ∀ B' H' W, Same B B' → W.w = p → WalkR d B' H' W (Gs.init n) n [] [] l → Q .non H'
theorem ok_Walk___init__ (m : Mo K mg d) (sm : SM bs) : FnOk P w K mg bs CX0 1 d.a_Walk___init__ d.fd_Walk___init__ ["self", "count"] (sp_Walk___init__ K d) := by
  refine m.F_Walk___init__.ok (k := 0) sc_Walk___init__ (fun vs H Q E h => ?_) (fun cdv A fr s H vs Q E hr h => ?_)
  · obtain ⟨B, p0, dx, n, l, rfl, hn, L, q⟩ := h
    rfl
  · obtain ⟨B, p0, dx, n, l, rfl, hn, L, q⟩ := h
    refine ⟨_, (pss_cons (ps_fld (pv 0) pe_dnewT rfl)
      (pss_cons (ps_fld (pv 0) (pe_op op_rep (pe_lst (pa_cons (pe_tup (pa_cons pe_int (pa_cons pe_int pa_nil))) pa_nil)) (pv 1)) rfl)
      (pss_cons (ps_fld (pv 0) (pe_op op_rep (pe_lst (pa_cons pe_int pa_nil)) (pv 1)) rfl)
      (pss_cons (ps_fld (pv 0) (pe_op op_rep (pe_lst (pa_cons pe_non pa_nil)) (pv 1)) rfl)
      (pss_cons (ps_fld (pv 0) (pe_lst pa_nil) rfl)
      (pss_one (ps_fld (pv 0) (pe_lst pa_nil) rfl))))))), ?_⟩
    walk_at "vc"
    refine NewK.of L fun cl H1 L => ?_
    refine StK.of L (by walk_at "mem") m.C_Walk m.x_Walk_cells (fs' := [("cells", .ref cl)]) (by walk_at "fs") (by walk_at "put") fun H1 L => ?_
    walk_at "sds"
    refine NewK.of L fun t H1 L => ?_
    walk_at "vc"
    walk_at "sds"
    refine NewK.of L fun p1 H1 L => ?_
    refine RptK.of L (by walk_at "mem") (by omega) fun pl H1 L => ?_
    refine StK.of L (by walk_at "mem") m.C_Walk m.x_Walk_places (fs' := [("cells", .ref cl), ("places", .ref pl)]) (by walk_at "fs") (by walk_at "put") fun H1 L => ?_
    refine NewK.of L fun p2 H1 L => ?_
    refine RptK.of L (by walk_at "mem") (by omega) fun dl H1 L => ?_
    refine StK.of L (by walk_at "mem") m.C_Walk m.x_Walk_done (fs' := [("cells", .ref cl), ("places", .ref pl), ("done", .ref dl)]) (by walk_at "fs") (by walk_at "put") fun H1 L => ?_
    refine NewK.of L fun p3 H1 L => ?_
    refine RptK.of L (by walk_at "mem") (by omega) fun nl H1 L => ?_
    refine StK.of L (by walk_at "mem") m.C_Walk m.x_Walk_names (fs' := [("cells", .ref cl), ("places", .ref pl), ("done", .ref dl), ("names", .ref nl)]) (by walk_at "fs") (by walk_at "put") fun H1 L => ?_
    refine NewK.of L fun sl H1 L => ?_
    refine StK.of L (by walk_at "mem") m.C_Walk m.x_Walk_steps (fs' := [("cells", .ref cl), ("places", .ref pl), ("done", .ref dl), ("names", .ref nl), ("steps", .ref sl)]) (by walk_at "fs") (by walk_at "put") fun H1 L => ?_
    refine NewK.of L fun rl H1 L => ?_
    refine StK.of L (by walk_at "mem") m.C_Walk m.x_Walk_reports (fs' := [("cells", .ref cl), ("places", .ref pl), ("done", .ref dl), ("names", .ref nl), ("steps", .ref sl), ("reports", .ref rl)]) (by walk_at "fs") (by walk_at "put") fun H1 L => ?_
    obtain ⟨B2, s2, ht, L⟩ := L.sinkM (p := t) (o := .tup [.int 0, .int 0]) (by walk_at "pick")
    refine q B2 H1 ⟨p0, dx, cl, pl, dl, nl, sl, rl⟩ s2 rfl ⟨Gs.init_wf n, List.replicate n (.ref t), [], [], ⟨?_, Tups.nil _, List.nodup_nil, fun c _ => ⟨rfl, rfl⟩, Nat.le_refl _, fun c hc => ?_, Nat.le_refl _, ?_⟩⟩
    · show Tups B2 _ ((List.replicate n ((0, 0) : Cell)).map cellV)
      rw [List.map_replicate]
      exact Tups.rep ht n
    · rw [List.eq_of_mem_replicate (show c ∈ List.replicate n ((0, 0) : Cell) from hc)]
      exact Nat.le_refl _
    · unfold walkL walkO
      rw [names_init, show nv (Gs.init n).dn = _ from nv_rep n]
      exact L.sel (by walk_at "sel")
/-! cut Splitter_perform -/
def sp_Splitter_perform (K : PySem.W.Frag) (d : Ad) : Sp := fun vs H Q _ => ∃ (B : Hp) (l : List (Addr × HO)) (s dx : Addr) (x : Option Nat) (y : Bool) (p k : Nat), vs = [.ref s, .int p, .int k] ∧ Led B H l ∧ (s, HO.ins d.c_Splitter dx [("writer", wV x), ("closed", .bl y)]) ∈ l ∧ k ≤ 3 ∧
  ∀ H', Led B H' (putL l s (.ins d.c_Splitter dx [("writer", wV (if k = 0 then some p else x)), ("closed", .bl (if k = 2 then true else y))])) →
    Q (if k = 1 ∧ y = true then .str "right" else if k = 3 then (if x = some p then .str "stop" else .str "down") else .non) H'
theorem ok_Splitter_perform (m : Mo K mg d) (sm : SM bs) : FnOk P w K mg bs CX0 1 d.a_Splitter_perform d.fd_Splitter_perform ["self", "process", "done"] (sp_Splitter_perform K d) := by
  refine m.F_Splitter_perform.ok (k := 0) sc_Splitter_perform (fun vs H Q E h => ?_) (fun cdv A fr s H vs Q E hr h => ?_)
  · obtain ⟨B, l, s0, dx, x, y, p, k, rfl, L, hm, hk3, q⟩ := h
    rfl
  · obtain ⟨B, l, s0, dx, x, y, p, k, rfl, L, hm, hk3, q⟩ := h
    refine ⟨_, (pss_cons (ps_if (pt_cmpR op_eq (pv 2) pe_int (nomark _))
      (pss_one (ps_fld (pv 0) (pv 1) rfl))
      (pss_one (ps_if (pt_cmpR op_eq (pv 2) pe_int (nomark _))
      (pss_one (ps_if (pt_val (pe_fld (pv 0) rfl))
      (pss_one (ps_ret pe_str))
      pss_nil))
      (pss_one (ps_if (pt_cmpR op_eq (pv 2) pe_int (nomark _))
      (pss_one (ps_fld (pv 0) pe_bl rfl))
      (pss_one (ps_if (pt_cmpR op_eq (pe_fld (pv 0) rfl) (pv 1) (nomark _))
      (pss_one (ps_ret pe_str))
      (pss_one (ps_ret pe_str)))))))))
      (pss_one (ps_ret pe_non))), ?_⟩
    walk_at "vc"
    have same := putL_same L.nd hm
    have wn : ∀ {P Q : Prop}, (if wV x = .int (p : Int) then P else Q) ↔ (if x = some p then P else Q) := by
      intro P Q
      have : (wV x = .int (p : Int)) ↔ x = some p := by
        cases x with
        | none => simp [wV]
        | some z => simp only [wV, V.int.injEq, Option.some.injEq]; omega
      simp only [this]
    have sw : scal (wV x) (.int (p : Int)) = true := by cases x <;> rfl
    obtain rfl | rfl | rfl | rfl : k = 0 ∨ k = 1 ∨ k = 2 ∨ k = 3 := by omega
    · walk_at "ifs"
      refine StK.ofM L hm m.C_Splitter m.x_Splitter_writer (fs' := [("writer", .int p), ("closed", .bl y)]) (by walk_at "fs") fun H1 L => ?_
      exact q _ L
    · walk_at "ifs"
      refine FldK.of L hm m.C_Splitter m.x_Splitter_closed (v := .bl y) (by walk_at "fs") ?_
      walk_at "vc"
      rw [if_neg (by decide), if_neg (by decide), same] at q
      cases y with
      | true => exact q _ L
      | false => exact q _ L
    · walk_at "ifs"
      refine StK.ofM L hm m.C_Splitter m.x_Splitter_closed (fs' := [("writer", wV x), ("closed", .bl true)]) (by walk_at "fs") fun H1 L => ?_
      exact q _ L
    · walk_at "ifs"
      refine FldK.of L hm m.C_Splitter m.x_Splitter_writer (v := wV x) (by walk_at "fs") ?_
      refine ⟨sw, ?_⟩
      rw [if_neg (by decide), if_neg (by decide), same] at q
      rw [wn]
      split
      · rename_i c
        simp only [c] at q
        exact q _ L
      · rename_i c
        rw [if_neg (by omega), if_pos rfl, if_neg c] at q
        exact q _ L
/-! cut check_coordinate -/
def sp_check_coordinate (K : PySem.W.Frag) : Sp := fun vs H Q _ => ∃ t : Int, vs = [.int t] ∧ 0 ≤ t ∧ t ≤ 10 ^ 15 ∧ Q .non H
theorem ok_check_coordinate (m : Mo K mg d) (sm : SM bs) (G_is_integer_within : FnOk P w K mg bs CX0 2 d.a_is_integer_within d.fd_is_integer_within ["value", "least", "greatest"] (sp_is_integer_within K)) : FnOk P w K mg bs CX0 3 d.a_check_coordinate d.fd_check_coordinate ["value"] (sp_check_coordinate K) := by
  obtain ⟨t_GREATEST_COORDINATE, h_GREATEST_COORDINATE⟩ := m.mg_GREATEST_COORDINATE
  refine m.F_check_coordinate.ok (k := 2) sc_check_coordinate (fun vs H Q E h => ?_) (fun cdv A fr s H vs Q E hr h => ?_)
  · obtain ⟨t, rfl, h0, h1, q⟩ := h
    rfl
  · obtain ⟨t, rfl, h0, h1, q⟩ := h
    refine ⟨_, (pss_one (ps_if (pt_not (pt_val (pe_call G_is_integer_within (hr.mono (by decide)) (by rfl) m.g_is_integer_within m.F_is_integer_within.kp m.b_is_integer_within .nil pass0 (pa_cons (pv 0) (pa_cons pe_int (pa_cons (pe_glob (v := .int (1000000000000000)) rfl h_GREATEST_COORDINATE ⟨_, rfl⟩) pa_nil))))))
      (pss_one ps_never)
      pss_nil)), ?_⟩
    walk_at "vc"
    refine ⟨_, _, _, rfl, ?_⟩
    walk_at "vc"
    rw [decide_eq_true h0, decide_eq_true (show t ≤ 1000000000000000 from h1)]
    walk_at "vc"
    exact q
/-! cut name_of -/
def sp_name_of (K : PySem.W.Frag) : Sp := fun vs H Q _ => ∃ r d : Int, vs = [.int r, .int d] ∧ 0 ≤ r ∧ r ≤ 10 ^ 15 ∧ 0 ≤ d ∧ d ≤ 10 ^ 15 ∧ Q (.int ((r + d) * (r + d + 1) / 2 + r)) H
theorem ok_name_of (m : Mo K mg d) (sm : SM bs) (G_cells_before : FnOk P w K mg bs CX0 1 d.a_cells_before d.fd_cells_before ["diagonal"] (sp_cells_before K)) (G_check_coordinate : FnOk P w K mg bs CX0 3 d.a_check_coordinate d.fd_check_coordinate ["value"] (sp_check_coordinate K)) : FnOk P w K mg bs CX0 4 d.a_name_of d.fd_name_of ["right", "down"] (sp_name_of K) := by
  refine m.F_name_of.ok (k := 3) sc_name_of (fun vs H Q E h => ?_) (fun cdv A fr s H vs Q E hr h => ?_)
  · obtain ⟨r, d', rfl, h0, h1, h2, h3, q⟩ := h
    rfl
  · obtain ⟨r, d', rfl, h0, h1, h2, h3, q⟩ := h
    refine ⟨_, (pss_cons (ps_expr (pe_call G_check_coordinate (hr.mono (by decide)) (by rfl) m.g_check_coordinate m.F_check_coordinate.kp m.b_check_coordinate .nil pass0 (pa_cons (pv 0) pa_nil)))
      (pss_cons (ps_expr (pe_call G_check_coordinate (hr.mono (by decide)) (by rfl) m.g_check_coordinate m.F_check_coordinate.kp m.b_check_coordinate .nil pass0 (pa_cons (pv 1) pa_nil)))
      (pss_one (ps_ret (pe_op op_add (pe_call G_cells_before (hr.mono (by decide)) (by rfl) m.g_cells_before m.F_cells_before.kp m.b_cells_before .nil pass0 (pa_cons (pe_op op_add (pv 0) (pv 1)) pa_nil)) (pv 0)))))), ?_⟩
    walk_at "vc"
    refine ⟨_, rfl, h0, h1, ?_⟩
    walk_at "vc"
    refine ⟨_, rfl, h2, h3, ?_⟩
    walk_at "vc"
    refine ⟨_, rfl, by omega, by omega, ?_⟩
    walk_at "vc"
    exact q
/-! cut Walk__end_in_cell -/
def sp_Walk__end_in_cell (K : PySem.W.Frag) (d : Ad) : Sp := fun vs H Q _ => ∃ (B : Hp) (W : Wad) (g : Gs) (n m b p : Nat) (xs : List V) (cs : List (Cell × Addr × Addr)) (sch : List Nat) (rp : List V) (evs : List (List V)) (l : List (Addr × HO)) (r : Str),
  vs = [.ref W.w, .int p, .str r] ∧ WalkC d B H W g n xs cs sch rp evs m b l ∧ g.Ln n ∧ g.Ok p ∧ b ≤ 1000000 ∧ p < n ∧
  (r = "stop" → ∀ H', WalkC d B H' W { g with fin := g.fin.set p true } n xs cs sch rp evs m b l → Q (.int (nmC (g.at p))) H') ∧
  (r ≠ "stop" → ∀ B' H' xs', Same B B' → let c := if r = "right" then ((g.at p).1 + 1, (g.at p).2) else ((g.at p).1, (g.at p).2 + 1)
    WalkC d B' H' W { g with pos := g.pos.set p c, dn := g.dn.set p 0 } n xs' cs sch rp evs m (b + 1) l → Q (.int (nmC c)) H')
theorem ok_Walk__end_in_cell (m : Mo K mg d) (sm : SM bs) (G_name_of : FnOk P w K mg bs CX0 4 d.a_name_of d.fd_name_of ["right", "down"] (sp_name_of K)) : FnOk P w K mg bs CX0 5 d.a_Walk__end_in_cell d.fd_Walk__end_in_cell ["self", "process", "result"] (sp_Walk__end_in_cell K d) := by
  refine m.F_Walk__end_in_cell.ok (k := 4) sc_Walk__end_in_cell (fun vs H Q E h => ?_) (fun cdv A fr s H vs Q E hr h => ?_)
  · obtain ⟨B, W, g, n, m0, M, p, xs, cs, sch, rp, evs, l, r, rfl, C, wf, ok, hm, hp, q1, q2⟩ := h
    rfl
  · obtain ⟨B, W, g, n, m0, M, p, xs, cs, sch, rp, evs, l, r, rfl, C, wf, ok, hm, hp, q1, q2⟩ := h
    refine ⟨_, (pss_cons (ps_asg (pe_ix ix_list (pe_fld (pv 0) rfl) (pv 1) (fun _ _ => rfl)) (show PG _ _ (gTup K 2 _) from pg_tup (by rfl) (pgs_cons (pg_name (i := 3) sc_Walk__end_in_cell.nd rfl (.inl rfl)) (pgs_cons (pg_name (i := 4) sc_Walk__end_in_cell.nd rfl (.inl rfl)) pgs_nil))))
      (pss_cons (ps_if (pt_cmpR op_eq (pv 2) pe_str (nomark _))
      (pss_cons (ps_asg (pe_call G_name_of (hr.mono (by decide)) (by rfl) m.g_name_of m.F_name_of.kp m.b_name_of .nil pass0 (pa_cons (pv 3) (pa_cons (pv 4) pa_nil))) (pg_sub (pe_fld (pv 0) rfl) (pv 1) set_list))
      (pss_one (ps_ret (pe_ix ix_list (pe_fld (pv 0) rfl) (pv 1) (fun _ _ => rfl)))))
      pss_nil)
      (pss_cons (ps_if (pt_cmpR op_eq (pv 2) pe_str (nomark _))
      (pss_one (ps_aug (i := 3) sc_Walk__end_in_cell.nd rfl (.inl rfl) pe_int ip_add))
      (pss_one (ps_aug (i := 4) sc_Walk__end_in_cell.nd rfl (.inl rfl) pe_int ip_add)))
      (pss_cons (ps_asg (pe_tup (pa_cons (pv 3) (pa_cons (pv 4) pa_nil))) (pg_sub (pe_fld (pv 0) rfl) (pv 1) set_list))
      (pss_cons (ps_asg pe_int (pg_sub (pe_fld (pv 0) rfl) (pv 1) set_list))
      (pss_one (ps_ret (pe_call G_name_of (hr.mono (by decide)) (by rfl) m.g_name_of m.F_name_of.kp m.b_name_of .nil pass0 (pa_cons (pv 3) (pa_cons (pv 4) pa_nil)))))))))), ?_⟩
    have L := C.led
    unfold walkL walkO at L
    obtain ⟨t, hx, ht⟩ := C.sp.spot wf hp
    have hg := Gs.at_get wf hp
    have hb0 := C.bd _ (List.mem_of_getElem? hg)
    have hbd := nm_bd hb0 hm
    walk_at "vc"
    refine FldK.of L (by walk_at "mem") m.C_Walk m.x_Walk_places (v := .ref W.pl) (by walk_at "fs") ?_
    walk_at "vc"
    refine IxLK.of (L.lstAt (by walk_at "mem")) (atI_nat' hx) ?_
    walk_at "vc"
    refine UnpK.of (.inl (.inl (L.sm _ _ ht))) rfl ?_
    unfold cellV
    walk_at "vc"
    by_cases hr : r = Str.ofString "stop"
    · rw [if_pos hr]
      refine ⟨_, _, rfl, hbd.1, hbd.2.1, hbd.2.2.1, hbd.2.2.2, ?_⟩
      have hl := Gs.names_len wf
      refine FldK.of L (by walk_at "mem") m.C_Walk m.x_Walk_names (v := .ref W.nl) (by walk_at "fs") ?_
      walk_at "vc"
      refine SetK.of L (by walk_at "mem") (ixN_nat (by rw [hl]; exact hp)) (by walk_at "put") fun H1 L => ?_
      refine FldK.of L (by walk_at "mem") m.C_Walk m.x_Walk_names (v := .ref W.nl) (by walk_at "fs") ?_
      walk_at "vc"
      refine IxLK.of (L.lstAt (by walk_at "mem")) (atI_nat' (List.getElem?_set_self (by rw [hl]; exact hp))) ?_
      refine q1 hr H1 ⟨C.sp, C.rt, C.nd, C.fr, C.ln, C.bd, C.rn, ?_⟩
      have e : Gs.names { g with fin := g.fin.set p true } = g.names.set p (.int (nmC (g.at p))) := names_stop hg (by rw [wf.lf]; exact hp)
      unfold walkL walkO
      rw [e]
      exact L
    · rw [if_neg hr]
      have fin : ∀ (c : Cell) (B2 H1 : Hp) (xs' : List V), c = (if r = Str.ofString "right" then ((g.at p).1 + 1, (g.at p).2) else ((g.at p).1, (g.at p).2 + 1)) → Same B B2 → Tups B2 xs' ((g.pos.set p c).map cellV) →
          Led B2 H1 ((W.dl, HO.lst (nv (g.dn.set p 0))) :: (W.pl, .lst xs') :: (walkO d W) :: (W.cl, .dT (csK cs)) :: (W.nl, .lst g.names) :: (W.sl, .lst (nv sch)) :: (W.rl, .lst rp) :: (cs.map (splE d g) ++ l)) → Q (.int (nmC c)) H1 := by
        intro c B2 H1 xs' hc s2 ht2 L
        have := q2 hr B2 H1 xs' s2
        dsimp only at this
        rw [← hc] at this
        have hcm : c.1 + c.2 ≤ M + 1 := by
          have := C.bd _ (List.mem_of_getElem? hg)
          rw [hc]
          split <;> (dsimp only; omega)
        refine this ⟨ht2, C.rt.mono s2, C.nd, C.fr, C.ln, fun c' hc' => ?_, C.rn, ?_⟩
        · rcases List.mem_or_eq_of_mem_set hc' with z | z
          · have := C.bd _ z; omega
          · rw [z]; exact hcm
        · unfold walkL
          rw [show Gs.names { g with pos := g.pos.set p c, dn := g.dn.set p 0 } = g.names from names_move ok]
          exact L.sel (.cons (.tl (.tl .hd)) (.cons (.tl (.tl .hd)) (.cons (.tl .hd) (.cons .hd .all))))
      by_cases hr2 : r = Str.ofString "right"
      · rw [if_pos hr2]
        rw [if_pos hr2] at fin
        refine NewK.of L fun t2 H1 L => ?_
        obtain ⟨B2, s2, ht2, L⟩ := L.sink
        refine FldK.of L (by walk_at "mem") m.C_Walk m.x_Walk_places (v := .ref W.pl) (by walk_at "fs") ?_
        walk_at "vc"
        refine SetK.of L (by walk_at "mem") (ixN_nat (List.getElem?_eq_some_iff.mp hx).1) (by walk_at "put") fun H2 L => ?_
        refine FldK.of L (by walk_at "mem") m.C_Walk m.x_Walk_done (v := .ref W.dl) (by walk_at "fs") ?_
        walk_at "vc"
        refine SetK.of L (by walk_at "mem") (ixN_nat (by rw [nv_len, wf.ld]; exact hp)) (by walk_at "put") fun H3 L => ?_
        rw [show (nv g.dn).set p (V.int 0) = nv (g.dn.set p 0) from nv_set _ _ 0] at L
        refine ⟨_, _, rfl, by omega, by omega, hbd.2.2.1, hbd.2.2.2, ?_⟩
        refine fin _ B2 H3 _ rfl s2 ?_ (L.sel (by unfold walkO; walk_at "sel"))
        rw [List.map_set]
        exact (C.sp.mono s2).set p ht2
      · rw [if_neg hr2]
        rw [if_neg hr2] at fin
        refine NewK.of L fun t2 H1 L => ?_
        obtain ⟨B2, s2, ht2, L⟩ := L.sink
        refine FldK.of L (by walk_at "mem") m.C_Walk m.x_Walk_places (v := .ref W.pl) (by walk_at "fs") ?_
        walk_at "vc"
        refine SetK.of L (by walk_at "mem") (ixN_nat (List.getElem?_eq_some_iff.mp hx).1) (by walk_at "put") fun H2 L => ?_
        refine FldK.of L (by walk_at "mem") m.C_Walk m.x_Walk_done (v := .ref W.dl) (by walk_at "fs") ?_
        walk_at "vc"
        refine SetK.of L (by walk_at "mem") (ixN_nat (by rw [nv_len, wf.ld]; exact hp)) (by walk_at "put") fun H3 L => ?_
        rw [show (nv g.dn).set p (V.int 0) = nv (g.dn.set p 0) from nv_set _ _ 0] at L
        refine ⟨_, _, rfl, hbd.1, hbd.2.1, by omega, by omega, ?_⟩
        refine fin _ B2 H3 _ rfl s2 ?_ (L.sel (by unfold walkO; walk_at "sel"))
        rw [List.map_set]
        exact (C.sp.mono s2).set p ht2
/-! cut Splitter___init__ -/
def sp_Splitter___init__ (K : PySem.W.Frag) (d : Ad) : Sp := fun vs H Q _ => ∃ (B : Hp) (s dxs : Addr) (l : List (Addr × HO)), vs = [.ref s] ∧ Led B H ((s, .ins d.c_Splitter dxs []) :: l) ∧ ∀ H', Led B H' ((s, .ins d.c_Splitter dxs [("writer", .non), ("closed", .bl false)]) :: l) → Q .non H'
theorem ok_Splitter___init__ (m : Mo K mg d) (sm : SM bs) : FnOk P w K mg bs CX0 1 d.a_Splitter___init__ d.fd_Splitter___init__ ["self"] (sp_Splitter___init__ K d) := by
  refine m.F_Splitter___init__.ok (k := 0) sc_Splitter___init__ (fun vs H Q E h => ?_) (fun cdv A fr s H vs Q E hr h => ?_)
  · obtain ⟨B, s0, dxs, l, rfl, L, q⟩ := h
    rfl
  · obtain ⟨B, s0, dxs, l, rfl, L, q⟩ := h
    refine ⟨_, (pss_cons (ps_fld (pv 0) pe_non rfl)
      (pss_one (ps_fld (pv 0) pe_bl rfl))), ?_⟩
    walk_at "vc"
    refine StK.of L (by walk_at "mem") m.C_Splitter m.x_Splitter_writer (fs' := [("writer", .non)]) (by walk_at "fs") (by walk_at "put") fun H1 L => ?_
    refine StK.of L (by walk_at "mem") m.C_Splitter m.x_Splitter_closed (fs' := [("writer", .non), ("closed", .bl false)]) (by walk_at "fs") (by walk_at "put") fun H1 L => ?_
    exact q _ L
/-! cut Walk__splitter_at -/
def sp_Walk__splitter_at (K : PySem.W.Frag) (d : Ad) : Sp := fun vs H Q _ => ∃ (B : Hp) (W : Wad) (g : Gs) (n m b : Nat) (xs : List V) (cs : List (Cell × Addr × Addr)) (sch : List Nat) (rp : List V) (evs : List (List V)) (l : List (Addr × HO)) (t : Addr) (c : Cell),
  vs = [.ref W.w, .ref t] ∧ WalkC d B H W g n xs cs sch rp evs m b l ∧ B t = some (.tup (cellV c)) ∧ m ≤ 1000000 ∧ ∀ H' s dx cs', WalkC d B H' W g n xs cs' sch rp evs (m + 1) b l → (c, s, dx) ∈ cs' → Q (.ref s) H'
theorem ok_Walk__splitter_at (m : Mo K mg d) (sm : SM bs) (G_Splitter___init__ : FnOk P w K mg bs CX0 1 d.a_Splitter___init__ d.fd_Splitter___init__ ["self"] (sp_Splitter___init__ K d)) : FnOk P w K mg bs CX0 3 d.a_Walk__splitter_at d.fd_Walk__splitter_at ["self", "place"] (sp_Walk__splitter_at K d) := by
  refine m.F_Walk__splitter_at.ok (k := 2) sc_Walk__splitter_at (fun vs H Q E h => ?_) (fun cdv A fr s H vs Q E hr h => ?_)
  · obtain ⟨B, W, g, n, M, bb, xs, cs, sch, rp, evs, l, t, c, rfl, C, ht, hm, q⟩ := h
    rfl
  · obtain ⟨B, W, g, n, M, bb, xs, cs, sch, rp, evs, l, t, c, rfl, C, ht, hm, q⟩ := h
    refine ⟨_, (pss_cons (ps_if (pt_cmp (pc_dnotin (Nat.lt_of_le_of_lt (Nat.add_le_add_left (by decide) _) hr.units) (pv 1) (pe_fld (pv 0) rfl)))
      (pss_one (ps_dput (Nat.lt_of_le_of_lt (Nat.add_le_add_left (by decide) _) hr.units) (pe_fld (pv 0) rfl) (pv 1) (pe_make0 m.K_Splitter G_Splitter___init__ (hr.mono (by decide)) (by rfl) m.g_Splitter m.b_Splitter___init__ .nil pass0) rfl))
      pss_nil)
      (pss_one (ps_ret (pe_dget (Nat.lt_of_le_of_lt (Nat.add_le_add_left (by decide) _) hr.units) (pe_fld (pv 0) rfl) (pv 1) (fun _ _ => rfl))))), ?_⟩
    have L := C.led
    unfold walkL walkO at L
    walk_at "vc"
    refine FldK.of L (by walk_at "mem") m.C_Walk m.x_Walk_cells (v := .ref W.cl) (by walk_at "fs") ?_
    walk_at "vc"
    refine KinK.t (k := keyC c) L (by walk_at "mem") (L.sm _ _ ht) ?_
    rcases csK_look c cs with ⟨s, dx, h1, h2⟩ | ⟨h1, h2⟩
    · rw [h2]
      walk_at "vc"
      refine FldK.of L (by walk_at "mem") m.C_Walk m.x_Walk_cells (v := .ref W.cl) (by walk_at "fs") ?_
      walk_at "vc"
      refine DGetK.t (k := keyC c) L (by walk_at "mem") (L.sm _ _ ht) h2 ?_
      exact q _ s dx cs ⟨C.sp, C.rt, C.nd, C.fr, by have := C.ln; omega, C.bd, by have := C.rn; omega, C.led⟩ h1
    · rw [h2]
      walk_at "vc"
      refine MkK.of L fun s dx H1 L => ?_
      refine ⟨B, s, dx, _, rfl, L, fun H2 L => ⟨rfl, ?_⟩⟩
      refine FldK.of L (by walk_at "mem") m.C_Walk m.x_Walk_cells (v := .ref W.cl) (by walk_at "fs") ?_
      walk_at "vc"
      refine DPutK.t (k := keyC c) L (by walk_at "mem") (L.sm _ _ ht) (Nat.lt_of_le_of_lt (m := 1000000) (by unfold csK; rw [List.length_map]; have := C.ln; omega) (by decide)) (by walk_at "put") fun H3 L => ?_
      refine FldK.of L (by walk_at "mem") m.C_Walk m.x_Walk_cells (v := .ref W.cl) (by walk_at "fs") ?_
      walk_at "vc"
      have e : putK (csK cs) (keyC c) (V.ref s) = csK (cs ++ [(c, s, dx)]) := by
        rw [putK_new _ h2]
        unfold csK
        rw [List.map_append]
        rfl
      rw [e] at L
      have e2 : valV (csK (cs ++ [(c, s, dx)])) (keyC c) = some (.ref s) := by
        rw [← e, valV_put, if_pos rfl]
      refine DGetK.t (k := keyC c) L (by walk_at "mem") (L.sm _ _ ht) e2 ?_
      obtain ⟨f1, f2⟩ := C.fr c h1
      refine q _ s dx (cs ++ [(c, s, dx)]) ⟨C.sp, C.rt, ?_, fun c2 hc => C.fr c2 fun z => hc (by rw [List.map_append]; exact List.mem_append_left _ z), by rw [List.length_append]; have := C.ln; simp only [List.length_cons, List.length_nil]; omega, C.bd, by have := C.rn; omega, ?_⟩ (List.mem_append_right _ List.mem_cons_self)
      · rw [List.map_append]
        refine List.nodup_append.mpr ⟨C.nd, List.nodup_cons.mpr ⟨List.not_mem_nil, List.nodup_nil⟩, fun a ha b hb z => h1 ?_⟩
        rw [List.mem_singleton.mp hb] at z
        exact (show a = c from z) ▸ ha
      · unfold walkL walkO
        rw [List.map_append]
        have e3 : splE d g (c, s, dx) = (s, .ins d.c_Splitter dx [("writer", .non), ("closed", .bl false)]) := by unfold splE; rw [f1, f2]; rfl
        show Led B H3 (_ :: _ :: _ :: _ :: _ :: _ :: _ :: (List.map (splE d g) cs ++ [splE d g (c, s, dx)] ++ l))
        rw [e3, List.append_assoc]
        exact L.perm (List.perm_middle (l₁ := _ :: _ :: _ :: _ :: _ :: _ :: _ :: List.map (splE d g) cs)).symm
/-! cut Walk_step -/
theorem spl_mem {d : Ad} {W : Wad} {g : Gs} {xs : List V} {cs : List (Cell × Addr × Addr)} {sch : List Nat} {rp : List V} {l : List (Addr × HO)} {e : Cell × Addr × Addr} (h : e ∈ cs) : splE d g e ∈ walkL d W g xs cs sch rp l := by
  unfold walkL
  exact .tail _ (.tail _ (.tail _ (.tail _ (.tail _ (.tail _ (.tail _ (List.mem_append_left _ (List.mem_map_of_mem h))))))))
theorem put_walk {d : Ad} {B H : Hp} {W : Wad} {g g' : Gs} {xs : List V} {cs : List (Cell × Addr × Addr)} {sch : List Nat} {rp : List V} {l : List (Addr × HO)} {c : Cell} {s dx : Addr} (L : Led B H (walkL d W g xs cs sch rp l)) (nd : (cs.map (·.1)).Nodup) (h : (c, s, dx) ∈ cs)
    (hc : ∀ c', c' ≠ c → g'.x c' = g.x c' ∧ g'.y c' = g.y c') (h1 : g'.dn = g.dn) (h2 : g'.names = g.names) : putL (walkL d W g xs cs sch rp l) s (splE d g' (c, s, dx)).2 = walkL d W g' xs cs sch rp l := by
  have LL : Led B H ((walkO d W :: (W.cl, .dT (csK cs)) :: (W.pl, .lst xs) :: (W.dl, .lst (nv g.dn)) :: (W.nl, .lst g.names) :: (W.sl, .lst (nv sch)) :: (W.rl, .lst rp) :: []) ++ (cs.map (splE d g) ++ l)) := L
  obtain ⟨n1, n2⟩ := Led.nd_mid LL
  have hs := n2 _ (List.mem_map_of_mem (f := splE d g) h)
  show putL ((walkO d W :: (W.cl, .dT (csK cs)) :: (W.pl, .lst xs) :: (W.dl, .lst (nv g.dn)) :: (W.nl, .lst g.names) :: (W.sl, .lst (nv sch)) :: (W.rl, .lst rp) :: []) ++ (cs.map (splE d g) ++ l)) s _ = _
  rw [putL_app, putL_app, putL_not (show s ∉ _ from hs.1), putL_not (show s ∉ l.map (·.1) from hs.2), put_spl nd n1 h hc]
  unfold walkL
  rw [h1, h2]
  rfl
def rsV : Rs → V
  | .non => .non
  | .right _ => .str "right"
  | .down _ => .str "down"
  | .stop _ => .str "stop"
theorem res_facts {g : Gs} {p : Nat} {r : Rs} (h : g.res p = r) : match r with
    | .non => True
    | .right c => g.dnAt p = 1 ∧ c = ((g.at p).1 + 1, (g.at p).2) ∧ True
    | .down c => g.dnAt p = 3 ∧ c = ((g.at p).1, (g.at p).2 + 1) ∧ True
    | .stop c => g.dnAt p = 3 ∧ c = g.at p ∧ True := by
  unfold Gs.res at h
  split at h
  · rename_i c; subst h; exact ⟨c.1, rfl, trivial⟩
  · split at h
    · rename_i c
      split at h
      · subst h; exact ⟨c, rfl, trivial⟩
      · subst h; exact ⟨c, rfl, trivial⟩
    · subst h; trivial
theorem Gs.Ln.dnset {g : Gs} {n : Nat} (wf : g.Ln n) (p k : Nat) : Gs.Ln { g with dn := g.dn.set p k } n := ⟨wf.lp, by show (g.dn.set p k).length = n; rw [List.length_set]; exact wf.ld, wf.lf⟩
theorem res_V (g : Gs) (p : Nat) : (if g.dnAt p = 1 ∧ g.y (g.at p) = true then V.str "right" else if g.dnAt p = 3 then (if g.x (g.at p) = some p then V.str "stop" else .str "down") else .non) = rsV (g.res p) := by
  unfold Gs.res
  split
  · rfl
  · split
    · split <;> rfl
    · rfl
def sp_Walk_step (K : PySem.W.Frag) (d : Ad) : Sp := fun vs H Q _ => ∃ (B : Hp) (W : Wad) (g : Gs) (n p : Nat) (sch : List Nat) (evs : List (List V)) (l : List (Addr × HO)), vs = [.ref W.w, .int p] ∧ WalkR d B H W g n sch evs l ∧ g.Ok p ∧ sch.length < 1000000 ∧
  ∀ B' H' v, Same B B' → WalkR d B' H' W (g.step p) n (sch ++ [p]) (evs ++ evT p (resT (g.res p))) l → RV B' v (resT (g.res p)) → Q v H'
theorem ok_Walk_step (m : Mo K mg d) (sm : SM bs) (G_Splitter_perform : FnOk P w K mg bs CX0 1 d.a_Splitter_perform d.fd_Splitter_perform ["self", "process", "done"] (sp_Splitter_perform K d)) (G_Walk__end_in_cell : FnOk P w K mg bs CX0 5 d.a_Walk__end_in_cell d.fd_Walk__end_in_cell ["self", "process", "result"] (sp_Walk__end_in_cell K d)) (G_Walk__splitter_at : FnOk P w K mg bs CX0 3 d.a_Walk__splitter_at d.fd_Walk__splitter_at ["self", "place"] (sp_Walk__splitter_at K d)) : FnOk P w K mg bs CX0 6 d.a_Walk_step d.fd_Walk_step ["self", "process"] (sp_Walk_step K d) := by
  refine m.F_Walk_step.ok (k := 5) sc_Walk_step (fun vs H Q E h => ?_) (fun cdv A fr s H vs Q E hr h => ?_)
  · obtain ⟨B, W, g, n, p, sch, evs, l, rfl, ⟨wf, xs, cs, rp, C⟩, ok, hm, q⟩ := h
    rfl
  · obtain ⟨B, W, g, n, p, sch, evs, l, rfl, ⟨wf, xs, cs, rp, C⟩, ok, hm, q⟩ := h
    refine ⟨_, (pss_cons (ps_asg (pe_meth (pe_meth (pv 0) m.C_Walk m.M_Walk__splitter_at G_Walk__splitter_at (hr.mono (by decide)) m.b_Walk__splitter_at .nil pass0 (pa_cons (pe_ix ix_list (pe_fld (pv 0) rfl) (pv 1) (fun _ _ => rfl)) pa_nil)) m.C_Splitter m.M_Splitter_perform G_Splitter_perform (hr.mono (by decide)) m.b_Splitter_perform .nil pass0 (pa_cons (pv 1) (pa_cons (pe_ix ix_list (pe_fld (pv 0) rfl) (pv 1) (fun _ _ => rfl)) pa_nil))) (pg_name (i := 2) sc_Walk_step.nd rfl (.inl rfl)))
      (pss_cons (ps_expr (pe_bm PySem.F.plainAttrs_list PySem.F.slot_list_append PySem.F.type_list_append mt_append (pe_fld (pv 0) rfl) (pa_cons (pv 1) pa_nil)))
      (pss_cons (ps_augS (pe_fld (pv 0) rfl) (pv 1) pget_list pe_int ip_add set_list)
      (pss_cons (ps_if (pt_cmpR op_isN (pv 2) pe_non (nomark _))
      (pss_one (ps_ret pe_non))
      pss_nil)
      (pss_cons (ps_asg (pe_meth (pv 0) m.C_Walk m.M_Walk__end_in_cell G_Walk__end_in_cell (hr.mono (by decide)) m.b_Walk__end_in_cell .nil pass0 (pa_cons (pv 1) (pa_cons (pv 2) pa_nil))) (pg_name (i := 3) sc_Walk_step.nd rfl (.inl rfl)))
      (pss_cons (ps_expr (pe_bm PySem.F.plainAttrs_list PySem.F.slot_list_append PySem.F.type_list_append mt_append (pe_fld (pv 0) rfl) (pa_cons (pe_tup (pa_cons (pv 1) (pa_cons (pv 2) (pa_cons (pv 3) pa_nil)))) pa_nil)))
      (pss_one (ps_ret (pe_tup (pa_cons (pv 2) (pa_cons (pv 3) pa_nil))))))))))), ?_⟩
    have hp := ok.lt wf
    have L := C.led
    have hrn := C.rn
    unfold walkL walkO at L
    obtain ⟨t, hx, ht⟩ := C.sp.spot wf.toLn hp
    have hg := Gs.at_get wf.toLn hp
    have hk := Gs.dn_get wf.toLn hp
    have hk3 := wf.d3 p ok
    walk_at "vc"
    refine MtK.of L (by walk_at "mem") (by walk_at "fs") ?_
    refine FldK.of L (by walk_at "mem") m.C_Walk m.x_Walk_places (v := .ref W.pl) (by walk_at "fs") ?_
    walk_at "vc"
    refine IxLK.of (L.lstAt (by walk_at "mem")) (atI_nat' hx) ?_
    refine ⟨B, W, g, n, sch.length, sch.length, xs, cs, sch, rp, evs, l, t, g.at p, rfl, C, ht, by omega, fun H1 s dx cs C hcs => ?_⟩
    walk_at "vc"
    have L := C.led
    refine MtK.of (C := d.c_Splitter) L (spl_mem hcs) (by walk_at "fs") ?_
    have LL := L
    unfold walkL walkO at LL
    refine FldK.of LL (by walk_at "mem") m.C_Walk m.x_Walk_done (v := .ref W.dl) (by walk_at "fs") ?_
    walk_at "vc"
    refine IxLK.of (LL.lstAt (by walk_at "mem")) (nv_atI hk) ?_
    refine ⟨B, _, s, dx, g.x (g.at p), g.y (g.at p), p, g.dnAt p, rfl, L, spl_mem hcs, hk3, fun H2 L3 => ?_⟩
    rw [res_V]
    have key := fun (g1 : Gs) (e : (if g.dnAt p = 0 then some p else g.x (g.at p)) = g1.x (g.at p)) (e2 : (if g.dnAt p = 2 then true else g.y (g.at p)) = g1.y (g.at p)) (hc : ∀ c', c' ≠ g.at p → g1.x c' = g.x c' ∧ g1.y c' = g.y c') (h1 : g1.dn = g.dn) (h2 : g1.names = g.names) =>
      (show Led B H2 (walkL d W g1 xs cs sch rp l) by rw [← put_walk L C.nd hcs hc h1 h2]; unfold splE; rw [← e, ← e2]; exact L3)
    have fr1 := fun (g1 : Gs) (hc : ∀ c', c' ≠ g.at p → g1.x c' = g.x c' ∧ g1.y c' = g.y c') => (show ∀ c, c ∉ cs.map (·.1) → g1.x c = none ∧ g1.y c = false from fun c h => by
      have ne : c ≠ g.at p := fun z => h (by rw [z]; exact List.mem_map.mpr ⟨_, hcs, rfl⟩)
      rw [(hc c ne).1, (hc c ne).2]
      exact C.fr c h)
    have hb1 : sch.length < sizeLine := Nat.lt_of_lt_of_le hm (by decide)
    have hdl : p < g.dn.length := by rw [wf.ld]; exact hp
    have wf' := wf.step ok
    have bd1 : (∀ c ∈ (g.step p).pos, c.1 + c.2 ≤ sch.length + 1) → ∀ c ∈ (g.step p).pos, c.1 + c.2 ≤ (sch ++ [p]).length := fun h c hc => by rw [List.length_append]; exact h c hc
    have ls : (sch ++ [p]).length = sch.length + 1 := by rw [List.length_append]; rfl
    have go2 := fun (g1 : Gs) (L : Led B H2 (walkL d W g1 xs cs sch rp l)) (hdn : g1.dn = g.dn) (G : Hp → Prop) (k : ∀ H4, Led B H4 (walkL d W { g1 with dn := g.dn.set p (g.dnAt p + 1) } xs cs (sch ++ [p]) rp l) → G H4) =>
      (show FldK K W.w (Str.ofString "steps") H2 fun v => tyV K "list" v H2 ∧ rAppend v [V.int ↑p] H2 fun x_1 H1 => FldK K W.w (Str.ofString "done") H1 fun v => rIxL K v (V.int ↑p) H1 fun x_2 H3 => ∃ i, x_2 = V.int i ∧ rSetL v (V.int ↑p) (V.int (i + 1)) H3 fun H6 => G H6 by
      unfold walkL walkO at L
      rw [hdn] at L
      refine FldK.of L (by walk_at "mem") m.C_Walk m.x_Walk_steps (v := .ref W.sl) (by walk_at "fs") ?_
      walk_at "vc"
      refine ⟨tyL (L.lstAt (by walk_at "mem")), AppK.of L (by walk_at "mem") (by rw [nv_len]; exact hb1) (by walk_at "put") fun H3 L => ?_⟩
      rw [← nv_app] at L
      refine FldK.of L (by walk_at "mem") m.C_Walk m.x_Walk_done (v := .ref W.dl) (by walk_at "fs") ?_
      walk_at "vc"
      refine IxLK.of (L.lstAt (by walk_at "mem")) (nv_atI hk) ?_
      walk_at "vc"
      refine SetK.of L (by walk_at "mem") (ixN_nat (by rw [nv_len]; exact hdl)) (by walk_at "put") fun H4 L => ?_
      rw [nv_put] at L
      exact k H4 L)
    cases hr : g.res p with
    | non =>
      have e0 : g.step p = { g with dn := g.dn.set p (g.dnAt p + 1), x := if g.dnAt p = 0 then fset g.x (g.at p) (some p) else g.x, y := if g.dnAt p = 2 then fset g.y (g.at p) true else g.y } := by unfold Gs.step; rw [hr]
      have hc : ∀ c', c' ≠ g.at p → (g.step p).x c' = g.x c' ∧ (g.step p).y c' = g.y c' := fun c' h => by
        rw [e0]
        dsimp only
        constructor
        · split
          · unfold fset; rw [if_neg h]
          · rfl
        · split
          · unfold fset; rw [if_neg h]
          · rfl
      have LL := key { g with x := (g.step p).x, y := (g.step p).y } (by
        rw [e0]
        dsimp only
        split
        · unfold fset; rw [if_pos rfl]
        · rfl) (by
        rw [e0]
        dsimp only
        split
        · unfold fset; rw [if_pos rfl]
        · rfl) hc rfl rfl
      refine go2 _ LL rfl _ fun H4 L => ?_
      rw [if_pos (show rsV Rs.non = V.non from rfl)]
      rw [hr] at q
      refine q B H4 .non (Same.refl B) ⟨wf', xs, cs, rp, ⟨?_, ?_, C.nd, fr1 (g.step p) hc, by rw [ls]; exact C.ln, ?_, by rw [ls]; simpa [evT, resT] using C.rn, ?_⟩⟩ rfl
      · rw [e0]; exact C.sp
      · simpa [evT, resT] using C.rt
      · rw [e0, ls]; exact fun c hc => Nat.le_succ_of_le (C.bd c hc)
      · rw [e0] at L ⊢
        exact L
    | right c =>
      obtain ⟨hk1, he, hne⟩ := res_facts hr
      have ce : (if Str.ofString "right" = Str.ofString "right" then ((Gs.at { g with dn := g.dn.set p (g.dnAt p + 1) } p).1 + 1, (Gs.at { g with dn := g.dn.set p (g.dnAt p + 1) } p).2) else ((Gs.at { g with dn := g.dn.set p (g.dnAt p + 1) } p).1, (Gs.at { g with dn := g.dn.set p (g.dnAt p + 1) } p).2 + 1)) = c := by rw [if_pos rfl]; exact he.symm
      have LL := key g (by rw [if_neg (by omega)]) (by rw [if_neg (by omega)]) (fun c' h => ⟨rfl, rfl⟩) rfl rfl
      refine go2 _ LL rfl _ fun H4 L => ?_
      rw [if_neg (by intro z; cases z)]
      have LW := L
      unfold walkL walkO at LW
      refine MtK.of LW (by walk_at "mem") (by walk_at "fs") ?_
      have e0 : g.step p = { g with pos := g.pos.set p c, dn := g.dn.set p 0 } := by unfold Gs.step; rw [hr]
      refine ⟨B, W, { g with dn := g.dn.set p (g.dnAt p + 1) }, n, sch.length + 1, sch.length, p, xs, cs, sch ++ [p], rp, evs, l, _, rfl, ⟨C.sp, C.rt, C.nd, C.fr, C.ln, C.bd, C.rn, L⟩, wf.toLn.dnset p _, ok, by omega, hp, fun z => absurd z (by decide +kernel), fun _ B2 H5 xs' s2 C5 => ?_⟩
      rw [ce] at C5 ⊢
      have L5 := C5.led
      unfold walkL walkO at L5
      refine FldK.of L5 (by walk_at "mem") m.C_Walk m.x_Walk_reports (v := .ref W.rl) (by walk_at "fs") ?_
      walk_at "vc"
      refine ⟨tyL (L5.lstAt (by walk_at "mem")), NewK.of L5 fun t3 H6 L6 => ?_⟩
      obtain ⟨B3, s3, ht3, L6⟩ := L6.sink
      refine AppK.of L6 (by walk_at "mem") (Nat.lt_of_le_of_lt (m := 1000001) (by rw [C.rt.1]; have := C.rn; omega) (by decide)) (by walk_at "put") fun H7 L7 => ?_
      refine NewK.of L7 fun t4 H8 L8 => ?_
      obtain ⟨B4, s4, ht4, L8⟩ := L8.sink
      rw [hr] at q
      refine q B4 H8 (.ref t4) ((s2.trans s3).trans s4) ⟨wf', xs', cs, rp ++ [.ref t3], ⟨?_, ?_, C.nd, ?_, by rw [ls]; exact C.ln, ?_, ?_, ?_⟩⟩ ⟨t4, rfl, ht4⟩
      · rw [e0]; exact (C5.sp.mono s3).mono s4
      · exact ((C5.rt.mono s3).app ht3).mono s4
      · rw [e0]; exact C.fr
      · rw [e0, ls]; exact C5.bd
      · rw [List.length_append, ls]
        exact Nat.succ_le_succ hrn
      · rw [e0]
        have := L8
        rw [show (g.dn.set p (g.dnAt p + 1)).set p 0 = g.dn.set p 0 from List.set_set ..] at this
        exact this
    | down c =>
      obtain ⟨hk1, he, hne⟩ := res_facts hr
      have ce : (if Str.ofString "down" = Str.ofString "right" then ((Gs.at { g with dn := g.dn.set p (g.dnAt p + 1) } p).1 + 1, (Gs.at { g with dn := g.dn.set p (g.dnAt p + 1) } p).2) else ((Gs.at { g with dn := g.dn.set p (g.dnAt p + 1) } p).1, (Gs.at { g with dn := g.dn.set p (g.dnAt p + 1) } p).2 + 1)) = c := by rw [if_neg (by decide +kernel)]; exact he.symm
      have LL := key g (by rw [if_neg (by omega)]) (by rw [if_neg (by omega)]) (fun c' h => ⟨rfl, rfl⟩) rfl rfl
      refine go2 _ LL rfl _ fun H4 L => ?_
      rw [if_neg (by intro z; cases z)]
      have LW := L
      unfold walkL walkO at LW
      refine MtK.of LW (by walk_at "mem") (by walk_at "fs") ?_
      have e0 : g.step p = { g with pos := g.pos.set p c, dn := g.dn.set p 0 } := by unfold Gs.step; rw [hr]
      refine ⟨B, W, { g with dn := g.dn.set p (g.dnAt p + 1) }, n, sch.length + 1, sch.length, p, xs, cs, sch ++ [p], rp, evs, l, _, rfl, ⟨C.sp, C.rt, C.nd, C.fr, C.ln, C.bd, C.rn, L⟩, wf.toLn.dnset p _, ok, by omega, hp, fun z => absurd z (by decide +kernel), fun _ B2 H5 xs' s2 C5 => ?_⟩
      rw [ce] at C5 ⊢
      have L5 := C5.led
      unfold walkL walkO at L5
      refine FldK.of L5 (by walk_at "mem") m.C_Walk m.x_Walk_reports (v := .ref W.rl) (by walk_at "fs") ?_
      walk_at "vc"
      refine ⟨tyL (L5.lstAt (by walk_at "mem")), NewK.of L5 fun t3 H6 L6 => ?_⟩
      obtain ⟨B3, s3, ht3, L6⟩ := L6.sink
      refine AppK.of L6 (by walk_at "mem") (Nat.lt_of_le_of_lt (m := 1000001) (by rw [C.rt.1]; have := C.rn; omega) (by decide)) (by walk_at "put") fun H7 L7 => ?_
      refine NewK.of L7 fun t4 H8 L8 => ?_
      obtain ⟨B4, s4, ht4, L8⟩ := L8.sink
      rw [hr] at q
      refine q B4 H8 (.ref t4) ((s2.trans s3).trans s4) ⟨wf', xs', cs, rp ++ [.ref t3], ⟨?_, ?_, C.nd, ?_, by rw [ls]; exact C.ln, ?_, ?_, ?_⟩⟩ ⟨t4, rfl, ht4⟩
      · rw [e0]; exact (C5.sp.mono s3).mono s4
      · exact ((C5.rt.mono s3).app ht3).mono s4
      · rw [e0]; exact C.fr
      · rw [e0, ls]; exact C5.bd
      · rw [List.length_append, ls]
        exact Nat.succ_le_succ hrn
      · rw [e0]
        have := L8
        rw [show (g.dn.set p (g.dnAt p + 1)).set p 0 = g.dn.set p 0 from List.set_set ..] at this
        exact this
    | stop c =>
      obtain ⟨hk1, he, hne⟩ := res_facts hr
      have LL := key g (by rw [if_neg (by omega)]) (by rw [if_neg (by omega)]) (fun c' h => ⟨rfl, rfl⟩) rfl rfl
      refine go2 _ LL rfl _ fun H4 L => ?_
      rw [if_neg (by intro z; cases z)]
      have LW := L
      unfold walkL walkO at LW
      refine MtK.of LW (by walk_at "mem") (by walk_at "fs") ?_
      have e0 : g.step p = { g with fin := g.fin.set p true, dn := g.dn.set p 4 } := by unfold Gs.step; rw [hr]
      refine ⟨B, W, { g with dn := g.dn.set p (g.dnAt p + 1) }, n, sch.length + 1, sch.length, p, xs, cs, sch ++ [p], rp, evs, l, _, rfl, ⟨C.sp, C.rt, C.nd, C.fr, C.ln, C.bd, C.rn, L⟩, wf.toLn.dnset p _, ok, by omega, hp, fun _ H5 C5 => ?_, fun z => absurd rfl z⟩
      rw [show g.dnAt p + 1 = 4 by omega] at C5
      have ce : Gs.at { g with dn := g.dn.set p (g.dnAt p + 1) } p = c := he.symm
      rw [ce]
      have L5 := C5.led
      unfold walkL walkO at L5
      refine FldK.of L5 (by walk_at "mem") m.C_Walk m.x_Walk_reports (v := .ref W.rl) (by walk_at "fs") ?_
      walk_at "vc"
      refine ⟨tyL (L5.lstAt (by walk_at "mem")), NewK.of L5 fun t3 H6 L6 => ?_⟩
      obtain ⟨B3, s3, ht3, L6⟩ := L6.sink
      refine AppK.of L6 (by walk_at "mem") (Nat.lt_of_le_of_lt (m := 1000001) (by rw [C.rt.1]; have := C.rn; omega) (by decide)) (by walk_at "put") fun H7 L7 => ?_
      refine NewK.of L7 fun t4 H8 L8 => ?_
      obtain ⟨B4, s4, ht4, L8⟩ := L8.sink
      rw [hr] at q
      refine q B4 H8 (.ref t4) (s3.trans s4) ⟨wf', xs, cs, rp ++ [.ref t3], ⟨?_, ?_, C.nd, ?_, by rw [ls]; exact C.ln, ?_, ?_, ?_⟩⟩ ⟨t4, rfl, ht4⟩
      · rw [e0]; exact (C.sp.mono s3).mono s4
      · exact ((C.rt.mono s3).app ht3).mono s4
      · rw [e0]; exact C.fr
      · rw [e0, ls]; exact fun c hc => Nat.le_succ_of_le (C.bd c hc)
      · rw [List.length_append, ls]
        exact Nat.succ_le_succ hrn
      · rw [e0]
        exact L8
/-! cut Walk_can_step -/
def sp_Walk_can_step (K : PySem.W.Frag) (d : Ad) : Sp := fun vs H Q _ => ∃ (B : Hp) (W : Wad) (g : Gs) (n p : Nat) (sch : List Nat) (evs : List (List V)) (l : List (Addr × HO)), vs = [.ref W.w, .int p] ∧ WalkR d B H W g n sch evs l ∧ p < n ∧ Q (.bl (decide (g.fin[p]? = some false))) H
theorem ok_Walk_can_step (m : Mo K mg d) (sm : SM bs) (G_is_integer_within : FnOk P w K mg bs CX0 2 d.a_is_integer_within d.fd_is_integer_within ["value", "least", "greatest"] (sp_is_integer_within K)) : FnOk P w K mg bs CX0 3 d.a_Walk_can_step d.fd_Walk_can_step ["self", "process"] (sp_Walk_can_step K d) := by
  refine m.F_Walk_can_step.ok (k := 2) sc_Walk_can_step (fun vs H Q E h => ?_) (fun cdv A fr s H vs Q E hr h => ?_)
  · obtain ⟨B, W, g, n, p, sch, evs, l, rfl, ⟨wf, xs, cs, rp, C⟩, hp, q⟩ := h
    rfl
  · obtain ⟨B, W, g, n, p, sch, evs, l, rfl, ⟨wf, xs, cs, rp, C⟩, hp, q⟩ := h
    refine ⟨_, (pss_one (ps_ret (pe_and (pe_call G_is_integer_within (hr.mono (by decide)) (by rfl) m.g_is_integer_within m.F_is_integer_within.kp m.b_is_integer_within .nil pass0 (pa_cons (pv 1) (pa_cons pe_int (pa_cons (pe_op op_sub (pe_callB cr_len (by rfl) m.n_len (by decide +kernel) (pa_cons (pe_fld (pv 0) rfl) pa_nil)) pe_int) pa_nil)))) (pe_one (pe_cmpR op_isN (pe_ix ix_list (pe_fld (pv 0) rfl) (pv 1) (fun _ _ => rfl)) pe_non (nomark _)))))), ?_⟩
    have L := C.led
    unfold walkL walkO at L
    walk_at "vc"
    refine FldK.of L (by walk_at "mem") m.C_Walk m.x_Walk_names (v := .ref W.nl) (by walk_at "fs") ?_
    walk_at "vc"
    refine LenK.ofL (L.lstAt (by walk_at "mem")) ?_
    rw [Gs.names_len wf.toLn]
    walk_at "vc"
    refine ⟨_, _, _, rfl, ?_⟩
    walk_at "vc"
    rw [decide_eq_true (show (0 : Int) ≤ p by omega), decide_eq_true (show (p : Int) ≤ (n : Int) - 1 by omega)]
    walk_at "vc"
    refine FldK.of L (by walk_at "mem") m.C_Walk m.x_Walk_names (v := .ref W.nl) (by walk_at "fs") ?_
    walk_at "vc"
    refine IxLK.of (L.lstAt (by walk_at "mem")) (atI_nat' (Gs.names_at wf.toLn hp)) ?_
    have hf : p < g.fin.length := by rw [wf.lf]; exact hp
    have e : decide ((if g.fin[p]? = some true then V.int (nmC (g.at p)) else V.non) = .non) = decide (g.fin[p]? = some false) := by
      rw [List.getElem?_eq_getElem hf]
      cases g.fin[p] <;> simp
    walk_at "vc"
    rw [e]
    exact q
/-! cut perform_schedule -/
def sp_perform_schedule (K : PySem.W.Frag) (d : Ad) : Sp := fun vs H Q _ => ∃ (B : Hp) (W : Wad) (g : Gs) (n : Nat) (sch0 sch : List Nat) (evs : List (List V)) (l : List (Addr × HO)) (a : Addr), vs = [.ref W.w, .ref a] ∧ WalkR d B H W g n sch0 evs l ∧ (∀ B' H', Same B B' → Led B' H' l → SqL K H' a (nv sch)) ∧ GVal g sch ∧ sch0.length + sch.length ≤ 1000000 ∧
  ∀ B' H', Same B B' → WalkR d B' H' W (g.run sch) n (sch0 ++ sch) (evs ++ evsOf g sch) l → Q .non H'
theorem ok_perform_schedule (m : Mo K mg d) (sm : SM bs) (G_Walk_step : FnOk P w K mg bs CX0 6 d.a_Walk_step d.fd_Walk_step ["self", "process"] (sp_Walk_step K d)) (G_Walk_can_step : FnOk P w K mg bs CX0 3 d.a_Walk_can_step d.fd_Walk_can_step ["self", "process"] (sp_Walk_can_step K d)) : FnOk P w K mg bs CX0 7 d.a_perform_schedule d.fd_perform_schedule ["run", "schedule"] (sp_perform_schedule K d) := by
  refine m.F_perform_schedule.ok (k := 6) sc_perform_schedule (fun vs H Q E h => ?_) (fun cdv A fr s H vs Q E hr h => ?_)
  · obtain ⟨B, W, g, n, sch0, sch, evs, l, a, rfl, R, ha, hv, hm, q⟩ := h
    rfl
  · obtain ⟨B, W, g, n, sch0, sch, evs, l, a, rfl, R, ha, hv, hm, q⟩ := h
    refine ⟨_, (pss_cons (ps_if (pt_not (pt_val (pe_callB cr_is (by rfl) m.n_isinstance (by decide +kernel) (pa_cons (pv 1) (pa_cons (pe_bltn (v := .ty "list") (by rfl) m.n_list (by decide +kernel) rfl) pa_nil)))))
      (pss_one ps_never)
      pss_nil)
      (pss_one (ps_for PassesOwn.never rfl (pi_list (pv 1)) (pg_name (i := 2) sc_perform_schedule.nd rfl (.inl rfl))
      (pss_cons (ps_if (pt_not (pt_val (pe_meth (pv 0) m.C_Walk m.M_Walk_can_step G_Walk_can_step (hr.mono (by decide)) m.b_Walk_can_step .nil pass0 (pa_cons (pv 2) pa_nil))))
      (pss_one ps_never)
      pss_nil)
      (pss_one (ps_expr (pe_meth (pv 0) m.C_Walk m.M_Walk_step G_Walk_step (hr.mono (by decide)) m.b_Walk_step .nil pass0 (pa_cons (pv 2) pa_nil)))))))), ?_⟩
    have lk : ∀ {B1 H1 : Hp} {g1 : Gs} {s1 : List Nat} {e1 : List (List V)}, Same B B1 → WalkR d B1 H1 W g1 n s1 e1 l → SqL K H1 a (nv sch) := by
      rintro B1 H1 g1 s1 e1 s ⟨_, _, _, _, C⟩
      exact ha _ _ s (walk_tail C.led)
    walk_at "vc"
    refine IsK.lstL (b := true) (lk (Same.refl B) R) (by decide +kernel) ?_
    walk_at "vc"
    refine ⟨⟨_, lk (Same.refl B) R⟩, ?_⟩
    refine loop_list (xs := nv sch) (fun i σ H' => ∃ y B', σ = [some (.ref W.w), some (.ref a), y] ∧ Same B B' ∧ WalkR d B' H' W (g.run (sch.take i)) n (sch0 ++ sch.take i) (evs ++ evsOf g (sch.take i)) l) ⟨_, B, rfl, Same.refl B, by
      show WalkR d B H W g n (sch0 ++ []) (evs ++ []) l
      rw [List.append_nil, List.append_nil]
      exact R⟩ (fun i σ H' _ ⟨_, _, _, s, R⟩ => lk s R) (fun i x σ H' N hx h hN => ?_) (fun σ H' h => ?_)
    · obtain ⟨y, B', rfl, sB, R⟩ := h
      obtain ⟨p, hp, rfl⟩ := nv_at hx
      have ok := hv.at hp
      have wf := R.1
      have hpn := ok.lt wf
      have il : i < sch.length := (List.getElem?_eq_some_iff.mp hp).1
      have e1 : g.run (sch.take (i + 1)) = (g.run (sch.take i)).step p := grun_take hp
      have e2 : sch.take (i + 1) = sch.take i ++ [p] := by rw [List.take_add_one, hp]; rfl
      obtain ⟨_, xs, cs, rp, C⟩ := id R
      have L := C.led
      unfold walkL walkO at L
      walk_at "vc"
      refine MtK.of L (by walk_at "mem") (by walk_at "fs") ?_
      refine ⟨B', W, _, n, p, _, _, l, rfl, R, hpn, ?_⟩
      rw [decide_eq_true (show (g.run (sch.take i)).fin[p]? = some false from ok)]
      walk_at "vc"
      refine MtK.of L (by walk_at "mem") (by walk_at "fs") ?_
      refine ⟨B', W, _, n, p, _, _, l, rfl, R, ok, by rw [List.length_append, List.length_take]; omega, fun B2 H2 v s2 R2 _ => ?_⟩
      refine hN _ _ ⟨_, B2, rfl, sB.trans s2, ?_⟩
      rw [e1, e2, evsOf_app, ← List.append_assoc, ← List.append_assoc]
      exact R2
    · obtain ⟨y, B', rfl, sB, R⟩ := h
      walk_at "vc"
      rw [List.take_of_length_le (by rw [nv_len]; omega)] at R
      exact q B' H' sB R
/-! cut walk_after -/
def sp_walk_after (K : PySem.W.Frag) (d : Ad) : Sp := fun vs H Q _ => ∃ (B : Hp) (l : List (Addr × HO)) (n : Nat) (sch : List Nat) (a : Addr), vs = [.int n, .ref a] ∧ Led B H l ∧ 1 ≤ n ∧ n ≤ 40 ∧ (∀ B' H', Same B B' → Led B' H' l → SqL K H' a (nv sch)) ∧ GVal (Gs.init n) sch ∧ sch.length ≤ 1000000 ∧
  ∀ B' H' W, Same B B' → WalkR d B' H' W ((Gs.init n).run sch) n sch (evsOf (Gs.init n) sch) l → Q (.ref W.w) H'
theorem ok_walk_after (m : Mo K mg d) (sm : SM bs) (G_check_count : FnOk P w K mg bs CX0 3 d.a_check_count d.fd_check_count ["count", "greatest"] (sp_check_count K)) (G_Walk___init__ : FnOk P w K mg bs CX0 1 d.a_Walk___init__ d.fd_Walk___init__ ["self", "count"] (sp_Walk___init__ K d)) (G_perform_schedule : FnOk P w K mg bs CX0 7 d.a_perform_schedule d.fd_perform_schedule ["run", "schedule"] (sp_perform_schedule K d)) : FnOk P w K mg bs CX0 8 d.a_walk_after d.fd_walk_after ["count", "schedule"] (sp_walk_after K d) := by
  obtain ⟨t_GREATEST_COUNT_splitters, h_GREATEST_COUNT_splitters⟩ := m.mg_GREATEST_COUNT_splitters
  refine m.F_walk_after.ok (k := 7) sc_walk_after (fun vs H Q E h => ?_) (fun cdv A fr s H vs Q E hr h => ?_)
  · obtain ⟨B, l, n, sch, a, rfl, L, h1, hn, ha, hv, hm, q⟩ := h
    rfl
  · obtain ⟨B, l, n, sch, a, rfl, L, h1, hn, ha, hv, hm, q⟩ := h
    refine ⟨_, (pss_cons (ps_expr (pe_call G_check_count (hr.mono (by decide)) (by rfl) m.g_check_count m.F_check_count.kp m.b_check_count .nil pass0 (pa_cons (pv 0) (pa_cons (pe_glob (v := .int (40)) rfl h_GREATEST_COUNT_splitters ⟨_, rfl⟩) pa_nil))))
      (pss_cons (ps_asg (pe_make m.K_Walk G_Walk___init__ (hr.mono (by decide)) (by rfl) m.g_Walk m.b_Walk___init__ .nil pass0 (pa_cons (pv 0) pa_nil)) (pg_name (i := 2) sc_walk_after.nd rfl (.inl rfl)))
      (pss_cons (ps_expr (pe_call G_perform_schedule (hr.mono (by decide)) (by rfl) m.g_perform_schedule m.F_perform_schedule.kp m.b_perform_schedule .nil pass0 (pa_cons (pv 2) (pa_cons (pv 1) pa_nil))))
      (pss_one (ps_ret (pv 2)))))), ?_⟩
    walk_at "vc"
    refine ⟨_, _, rfl, by omega, by omega, ?_⟩
    walk_at "vc"
    refine MkK.of L fun x dx H1 L => ?_
    refine ⟨B, x, dx, n, l, rfl, hn, L, fun B2 H2 W s2 hW R => ⟨rfl, ?_⟩⟩
    subst hW
    refine ⟨B2, W, _, n, [], sch, [], l, a, rfl, R, fun B' H' s L => ha B' H' (s2.trans s) L, hv, by simpa using hm, fun B3 H3 s3 R3 => ?_⟩
    walk_at "vc"
    exact q B3 H3 W (s2.trans s3) R3
/-! cut names_after -/
def sp_names_after (K : PySem.W.Frag) (d : Ad) : Sp := fun vs H Q _ => ∃ (n : Nat) (sch : List Nat) (a : Addr), vs = [.int n, .ref a] ∧ 1 ≤ n ∧ n ≤ 40 ∧ SqL K H a (nv sch) ∧ GVal (Gs.init n) sch ∧ sch.length ≤ 1000000 ∧
  ∀ H' p, Led H H' [(p, .lst ((Gs.init n).run sch).names)] → Q (.ref p) H'
theorem ok_names_after (m : Mo K mg d) (sm : SM bs) (G_walk_after : FnOk P w K mg bs CX0 8 d.a_walk_after d.fd_walk_after ["count", "schedule"] (sp_walk_after K d)) : FnOk P w K mg bs CX0 9 d.a_names_after d.fd_names_after ["count", "schedule"] (sp_names_after K d) := by
  refine m.F_names_after.ok (k := 8) sc_names_after (fun vs H Q E h => ?_) (fun cdv A fr s H vs Q E hr h => ?_)
  · obtain ⟨n, sch, a, rfl, h1, hn, ha, hv, hm, q⟩ := h
    rfl
  · obtain ⟨n, sch, a, rfl, h1, hn, ha, hv, hm, q⟩ := h
    refine ⟨_, (pss_one (ps_ret (pe_fld (pe_call G_walk_after (hr.mono (by decide)) (by rfl) m.g_walk_after m.F_walk_after.kp m.b_walk_after .nil pass0 (pa_cons (pv 0) (pa_cons (pv 1) pa_nil))) rfl))), ?_⟩
    walk_at "vc"
    refine ⟨H, [], n, sch, a, rfl, Led.nil H, h1, hn, fun B' H' s L => L.seq (s.seq ha), hv, hm, fun B2 H2 W s2 R => ?_⟩
    obtain ⟨_, xs, cs, rp, C⟩ := R
    have L := C.led
    unfold walkL walkO at L
    walk_at "vc"
    refine FldK.of L (by walk_at "mem") m.C_Walk m.x_Walk_names (v := .ref W.nl) (by walk_at "fs") ?_
    exact q H2 W.nl ((L.sel (l' := [(W.nl, HO.lst ((Gs.init n).run sch).names)]) (by walk_at "sel")).base s2)
/-! cut law_cells -/
def sp_law_cells (K : PySem.W.Frag) : Sp := fun vs H Q _ => ∃ (B : Hp) (l : List (Addr × HO)), vs = [.int 29] ∧ Led B H l ∧ ∀ B' H' a xs, Same B B' → Led B' H' ((a, .lst xs) :: l) → Tups B' xs (cellsN 29) → Q (.ref a) H'
theorem ok_law_cells (m : Mo K mg d) (sm : SM bs) : Fg P w K mg bs CX0 1 d.a_law_cells d.fd_law_cells ["diagonals"] (sp_law_cells K) := by
  refine ok (n := 0) m.F_law_cells sc_law_cells (fun vs H Q E h => ?_) (fun cdv A fr s H vs Q E hg hr h => ?_)
  · obtain ⟨B, l, rfl, L, q⟩ := h
    rfl
  · obtain ⟨B, l, rfl, L, q⟩ := h
    refine ⟨_, (pss_cons (ps_asg (pe_lst pa_nil) (pg_name (i := 1) sc_law_cells.nd rfl (.inl rfl)))
      (pss_cons (ps_for PassesOwn.never rfl (pi_range1 (by rfl) m.n_range (pa_cons (pv 0) pa_nil)) (pg_name (i := 2) sc_law_cells.nd rfl (.inr rfl))
      (pss_one (ps_expr (pe_bm PySem.F.plainAttrs_list PySem.F.slot_list_extend PySem.F.type_list_extend mt_extend (pv 1) (pa_cons (pe_lc (own := [("right", 3)]) (by rfl) sc_law_cells.nd (pi_range1 (by rfl) m.n_range (pa_cons (pe_op op_add (pv 2) pe_int) pa_nil)) (blkOk_by (own := [("right", 3)]) (N := ["diagonals", "found", "diagonal", "right"]) (sc := defScope s_law_cells) (by decide +kernel)) (fun _ _ _ _ _ => by exact (pg_name (i := 3) sc_law_cells.nd rfl (.inl rfl))) (fun _ _ _ _ _ => by exact pts_nil) (fun _ _ _ _ _ => by exact (pe_tup (pa_cons (pv 3) (pa_cons (pe_op op_sub (pv 2) (pv 3)) pa_nil))))) pa_nil)))))
      (pss_one (ps_ret (pv 1))))), ?_⟩
    walk_at "vc"
    refine NewK.of L fun p H1 L => ?_
    refine ⟨by decide, by decide, ?_⟩
    refine loop_range (fun i σ H' => ∃ y2 y3 B' xs, σ = [some (.int 29), some (.ref p), y2, y3] ∧ Same B B' ∧ Led B' H' ((p, .lst xs) :: l) ∧ Tups B' xs (cellsN i) ∧ xs.length ≤ i * 40) ⟨_, _, B, [], rfl, Same.refl B, L, Tups.nil B, Nat.zero_le _⟩ (fun i σ H2 N hi h hN => ?_) (fun σ H2 h => ?_)
    · obtain ⟨y2, y3, B2, xs, rfl, s2, L, T, hxl⟩ := h
      have hi9 : i < 29 := hi
      walk_at "vc"
      refine ⟨tyL (L.lstAt (xs := xs) (by walk_at "mem")), by omega, by omega, ?_⟩
      rw [show ((i : Int) + 1).toNat = i + 1 by omega]
      refine comp_range (fun j z acc H' => ∃ B', Same B2 B' ∧ Tups B' acc ((rowN i).take j) ∧ Led B' H' ((z, .lst acc) :: (p, .lst xs) :: l)) (fun z hz => ⟨B2, Same.refl B2, by rw [List.take_zero]; exact Tups.nil _, L.new hz⟩) ?_ ?_
      · rintro z acc H3 ⟨B3, s3, ta, L⟩
        have hrl : (rowN i).length = i + 1 := by unfold rowN; rw [List.length_map, List.length_range]
        rw [List.take_of_length_le (by omega)] at ta
        have hal := ta.1
        rw [hrl] at hal
        refine x_ext.mpr (ExtK.of L (xs := xs) (ys := acc) (by walk_at "mem") (by walk_at "mem") (Nat.le_trans (m := 2000) (by omega) (by decide)) (by walk_at "put") fun H4 L => ?_)
        refine hN _ _ ⟨_, _, B3, xs ++ acc, rfl, s2.trans s3, L.sel (.skip .all), ?_, by rw [List.length_append]; omega⟩
        rw [cellsN_succ]
        exact (T.mono s3).cat ta
      · rintro j z acc H3 N2 hj ⟨B3, s3, ta, L⟩ hN2
        unfold TurnK
        walk_at "vc"
        have hat : (rowN i)[j]? = some [.int (j : Int), .int ((i : Int) - (j : Int))] := by
          unfold rowN
          rw [List.getElem?_map, List.getElem?_range (by omega)]
          rfl
        have hac : acc.length = j := by
          rw [ta.1, List.length_take]
          unfold rowN
          rw [List.length_map, List.length_range]
          omega
        refine NewK.of L fun t H4 L => ?_
        obtain ⟨B4, s4, ht, L⟩ := L.sink
        refine AppK.of L (by walk_at "mem") (Nat.lt_of_lt_of_le (m := 100) (by omega) (by decide)) (by walk_at "put") fun H5 L => hN2 _ _ ⟨B4, s3.trans s4, ?_, L⟩
        rw [List.take_add_one, hat]
        exact (ta.mono s4).app ht
    · obtain ⟨y2, y3, B2, xs, rfl, s2, L, T, hxl⟩ := h
      walk_at "vc"
      exact q B2 H2 p xs s2 L T
/-! cut law_urn -/
def sp_law_urn (K : PySem.W.Frag) : Sp := fun vs H Q _ => ∃ (a : Addr) (ns : List Int) (k : Int), vs = [.ref a, .int k] ∧ SqL K H a (ns.map V.int) ∧ 0 ≤ k ∧ k < 1000 ∧ ∀ p H', Urn H H' p [] 0 → Q (.ref p) H'
theorem ok_law_urn (m : Mo K mg d) (sm : SM bs) : Fg P w K mg bs CX0 1 d.a_law_urn d.fd_law_urn ["script", "k"] (sp_law_urn K) := by
  refine ok (n := 0) m.F_law_urn sc_law_urn (fun vs H Q E h => ?_) (fun cdv A fr s H vs Q E hg hr h => ?_)
  · obtain ⟨a, ns, k, rfl, hS, h0, h1, q⟩ := h
    rfl
  · obtain ⟨a, ns, k, rfl, hS, h0, h1, q⟩ := h
    refine ⟨_, (pss_cons (ps_asg pe_int (pg_name (i := 2) sc_law_urn.nd rfl (.inl rfl)))
      (pss_cons (ps_if (pt_cmpR op_lt (pv 1) (pe_callB cr_len (by rfl) m.n_len (by decide +kernel) (pa_cons (pv 0) pa_nil)) (nomark _))
      (pss_one (ps_asg (pe_ix ix_list (pv 0) (pv 1) (fun _ _ => rfl)) (pg_name (i := 2) sc_law_urn.nd rfl (.inl rfl))))
      pss_nil)
      (pss_one (ps_ret (pe_lst (pa_cons (pe_callB (cr_max2 rfl) (by rfl) m.n_max (by decide +kernel) (pa_cons pe_int (pa_cons (pe_op op_sub (pv 2) (pe_op op_pow pe_int pe_int)) pa_nil))) (pa_cons (pe_op op_add (pe_op op_add (pe_op op_mul (pe_op op_mod (pv 2) (pe_op op_add (pe_op op_pow pe_int pe_int) pe_int)) pe_int) (pe_op op_mul pe_int (pv 1))) pe_int) (pa_cons pe_int pa_nil)))))))), ?_⟩
    walk_at "vc"
    refine LenK.ofL hS ?_
    walk_at "vc"
    split
    · obtain ⟨n, _, hn⟩ := atI_map h0 ‹_›
      refine IxLK.of hS hn ?_
      walk_at "vc"
      walk_at "sds"
      exact NewK.of (Led.nil H) fun p H1 L => q p H1 ⟨_, _, _, L, by omega, by omega, by omega, by omega, by omega⟩
    · walk_at "sds"
      exact NewK.of (Led.nil H) fun p H1 L => q p H1 ⟨_, _, _, L, by omega, by omega, by omega, by omega, by omega⟩
/-! cut law_dip -/
def sp_law_dip (K : PySem.W.Frag) : Sp := fun vs H Q _ => ∃ (B : Hp) (u : Addr) (l : List (Addr × HO)) (c : Nat) (n : Int), vs = [.ref u, .int n] ∧ Urn B H u l c ∧ c < 1000000 ∧ 0 < n ∧ n < 2 ^ 200 ∧
  ∀ H' r, Urn B H' u l (c + 1) → 0 ≤ r → r < n → Q (.int r) H'
theorem dip_go {K : PySem.W.Frag} {B H : Hp} {u : Addr} {l : List (Addr × HO)} {c : Nat} {n : Int} {Q : VK} {E : XK} (U : Urn B H u l c) (hc : c < 1000000) (h0 : 0 < n) (h1 : n < 2 ^ 200) (k : ∀ H' r, Urn B H' u l (c + 1) → 0 ≤ r → r < n → Q (.int r) H') : sp_law_dip K [.ref u, .int n] H Q E :=
  ⟨B, u, l, c, n, rfl, U, hc, h0, h1, k⟩
theorem ok_law_dip (m : Mo K mg d) (sm : SM bs) : Fg P w K mg bs CX0 1 d.a_law_dip d.fd_law_dip ["urn", "size"] (sp_law_dip K) := by
  refine ok (n := 0) m.F_law_dip sc_law_dip (fun vs H Q E h => ?_) (fun cdv A fr s H vs Q E hg hr h => ?_)
  · obtain ⟨B, u, l, c, n, rfl, ⟨x, y, z, L, hx, hy, hy2, hz, hz2⟩, hc, hn, hn2, q⟩ := h
    rfl
  · obtain ⟨B, u, l, c, n, rfl, ⟨x, y, z, L, hx, hy, hy2, hz, hz2⟩, hc, hn, hn2, q⟩ := h
    refine ⟨_, (pss_cons (ps_if (pt_cmpR op_gt (pe_ix ix_list (pv 0) pe_int (fun _ _ => rfl)) pe_int (nomark _))
      (pss_cons (ps_asg (pe_op op_mod (pe_ix ix_list (pv 0) pe_int (fun _ _ => rfl)) (pv 1)) (pg_name (i := 2) sc_law_dip.nd rfl (.inl rfl)))
      (pss_cons (ps_asg (pe_op op_fdivW (pe_ix ix_list (pv 0) pe_int (fun _ _ => rfl)) (pv 1)) (pg_sub (pv 0) pe_int set_list))
      (pss_one (ps_ret (pv 2)))))
      pss_nil)
      (pss_cons (ps_asg (pe_op op_add (pe_ix ix_list (pv 0) pe_int (fun _ _ => rfl)) pe_int) (pg_sub (pv 0) pe_int set_list))
      (pss_cons (ps_asg (pe_op op_mod (pe_op op_powW (pe_op op_add (pe_ix ix_list (pv 0) pe_int (fun _ _ => rfl)) (pe_op op_mul pe_int (pe_ix ix_list (pv 0) pe_int (fun _ _ => rfl)))) pe_int) (pe_op op_add (pe_op op_pow pe_int pe_int) pe_int)) (pg_name (i := 3) sc_law_dip.nd rfl (.inl rfl)))
      (pss_cons (ps_asg (pe_op op_mod (pe_op op_add (pe_op op_mulW (pv 3) (pv 3)) (pe_op op_mul pe_int (pe_ix ix_list (pv 0) pe_int (fun _ _ => rfl)))) (pe_op op_add (pe_op op_pow pe_int pe_int) pe_int)) (pg_name (i := 3) sc_law_dip.nd rfl (.inl rfl)))
      (pss_one (ps_ret (pe_op op_mod (pe_op op_fdivW (pv 3) pe_int) (pv 1)))))))), ?_⟩
    walk_at "vc"
    refine IxLK.of (L.lstAt (by walk_at "mem")) rfl ?_
    walk_at "vc"
    split
    · refine IxLK.of (L.lstAt (by walk_at "mem")) rfl ?_
      walk_at "vc"
      refine ⟨hn, IxLK.of (L.lstAt (by walk_at "mem")) rfl ?_⟩
      walk_at "vc"
      refine ⟨div_w (n := 200) (by decide) hn hn2 (by decide), SetK.of (j := 0) L (by walk_at "mem") rfl (by walk_at "put") fun H1 L1 => ?_⟩
      exact q _ _ ⟨_, _, _, L1, Int.ediv_nonneg hx (by omega), hy, hy2, hz, by omega⟩ (Int.emod_nonneg _ (by omega)) (Int.emod_lt_of_pos _ hn)
    · refine IxLK.of (L.lstAt (by walk_at "mem")) rfl ?_
      walk_at "vc"
      refine SetK.of (j := 2) L (by walk_at "mem") rfl (by walk_at "put") fun H1 L1 => ?_
      refine IxLK.of (L1.lstAt (by walk_at "mem")) rfl ?_
      refine IxLK.of (L1.lstAt (by walk_at "mem")) rfl ?_
      walk_at "vc"
      walk_at "sds"
      refine ⟨(pow_bits (n := 151) (m := 3) (by decide) (by omega) (by omega) (by decide)).2, ?_⟩
      have w0 := Int.emod_nonneg ((y + 3267000013 * (z + 1)) ^ 3) (show (100000000000000000000000000000000000000000031 : Int) ≠ 0 by decide)
      have w1 := Int.emod_lt_of_pos ((y + 3267000013 * (z + 1)) ^ 3) (show (0 : Int) < 100000000000000000000000000000000000000000031 by decide)
      generalize (y + 3267000013 * (z + 1)) ^ 3 % 100000000000000000000000000000000000000000031 = a at *
      walk_at "sds"
      refine ⟨mul_w (n := 147) (by decide) w0 (by omega) w0 (by omega) (by decide), ?_⟩
      refine IxLK.of (L1.lstAt (by walk_at "mem")) rfl ?_
      have w2 : 0 ≤ a * a := Int.mul_nonneg w0 w0
      generalize a * a = b at *
      walk_at "vc"
      walk_at "sds"
      refine ⟨div_w (n := 30) (by decide) (by decide) (by decide) (by decide), hn, ?_⟩
      exact q _ _ ⟨_, _, _, L1, hx, hy, hy2, by omega, by omega⟩ (Int.emod_nonneg _ (by omega)) (Int.emod_lt_of_pos _ hn)
/-! cut law_twice -/
def sp_law_twice (K : PySem.W.Frag) : Sp := fun vs H Q _ => ∃ (B : Hp) (l : List (Addr × HO)) (a : Addr) (s : List Nat), vs = [.ref a] ∧ Led B H l ∧ (∀ B' H', Same B B' → Led B' H' l → SqL K H' a (nv s)) ∧ s.length ≤ 1000 ∧ ∀ H' p, Led B H' ((p, .lst (nv (dbl s))) :: l) → Q (.ref p) H'
theorem ok_law_twice (m : Mo K mg d) (sm : SM bs) : Fg P w K mg bs CX0 1 d.a_law_twice d.fd_law_twice ["row"] (sp_law_twice K) := by
  refine ok (n := 0) m.F_law_twice sc_law_twice (fun vs H Q E h => ?_) (fun cdv A fr s H vs Q E hg hr h => ?_)
  · obtain ⟨B, l, a, s, rfl, L, ha, hl, q⟩ := h
    rfl
  · obtain ⟨B, l, a, s, rfl, L, ha, hl, q⟩ := h
    refine ⟨_, (pss_cons (ps_asg (pe_lst pa_nil) (pg_name (i := 1) sc_law_twice.nd rfl (.inl rfl)))
      (pss_cons (ps_for PassesOwn.never rfl (pi_list (pv 0)) (pg_name (i := 2) sc_law_twice.nd rfl (.inl rfl))
      (pss_one (ps_expr (pe_bm PySem.F.plainAttrs_list PySem.F.slot_list_extend PySem.F.type_list_extend mt_extend (pv 1) (pa_cons (pe_lst (pa_cons (pv 2) (pa_cons (pv 2) pa_nil))) pa_nil)))))
      (pss_one (ps_ret (pv 1))))), ?_⟩
    walk_at "vc"
    refine NewK.of L fun p H1 L => ?_
    refine ⟨⟨_, ha _ _ (Same.refl B) (L.drop (n := 1))⟩, ?_⟩
    refine loop_list (xs := nv s) (fun i σ H' => ∃ y, σ = [some (.ref a), some (.ref p), y] ∧ Led B H' ((p, .lst (nv (dbl (s.take i)))) :: l)) ⟨_, rfl, L⟩ (fun i σ H' _ ⟨_, _, L⟩ => ha _ _ (Same.refl B) (L.drop (n := 1))) (fun i x σ H2 N hx h hN => ?_) (fun σ H2 h => ?_)
    · obtain ⟨y, rfl, L⟩ := h
      obtain ⟨x0, hp, rfl⟩ := nv_at hx
      have il : i < s.length := (List.getElem?_eq_some_iff.mp hp).1
      have dl := dbl_len (s.take i)
      rw [List.length_take] at dl
      walk_at "vc"
      refine ⟨tyL (L.lstAt (xs := nv (dbl (s.take i))) (by walk_at "mem")), ?_⟩
      refine NewK.of L fun p2 H3 L => ?_
      refine ExtK.of L (xs := nv (dbl (s.take i))) (ys := nv [x0, x0]) (by walk_at "mem") (by walk_at "mem") (Nat.le_trans (m := 3000) (by rw [nv_len, nv_len, dl]; show _ + 2 ≤ _; omega) (by decide)) (by walk_at "put") fun H4 L => ?_
      refine hN _ _ ⟨_, rfl, ?_⟩
      rw [dbl_take hp]
      have e : nv (dbl (s.take i) ++ [x0, x0]) = nv (dbl (s.take i)) ++ nv [x0, x0] := by unfold nv; rw [List.map_append]
      rw [e]
      exact L.sel (.skip .all)
    · obtain ⟨y, rfl, L⟩ := h
      rw [nv_len, List.take_of_length_le (Nat.le_refl _)] at L
      walk_at "vc"
      exact q H2 p L
/-! cut law_way -/
def sp_law_way (K : PySem.W.Frag) : Sp := fun vs H Q _ => ∃ (B : Hp) (u a : Addr) (l : List (Addr × HO)) (c n r e : Nat), vs = [.ref u, .ref a] ∧ Urn B H u l c ∧ c ≤ 900000 ∧ SqT K H a [.int (r : Int), .int (e : Int)] ∧ r + e < n ∧ n ≤ 40 ∧
  ∀ H' p sch, Urn B H' u ((p, .lst (nv sch)) :: l) (c + 100) → GVal (Gs.init n) sch → ((Gs.init n).run sch).fin[r + e]? = some true → ((Gs.init n).run sch).at (r + e) = (r, e) → sch.length ≤ 10000 → Q (.ref p) H'
theorem ok_law_way (m : Mo K mg d) (sm : SM bs) (G_law_dip : Fg P w K mg bs CX0 1 d.a_law_dip d.fd_law_dip ["urn", "size"] (sp_law_dip K)) (G_law_twice : Fg P w K mg bs CX0 1 d.a_law_twice d.fd_law_twice ["row"] (sp_law_twice K)) : Fg P w K mg bs CX0 2 d.a_law_way d.fd_law_way ["urn", "cell"] (sp_law_way K) := by
  refine ok (n := 1) m.F_law_way sc_law_way (fun vs H Q E h => ?_) (fun cdv A fr s H vs Q E hg hr h => ?_)
  · obtain ⟨B, u, a, l, c, n, r, e, rfl, U, hc, ha, hn, hn2, q⟩ := h
    rfl
  · obtain ⟨B, u, a, l, c, n, r, e, rfl, U, hc, ha, hn, hn2, q⟩ := h
    refine ⟨_, (pss_cons (ps_asg (pv 1) (show PG _ _ (gTup K 2 _) from pg_tup (by rfl) (pgs_cons (pg_name (i := 2) sc_law_way.nd rfl (.inl rfl)) (pgs_cons (pg_name (i := 3) sc_law_way.nd rfl (.inl rfl)) pgs_nil))))
      (pss_cons (ps_par (i := 4) (j := 5) (by rfl) sc_law_way.nd rfl rfl (by decide) rfl rfl (pa_cons (pe_lst pa_nil) (pa_cons (pe_listRg rfl (by rfl) m.n_list (prg_1 (by rfl) m.n_range (pe_op op_add (pe_op op_add (pv 2) (pv 3)) pe_int))) pa_nil)) (by rfl))
      (pss_cons (ps_for PassesOwn.never rfl (pi_range1 (by rfl) m.n_range (pa_cons (pe_op op_add (pv 2) (pv 3)) pa_nil)) (pg_name (i := 6) sc_law_way.nd rfl (.inl rfl))
      (pss_cons (ps_asg (pe_or (pe_cmpR op_eq (pv 3) pe_int (nomark _)) (pe_one (pe_and (pe_cmpR op_gt (pv 2) pe_int (nomark _)) (pe_one (pe_cmpR op_eq (pg_call G_law_dip hg (hr.mono (by decide)) (by rfl) m.g_law_dip m.F_law_dip.kp m.b_law_dip .nil (fun _ => passG) (pa_cons (pv 0) (pa_cons pe_int pa_nil))) pe_int (nomark _)))))) (pg_name (i := 7) sc_law_way.nd rfl (.inl rfl)))
      (pss_cons (ps_asg (pe_bm PySem.F.plainAttrs_list PySem.F.slot_list_pop PySem.F.type_list_pop mt_popAt (pv 5) (pa_cons pe_int pa_nil)) (pg_name (i := 8) sc_law_way.nd rfl (.inl rfl)))
      (pss_cons (ps_if (pt_not (pt_val (pv 7)))
      (pss_one (ps_asg (pe_op op_cat (pv 4) (pg_call G_law_twice hg (hr.mono (by decide)) (by rfl) m.g_law_twice m.F_law_twice.kp m.b_law_twice .nil (fun _ => passG) (pa_cons (pv 5) pa_nil))) (pg_name (i := 4) sc_law_way.nd rfl (.inl rfl))))
      pss_nil)
      (pss_cons (ps_asg (pe_op op_cat (pe_op op_cat (pv 4) (pe_op op_rep (pe_lst (pa_cons (pv 8) pa_nil)) pe_int)) (pg_call G_law_twice hg (hr.mono (by decide)) (by rfl) m.g_law_twice m.F_law_twice.kp m.b_law_twice .nil (fun _ => passG) (pa_cons (pv 5) pa_nil))) (pg_name (i := 4) sc_law_way.nd rfl (.inl rfl)))
      (pss_one (ps_par (i := 2) (j := 3) (by rfl) sc_law_way.nd rfl rfl (by decide) rfl rfl (pa_cons (pe_op op_sub (pv 2) (pe_callTy cr_intB (by rfl) m.n_int (by decide +kernel) (pa_cons (pv 7) pa_nil))) (pa_cons (pe_op op_sub (pv 3) (pe_callTy cr_intB (by rfl) m.n_int (by decide +kernel) (pa_cons (pe_not (pv 7)) pa_nil))) pa_nil)) (by rfl))))))))
      (pss_one (ps_ret (pe_op op_cat (pv 4) (pe_op op_rep (pv 5) pe_int))))))), ?_⟩
    walk_at "vc"
    refine UnpK.of ha rfl ?_
    walk_at "vc"
    refine U.new fun row H1 U => ?_
    refine ⟨RgOk.of_le (by omega) (by omega) (by omega) (by omega), ?_⟩
    refine U.new fun left H2 U => ?_
    have e2 : rgV 0 ((r : Int) + (e : Int) + 1) = nv (List.range (r + e + 1)) := by
      unfold rgV nv
      rw [show ((r : Int) + (e : Int) + 1 - 0).toNat = r + e + 1 by omega]
      congr 1
      funext i
      rw [Int.zero_add]
    rw [e2] at U
    refine ⟨by omega, by omega, ?_⟩
    refine loop_range (fun i σ H' => ∃ y6 y7 y8 row left r1 e1 sch, σ = [some (.ref u), some (.ref a), some (.int ((r - r1 : Nat) : Int)), some (.int ((e - e1 : Nat) : Int)), some (.ref row), some (.ref left), y6, y7, y8] ∧ r1 ≤ r ∧ e1 ≤ e ∧ r1 + e1 = i ∧ Urn B H' u ((row, .lst (nv sch)) :: (left, .lst (nv ((List.range (r + e + 1)).drop i))) :: l) (c + i) ∧ WayI n sch ((List.range (r + e + 1)).drop i) (r1, e1) ∧ sch.length ≤ i * 200)
      ⟨_, _, _, row, left, 0, 0, [], rfl, Nat.zero_le _, Nat.zero_le _, rfl, U.sel (.cons (.tl .hd) .all), WayI.init hn, Nat.zero_le _⟩ (fun i σ H3 N hi h hN => ?_) (fun σ H3 h => ?_)
    · obtain ⟨y6, y7, y8, row, left, r1, e1, sch, rfl, hr1, he1, hi1, U, W, hsl⟩ := h
      have hi2 : i < r + e := by omega
      have hcons : (List.range (r + e + 1)).drop i = i :: (List.range (r + e + 1)).drop (i + 1) := by
        rw [List.drop_eq_getElem_cons (by rw [List.length_range]; omega), List.getElem_range]
      have hlen : ((List.range (r + e + 1)).drop (i + 1)).length ≤ 40 := by rw [List.length_drop, List.length_range]; omega
      rw [hcons] at U W
      have dl := dbl_len ((List.range (r + e + 1)).drop (i + 1))
      generalize hrest : (List.range (r + e + 1)).drop (i + 1) = rest at U W hlen hN dl
      walk_at "vc"
      by_cases z0 : e = e1
      · rw [if_pos (by omega)]
        have hlt : r1 < r := by omega
        refine ⟨tyL (U.led.lstAt (xs := nv (i :: rest)) (by walk_at "mem")), ?_⟩
        refine ⟨left, nv (i :: rest), 0, 0, .int (i : Int), rfl, rfl, U.led.at (by walk_at "mem"), by decide, by decide, pop0 (by rw [nv_len]; exact Nat.succ_pos _), rfl, ?_⟩
        have U := U.put (p := left) (o := .lst (nv rest)) (.tl .hd)
        refine U.new fun p1 H5 U => ?_
        refine U.rptK (n := 4) (v := .int (i : Int)) (by walk_at "mem") (by decide) fun p2 H6 U => ?_
        refine U.catK (xs := nv sch) (ys := List.replicate 4 (.int (i : Int))) (by walk_at "mem") (by walk_at "mem") (Nat.le_trans (m := 20000) (by rw [nv_len, List.length_replicate]; omega) (by decide)) fun p3 H7 U => ?_
        obtain ⟨x9, y9, z9, L, hur⟩ := U
        refine ⟨B, _, left, rest, rfl, L, fun B' H' s L => L.lstAt (xs := nv rest) (by walk_at "mem"), by omega, fun H8 p4 L => ?_⟩
        walk_at "vc"
        refine CatK.of L (xs := nv sch ++ List.replicate 4 (.int (i : Int))) (ys := nv (dbl rest)) (by walk_at "mem") (by walk_at "mem") (Nat.le_trans (m := 20000) (by rw [List.length_append, nv_len, nv_len, List.length_replicate, dl]; omega) (by decide)) fun p5 H9 L => ?_
        have en : nv sch ++ List.replicate 4 (.int (i : Int)) ++ nv (dbl rest) = nv (sch ++ ([i, i, i, i] ++ dbl rest)) := by unfold nv; rw [List.map_append, List.map_append, List.append_assoc]; rfl
        rw [en] at L
        rw [show ((r - r1 : Nat) : Int) - 1 = ((r - (r1 + 1) : Nat) : Int) by omega, Int.sub_zero]
        refine hN _ _ ⟨_, _, _, p5, left, r1 + 1, e1, _, rfl, by omega, by omega, by omega, ⟨x9, y9, z9, L.sel (.cons (.tl (.tl .hd)) (.cons .hd (.skip (.skip (.skip (.skip (.cons (.tl .hd) (.skip .all)))))))), by omega⟩, W.right, ?_⟩
        simp only [List.length_append, List.length_cons, List.length_nil, dl]
        omega
      · rw [if_neg (by omega)]
        by_cases z1 : r1 < r
        · have hlt := z1
          rw [if_pos (by omega)]
          refine dip_go U (by omega) (by decide) (by decide) fun H4 way U w0 w1 => ⟨rfl, ?_⟩
          by_cases z2 : way = 0
          · subst z2
            walk_at "vc"
            refine ⟨tyL (U.led.lstAt (xs := nv (i :: rest)) (by walk_at "mem")), ?_⟩
            refine ⟨left, nv (i :: rest), 0, 0, .int (i : Int), rfl, rfl, U.led.at (by walk_at "mem"), by decide, by decide, pop0 (by rw [nv_len]; exact Nat.succ_pos _), rfl, ?_⟩
            have U := U.put (p := left) (o := .lst (nv rest)) (.tl .hd)
            refine U.new fun p1 H5 U => ?_
            refine U.rptK (n := 4) (v := .int (i : Int)) (by walk_at "mem") (by decide) fun p2 H6 U => ?_
            refine U.catK (xs := nv sch) (ys := List.replicate 4 (.int (i : Int))) (by walk_at "mem") (by walk_at "mem") (Nat.le_trans (m := 20000) (by rw [nv_len, List.length_replicate]; omega) (by decide)) fun p3 H7 U => ?_
            obtain ⟨x9, y9, z9, L, hur⟩ := U
            refine ⟨B, _, left, rest, rfl, L, fun B' H' s L => L.lstAt (xs := nv rest) (by walk_at "mem"), by omega, fun H8 p4 L => ?_⟩
            walk_at "vc"
            refine CatK.of L (xs := nv sch ++ List.replicate 4 (.int (i : Int))) (ys := nv (dbl rest)) (by walk_at "mem") (by walk_at "mem") (Nat.le_trans (m := 20000) (by rw [List.length_append, nv_len, nv_len, List.length_replicate, dl]; omega) (by decide)) fun p5 H9 L => ?_
            have en : nv sch ++ List.replicate 4 (.int (i : Int)) ++ nv (dbl rest) = nv (sch ++ ([i, i, i, i] ++ dbl rest)) := by unfold nv; rw [List.map_append, List.map_append, List.append_assoc]; rfl
            rw [en] at L
            rw [show ((r - r1 : Nat) : Int) - 1 = ((r - (r1 + 1) : Nat) : Int) by omega, Int.sub_zero]
            refine hN _ _ ⟨_, _, _, p5, left, r1 + 1, e1, _, rfl, by omega, by omega, by omega, ⟨x9, y9, z9, L.sel (.cons (.tl (.tl .hd)) (.cons .hd (.skip (.skip (.skip (.skip (.cons (.tl .hd) (.skip .all)))))))), by omega⟩, W.right, ?_⟩
            simp only [List.length_append, List.length_cons, List.length_nil, dl]
            omega
          · have ne : ¬ V.int way = V.int 0 := fun w => z2 (by injection w)
            have helt : e1 < e := by omega
            rw [decide_eq_false ne, if_neg ne]
            walk_at "vc"
            refine ⟨tyL (U.led.lstAt (xs := nv (i :: rest)) (by walk_at "mem")), ?_⟩
            refine ⟨left, nv (i :: rest), 0, 0, .int (i : Int), rfl, rfl, U.led.at (by walk_at "mem"), by decide, by decide, pop0 (by rw [nv_len]; exact Nat.succ_pos _), rfl, ?_⟩
            have U := U.put (p := left) (o := .lst (nv rest)) (.tl .hd)
            obtain ⟨x8, y8', z8, L, hur⟩ := U
            refine ⟨B, _, left, rest, rfl, L, fun B' H' s L => L.lstAt (xs := nv rest) (by walk_at "mem"), by omega, fun H5 p0 L => ?_⟩
            walk_at "vc"
            refine CatK.of L (xs := nv sch) (ys := nv (dbl rest)) (by walk_at "mem") (by walk_at "mem") (Nat.le_trans (m := 20000) (by rw [nv_len, nv_len, dl]; omega) (by decide)) fun row2 H6 L => ?_
            refine NewK.of L fun p1 H7 L => ?_
            refine RptK.of (n := 4) (v := .int (i : Int)) L (by walk_at "mem") (by decide) fun p2 H8 L => ?_
            refine CatK.of L (xs := nv sch ++ nv (dbl rest)) (ys := List.replicate 4 (.int (i : Int))) (by walk_at "mem") (by walk_at "mem") (Nat.le_trans (m := 20000) (by rw [List.length_append, nv_len, nv_len, List.length_replicate, dl]; omega) (by decide)) fun row3 H9 L => ?_
            refine ⟨B, _, left, rest, rfl, L, fun B' H' s L => L.lstAt (xs := nv rest) (by walk_at "mem"), by omega, fun H10 p4 L => ?_⟩
            walk_at "vc"
            refine CatK.of L (xs := nv sch ++ nv (dbl rest) ++ List.replicate 4 (.int (i : Int))) (ys := nv (dbl rest)) (by walk_at "mem") (by walk_at "mem") (Nat.le_trans (m := 20000) (by rw [List.length_append, List.length_append, nv_len, nv_len, List.length_replicate, dl]; omega) (by decide)) fun p5 H11 L => ?_
            have en : nv sch ++ nv (dbl rest) ++ List.replicate 4 (.int (i : Int)) ++ nv (dbl rest) = nv ((sch ++ dbl rest) ++ ([i, i, i, i] ++ dbl rest)) := by unfold nv; rw [List.map_append, List.map_append, List.map_append, List.append_assoc]; rfl
            rw [en] at L
            rw [show ((e - e1 : Nat) : Int) - 1 = ((e - (e1 + 1) : Nat) : Int) by omega, Int.sub_zero]
            refine hN _ _ ⟨_, _, _, p5, left, r1, e1 + 1, _, rfl, by omega, by omega, by omega, ⟨x8, y8', z8, L.sel (.cons (.tl (.tl (.tl (.tl (.tl (.tl (.tl .hd))))))) (.cons .hd (.skip (.skip (.skip (.skip (.skip (.skip (.skip .all))))))))), by omega⟩, W.down, ?_⟩
            simp only [List.length_append, List.length_cons, List.length_nil, dl]
            omega
        · rw [if_neg (by omega)]
          have helt : e1 < e := by omega
          refine ⟨tyL (U.led.lstAt (xs := nv (i :: rest)) (by walk_at "mem")), ?_⟩
          refine ⟨left, nv (i :: rest), 0, 0, .int (i : Int), rfl, rfl, U.led.at (by walk_at "mem"), by decide, by decide, pop0 (by rw [nv_len]; exact Nat.succ_pos _), rfl, ?_⟩
          have U := U.put (p := left) (o := .lst (nv rest)) (.tl .hd)
          obtain ⟨x8, y8', z8, L, hur⟩ := U
          refine ⟨B, _, left, rest, rfl, L, fun B' H' s L => L.lstAt (xs := nv rest) (by walk_at "mem"), by omega, fun H5 p0 L => ?_⟩
          walk_at "vc"
          refine CatK.of L (xs := nv sch) (ys := nv (dbl rest)) (by walk_at "mem") (by walk_at "mem") (Nat.le_trans (m := 20000) (by rw [nv_len, nv_len, dl]; omega) (by decide)) fun row2 H6 L => ?_
          refine NewK.of L fun p1 H7 L => ?_
          refine RptK.of (n := 4) (v := .int (i : Int)) L (by walk_at "mem") (by decide) fun p2 H8 L => ?_
          refine CatK.of L (xs := nv sch ++ nv (dbl rest)) (ys := List.replicate 4 (.int (i : Int))) (by walk_at "mem") (by walk_at "mem") (Nat.le_trans (m := 20000) (by rw [List.length_append, nv_len, nv_len, List.length_replicate, dl]; omega) (by decide)) fun row3 H9 L => ?_
          refine ⟨B, _, left, rest, rfl, L, fun B' H' s L => L.lstAt (xs := nv rest) (by walk_at "mem"), by omega, fun H10 p4 L => ?_⟩
          walk_at "vc"
          refine CatK.of L (xs := nv sch ++ nv (dbl rest) ++ List.replicate 4 (.int (i : Int))) (ys := nv (dbl rest)) (by walk_at "mem") (by walk_at "mem") (Nat.le_trans (m := 20000) (by rw [List.length_append, List.length_append, nv_len, nv_len, List.length_replicate, dl]; omega) (by decide)) fun p5 H11 L => ?_
          have en : nv sch ++ nv (dbl rest) ++ List.replicate 4 (.int (i : Int)) ++ nv (dbl rest) = nv ((sch ++ dbl rest) ++ ([i, i, i, i] ++ dbl rest)) := by unfold nv; rw [List.map_append, List.map_append, List.map_append, List.append_assoc]; rfl
          rw [en] at L
          rw [show ((e - e1 : Nat) : Int) - 1 = ((e - (e1 + 1) : Nat) : Int) by omega, Int.sub_zero]
          refine hN _ _ ⟨_, _, _, p5, left, r1, e1 + 1, _, rfl, by omega, by omega, by omega, ⟨x8, y8', z8, L.sel (.cons (.tl (.tl (.tl (.tl (.tl (.tl (.tl .hd))))))) (.cons .hd (.skip (.skip (.skip (.skip (.skip (.skip (.skip .all))))))))), by omega⟩, W.down, ?_⟩
          simp only [List.length_append, List.length_cons, List.length_nil, dl]
          omega
    · obtain ⟨y6, y7, y8, row, left, r1, e1, sch, rfl, hr1, he1, hi1, U, W, hsl⟩ := h
      have hi2 : r1 + e1 = r + e := by omega
      have hlast : (List.range (r + e + 1)).drop (((r : Int) + (e : Int)).toNat) = [r + e] := by
        rw [show ((r : Int) + (e : Int)).toNat = r + e by omega, List.range_succ]
        exact List.drop_left' List.length_range
      obtain rfl : r1 = r := by omega
      obtain rfl : e1 = e := by omega
      rw [hlast] at U W
      walk_at "vc"
      refine U.rptK (n := 4) (v := .int ((r1 + e1 : Nat) : Int)) (by walk_at "mem") (by decide) fun p2 H4 U => ?_
      refine U.catK (xs := nv sch) (ys := List.replicate 4 (.int ((r1 + e1 : Nat) : Int))) (by walk_at "mem") (by walk_at "mem") (Nat.le_trans (m := 20000) (by rw [nv_len, List.length_replicate]; omega) (by decide)) fun p3 H5 U => ?_
      have en : nv sch ++ List.replicate 4 (.int ((r1 + e1 : Nat) : Int)) = nv (sch ++ [r1 + e1, r1 + e1, r1 + e1, r1 + e1]) := by unfold nv; rw [List.map_append]; rfl
      rw [en] at U
      obtain ⟨g1, g2, g3⟩ := W.last
      refine q H5 p3 _ ((U.up (by omega)).sel (.cons .hd (.skip (.skip (.skip .all))))) g1 g2 g3 (by rw [List.length_append]; show _ + 4 ≤ _; omega)
/-! cut law_begun -/
def sp_law_begun (K : PySem.W.Frag) : Sp := fun vs H Q _ => ∃ (B : Hp) (l : List (Addr × HO)) (n : Nat), vs = [.int n] ∧ Led B H l ∧ n ≤ 100 ∧ ∀ B' H' M, Same B B' → MachR B' H' M (Gs.init n) n 0 l → Q (.ref M.m) H'
theorem ok_law_begun (m : Mo K mg d) (sm : SM bs) : Fg P w K mg bs CX0 1 d.a_law_begun d.fd_law_begun ["size"] (sp_law_begun K) := by
  refine ok (n := 0) m.F_law_begun sc_law_begun (fun vs H Q E h => ?_) (fun cdv A fr s H vs Q E hg hr h => ?_)
  · obtain ⟨B, l, n, rfl, L, hn, q⟩ := h
    rfl
  · obtain ⟨B, l, n, rfl, L, hn, q⟩ := h
    refine ⟨_, (pss_one (ps_ret (pe_lst (pa_cons pe_dnewT (pa_cons pe_dnewT (pa_cons (pe_op op_rep (pe_lst (pa_cons (pe_tup (pa_cons pe_int (pa_cons pe_int pa_nil))) pa_nil)) (pv 0)) (pa_cons (pe_op op_rep (pe_lst (pa_cons pe_int pa_nil)) (pv 0)) (pa_cons (pe_op op_rep (pe_lst (pa_cons pe_bl pa_nil)) (pv 0)) pa_nil)))))))), ?_⟩
    walk_at "vc"
    refine NewK.of L fun x H1 L => ?_
    refine NewK.of L fun y H1 L => ?_
    walk_at "vc"
    refine NewK.of L fun t H1 L => ?_
    refine NewK.of L fun p1 H1 L => ?_
    refine RptK.of L (by walk_at "mem") (by omega) fun pl H1 L => ?_
    refine NewK.of L fun p2 H1 L => ?_
    refine RptK.of L (by walk_at "mem") (by omega) fun dl H1 L => ?_
    refine NewK.of L fun p3 H1 L => ?_
    refine RptK.of L (by walk_at "mem") (by omega) fun st H1 L => ?_
    walk_at "vc"
    refine NewK.of L fun mm H2 L => ?_
    obtain ⟨B2, s2, ht, L⟩ := L.sinkM (p := t) (o := .tup [.int 0, .int 0]) (by walk_at "pick")
    refine q B2 H2 ⟨mm, pl, dl, st, x, y⟩ s2 ⟨Gs.init_wf n, List.replicate n (.ref t), [], [], ⟨?_, fun c => rfl, fun c => rfl, fun k v z => (by cases z), Nat.le_refl _, Nat.le_refl _, fun c hc => ?_⟩, ?_⟩
    · show Tups B2 _ ((List.replicate n ((0, 0) : Cell)).map cellV)
      rw [List.map_replicate]
      exact Tups.rep ht n
    · rw [List.eq_of_mem_replicate (show c ∈ List.replicate n ((0, 0) : Cell) from hc)]
      exact Nat.le_refl _
    · unfold machL machRoot
      rw [show nv (Gs.init n).dn = _ from nv_rep n, show bv (Gs.init n).fin = List.replicate n (V.bl false) by unfold bv Gs.init; rw [List.map_replicate]]
      exact L.sel (by walk_at "sel")
/-! cut law_gone -/
def goC (g : Gs) (p : Nat) (r : Str) : Cell := if r = "right" then ((g.at p).1 + 1, (g.at p).2) else ((g.at p).1, (g.at p).2 + 1)
def sp_law_gone (K : PySem.W.Frag) : Sp := fun vs H Q _ => ∃ (B : Hp) (M : Mad) (g : Gs) (n m p : Nat) (xs : List V) (kx ky : List (List Key × V)) (l : List (Addr × HO)) (r : Str),
  vs = [.ref M.m, .int p, .str r] ∧ MachF B g xs kx ky m ∧ Led B H (machL M g xs kx ky l) ∧ g.Ln n ∧ p < n ∧ m < 1000000 ∧
  ∀ B' H' xs', Same B B' → MachF B' { g with pos := g.pos.set p (goC g p r), dn := g.dn.set p 0 } xs' kx ky (m + 1) → Led B' H' (machL M { g with pos := g.pos.set p (goC g p r), dn := g.dn.set p 0 } xs' kx ky l) → Q (.str r) H'
theorem ok_law_gone (m : Mo K mg d) (sm : SM bs) : Fg P w K mg bs CX0 1 d.a_law_gone d.fd_law_gone ["state", "who", "way"] (sp_law_gone K) := by
  refine ok (n := 0) m.F_law_gone sc_law_gone (fun vs H Q E h => ?_) (fun cdv A fr s H vs Q E hg hr h => ?_)
  · obtain ⟨B, M, g, n, m0, p, xs, kx, ky, l, r, rfl, F, L, wf, hp, hm, q⟩ := h
    rfl
  · obtain ⟨B, M, g, n, m0, p, xs, kx, ky, l, r, rfl, F, L, wf, hp, hm, q⟩ := h
    refine ⟨_, (pss_cons (ps_par (i := 3) (j := 4) (by rfl) sc_law_gone.nd rfl rfl (by decide) rfl rfl (pa_cons (pe_ix ix_list (pv 0) pe_int (fun _ _ => rfl)) (pa_cons (pe_ix ix_list (pv 0) pe_int (fun _ _ => rfl)) pa_nil)) (by rfl))
      (pss_cons (ps_asg (pe_ix ix_list (pv 3) (pv 1) (fun _ _ => rfl)) (show PG _ _ (gTup K 2 _) from pg_tup (by rfl) (pgs_cons (pg_name (i := 5) sc_law_gone.nd rfl (.inl rfl)) (pgs_cons (pg_name (i := 6) sc_law_gone.nd rfl (.inl rfl)) pgs_nil))))
      (pss_cons (ps_asg (pe_ifExp (pt_cmpR op_eq (pv 2) pe_str (nomark _)) (pe_tup (pa_cons (pe_op op_add (pv 5) pe_int) (pa_cons (pv 6) pa_nil))) (pe_tup (pa_cons (pv 5) (pa_cons (pe_op op_add (pv 6) pe_int) pa_nil)))) (pg_sub (pv 3) (pv 1) set_list))
      (pss_cons (ps_asg pe_int (pg_sub (pv 4) (pv 1) set_list))
      (pss_one (ps_ret (pv 2))))))), ?_⟩
    unfold machL machRoot at L
    obtain ⟨t, hx, ht⟩ := F.sp.spot wf hp
    have hg := Gs.at_get wf hp
    have hb0 := F.bd _ (List.mem_of_getElem? hg)
    have hc0 : goC g p r = if r = Str.ofString "right" then ((g.at p).1 + 1, (g.at p).2) else ((g.at p).1, (g.at p).2 + 1) := rfl
    generalize goC g p r = c at *
    have hcm : c.1 + c.2 ≤ m0 + 1 := by
      rw [hc0]
      split <;> (dsimp only; omega)
    walk_at "vc"
    refine IxLK.of (L.lstAt (by walk_at "mem")) (v := .ref M.c) rfl ?_
    refine IxLK.of (L.lstAt (by walk_at "mem")) (v := .ref M.dn) rfl ?_
    walk_at "vc"
    refine IxLK.of (L.lstAt (by walk_at "mem")) (atI_nat' hx) ?_
    walk_at "vc"
    refine UnpK.of (.inl (.inl (L.sm _ _ ht))) rfl ?_
    unfold cellV
    walk_at "vc"
    by_cases hr : r = Str.ofString "right"
    · rw [if_pos hr] at hc0 ⊢
      refine NewK.of L fun t2 H1 L => ?_
      obtain ⟨B2, s2, ht2, L⟩ := L.sink
      have ht2 : B2 t2 = some (.tup (cellV c)) := by rw [ht2, hc0]; rfl
      walk_at "vc"
      refine SetK.of L (by walk_at "mem") (ixN_nat (List.getElem?_eq_some_iff.mp hx).1) (by walk_at "put") fun H2 L => ?_
      walk_at "vc"
      refine SetK.of L (by walk_at "mem") (ixN_nat (by rw [nv_len, wf.ld]; exact hp)) (by walk_at "put") fun H3 L => ?_
      rw [show (nv g.dn).set p (V.int 0) = nv (g.dn.set p 0) from nv_set _ _ 0] at L
      refine q B2 H3 (xs.set p (.ref t2)) s2 ⟨?_, F.hx, F.hy, F.tr, by have := F.lx; omega, by have := F.ly; omega, fun c' hc' => ?_⟩ ?_
      · show Tups B2 _ ((g.pos.set p c).map cellV)
        rw [List.map_set]
        exact (F.sp.mono s2).set p ht2
      · rcases List.mem_or_eq_of_mem_set hc' with z | z
        · have := F.bd _ z; omega
        · rw [z]; exact hcm
      · exact L
    · rw [if_neg hr] at hc0 ⊢
      refine NewK.of L fun t2 H1 L => ?_
      obtain ⟨B2, s2, ht2, L⟩ := L.sink
      have ht2 : B2 t2 = some (.tup (cellV c)) := by rw [ht2, hc0]; rfl
      walk_at "vc"
      refine SetK.of L (by walk_at "mem") (ixN_nat (List.getElem?_eq_some_iff.mp hx).1) (by walk_at "put") fun H2 L => ?_
      walk_at "vc"
      refine SetK.of L (by walk_at "mem") (ixN_nat (by rw [nv_len, wf.ld]; exact hp)) (by walk_at "put") fun H3 L => ?_
      rw [show (nv g.dn).set p (V.int 0) = nv (g.dn.set p 0) from nv_set _ _ 0] at L
      refine q B2 H3 (xs.set p (.ref t2)) s2 ⟨?_, F.hx, F.hy, F.tr, by have := F.lx; omega, by have := F.ly; omega, fun c' hc' => ?_⟩ ?_
      · show Tups B2 _ ((g.pos.set p c).map cellV)
        rw [List.map_set]
        exact (F.sp.mono s2).set p ht2
      · rcases List.mem_or_eq_of_mem_set hc' with z | z
        · have := F.bd _ z; omega
        · rw [z]; exact hcm
      · exact L
/-! cut law_moved -/
def sp_law_moved (K : PySem.W.Frag) : Sp := fun vs H Q _ => ∃ (B : Hp) (M : Mad) (g : Gs) (n m p : Nat) (l : List (Addr × HO)),
  vs = [.ref M.m, .int p] ∧ MachR B H M g n m l ∧ g.Ok p ∧ m < 1000000 ∧ ∀ B' H' v, Same B B' → MachR B' H' M (g.step p) n (m + 1) l → Q v H'
theorem ok_law_moved (m : Mo K mg d) (sm : SM bs) (G_law_gone : Fg P w K mg bs CX0 1 d.a_law_gone d.fd_law_gone ["state", "who", "way"] (sp_law_gone K)) : Fg P w K mg bs CX0 2 d.a_law_moved d.fd_law_moved ["state", "who"] (sp_law_moved K) := by
  refine ok (n := 1) m.F_law_moved sc_law_moved (fun vs H Q E h => ?_) (fun cdv A fr s H vs Q E hg hr h => ?_)
  · obtain ⟨B, M, g, n, m0, p, l, rfl, ⟨wf, xs, kx, ky, F, L⟩, ok, hm, q⟩ := h
    rfl
  · obtain ⟨B, M, g, n, m0, p, l, rfl, ⟨wf, xs, kx, ky, F, L⟩, ok, hm, q⟩ := h
    refine ⟨_, (pss_cons (ps_asg (pv 0) (show PG _ _ (gUnl K 5 _) from pg_unl (by rfl) (pgs_cons (pg_name (i := 2) sc_law_moved.nd rfl (.inl rfl)) (pgs_cons (pg_name (i := 3) sc_law_moved.nd rfl (.inl rfl)) (pgs_cons (pg_name (i := 4) sc_law_moved.nd rfl (.inl rfl)) (pgs_cons (pg_name (i := 5) sc_law_moved.nd rfl (.inl rfl)) (pgs_cons (pg_name (i := 6) sc_law_moved.nd rfl (.inl rfl)) pgs_nil)))))))
      (pss_cons (ps_par (i := 7) (j := 8) (by rfl) sc_law_moved.nd rfl rfl (by decide) rfl rfl (pa_cons (pe_ix ix_list (pv 4) (pv 1) (fun _ _ => rfl)) (pa_cons (pe_ix ix_list (pv 5) (pv 1) (fun _ _ => rfl)) pa_nil)) (by rfl))
      (pss_cons (ps_asg (pe_op op_add (pv 8) pe_int) (pg_sub (pv 5) (pv 1) set_list))
      (pss_cons (ps_if (pt_cmpR op_eq (pv 8) pe_int (nomark _))
      (pss_one (ps_dput (Nat.lt_of_le_of_lt (Nat.add_le_add_left (by decide) _) hr.units) (pv 2) (pv 7) (pv 1) rfl))
      pss_nil)
      (pss_cons (ps_if (PW.pt (pw_and (pt_cmpR op_eq (pv 8) pe_int (nomark _)) (pw_and1 (pt_val (pe_dget2 (Nat.lt_of_le_of_lt (Nat.add_le_add_left (by decide) _) hr.units) (pv 3) (pv 7) pe_bl ⟨by rfl, by rfl, by rfl, by rfl⟩)))))
      (pss_one (ps_ret (pg_call G_law_gone hg (hr.mono (by decide)) (by rfl) m.g_law_gone m.F_law_gone.kp m.b_law_gone .nil (fun _ => passG) (pa_cons (pv 0) (pa_cons (pv 1) (pa_cons pe_str pa_nil))))))
      pss_nil)
      (pss_cons (ps_if (pt_cmpR op_eq (pv 8) pe_int (nomark _))
      (pss_one (ps_dput (Nat.lt_of_le_of_lt (Nat.add_le_add_left (by decide) _) hr.units) (pv 3) (pv 7) pe_bl rfl))
      pss_nil)
      (pss_cons (ps_if (PW.pt (pw_and (pt_cmpR op_eq (pv 8) pe_int (nomark _)) (pw_and1 (pt_cmpR op_ne (pe_dget (Nat.lt_of_le_of_lt (Nat.add_le_add_left (by decide) _) hr.units) (pv 2) (pv 7) (fun _ _ => rfl)) (pv 1) (nomark _)))))
      (pss_one (ps_ret (pg_call G_law_gone hg (hr.mono (by decide)) (by rfl) m.g_law_gone m.F_law_gone.kp m.b_law_gone .nil (fun _ => passG) (pa_cons (pv 0) (pa_cons (pv 1) (pa_cons pe_str pa_nil))))))
      pss_nil)
      (pss_cons (ps_if (pt_cmpR op_eq (pv 8) pe_int (nomark _))
      (pss_cons (ps_asg pe_bl (pg_sub (pv 6) (pv 1) set_list))
      (pss_one (ps_ret pe_str)))
      pss_nil)
      (pss_one (ps_ret pe_str)))))))))), ?_⟩
    unfold machL machRoot at L
    have hp := ok.lt wf
    obtain ⟨t, hx, ht⟩ := F.sp.spot wf.toLn hp
    have hg := Gs.at_get wf.toLn hp
    have hk := Gs.dn_get wf.toLn hp
    have hk3 := wf.d3 p ok
    have wf' := wf.step ok
    have hdl : p < g.dn.length := by rw [wf.ld]; exact hp
    have hz : m0 < sizeLine := Nat.lt_of_lt_of_le hm (by decide)
    walk_at "vc"
    refine UnlK.of (L.lstAt (by walk_at "mem")) rfl ?_
    walk_at "vc"
    refine IxLK.of (L.lstAt (by walk_at "mem")) (atI_nat' hx) ?_
    refine IxLK.of (L.lstAt (by walk_at "mem")) (nv_atI hk) ?_
    walk_at "vc"
    refine SetK.of L (by walk_at "mem") (ixN_nat (by rw [nv_len]; exact hdl)) (by walk_at "put") fun H1 L => ?_
    rw [nv_put] at L
    walk_at "vc"
    have res0 : g.dnAt p = 0 ∨ g.dnAt p = 2 ∨ (g.dnAt p = 1 ∧ g.y (g.at p) = false) → g.res p = .non := fun h => by
      unfold Gs.res
      rcases h with h | h | ⟨h, h2⟩
      · rw [if_neg (by omega), if_neg (by omega)]
      · rw [if_neg (by omega), if_neg (by omega)]
      · rw [if_neg (by rw [h2]; exact fun z => Bool.false_ne_true z.2), if_neg (by omega)]
    have bd1 : ∀ c ∈ g.pos, c.1 + c.2 ≤ m0 + 1 := fun c hc => Nat.le_succ_of_le (F.bd c hc)
    obtain hk0 | hk0 | hk0 | hk0 : g.dnAt p = 0 ∨ g.dnAt p = 1 ∨ g.dnAt p = 2 ∨ g.dnAt p = 3 := by omega
    · rw [hk0] at L
      rw [if_pos (by omega)]
      refine DPutK.t (k := keyC (g.at p)) L (by walk_at "mem") (L.sm _ _ ht) (by have := F.lx; omega) (by walk_at "put") fun H2 L => ?_
      walk_at "ifs"
      have er := res0 (Or.inl hk0)
      have e0 : g.step p = { g with dn := g.dn.set p 1, x := fset g.x (g.at p) (some p) } := by unfold Gs.step; rw [er, hk0]; rfl
      refine q B H2 _ (Same.refl B) ⟨wf', xs, putK kx (keyC (g.at p)) (.int p), ky, ⟨?_, fun c => ?_, fun c => ?_, F.tr, Nat.le_trans (length_putK _ _ _) (Nat.succ_le_succ F.lx), Nat.le_succ_of_le F.ly, ?_⟩, ?_⟩
      · rw [e0]; exact F.sp
      · rw [e0, valV_put]
        show _ = (fset g.x (g.at p) (some p) c).map _
        unfold fset
        by_cases hc : c = g.at p
        · rw [if_pos hc, if_pos (by rw [hc])]; rfl
        · rw [if_neg hc, if_neg fun z => hc (keyC_inj z)]; exact F.hx c
      · rw [e0]; exact F.hy c
      · rw [e0]; exact bd1
      · rw [e0]; exact L
    · rw [hk0] at L
      rw [if_neg (by omega), if_pos (by omega)]
      refine ⟨Or.inr ⟨ky, Or.inl (L.at (by walk_at "mem"))⟩, ?_⟩
      refine ⟨valV ky (keyC (g.at p)), DGet.t (L.at (by walk_at "mem")) (L.sm _ _ ht), ?_⟩
      have hfl := F.hy (g.at p)
      cases hv : valV ky (keyC (g.at p)) with
      | some w =>
        rw [hv] at hfl
        have hy : g.y (g.at p) = true := hfl.symm
        obtain rfl : w = .bl true := F.tr _ _ hv
        refine ⟨true, rfl, ?_⟩
        rw [if_pos rfl]
        have er : g.res p = .right ((g.at p).1 + 1, (g.at p).2) := by unfold Gs.res; rw [if_pos ⟨hk0, hy⟩]
        refine ⟨B, M, { g with dn := g.dn.set p 2 }, n, m0, p, xs, kx, ky, l, _, rfl, ⟨F.sp, F.hx, F.hy, F.tr, F.lx, F.ly, F.bd⟩, L, wf.toLn.dnset p _, hp, hm, fun B2 H2 xs' s2 F2 L2' => ?_⟩
        have e0 : g.step p = { g with pos := g.pos.set p ((g.at p).1 + 1, (g.at p).2), dn := g.dn.set p 0 } := by unfold Gs.step; rw [er]
        have ec : goC { g with dn := g.dn.set p 2 } p (Str.ofString "right") = ((g.at p).1 + 1, (g.at p).2) := if_pos rfl
        rw [ec] at F2 L2'
        rw [show (g.dn.set p 2).set p 0 = g.dn.set p 0 from List.set_set ..] at F2 L2'
        exact q B2 H2 _ s2 ⟨wf', xs', kx, ky, by rw [e0]; exact F2, by rw [e0]; exact L2'⟩
      | none =>
        rw [hv] at hfl
        have hy : g.y (g.at p) = false := hfl.symm
        refine ⟨false, rfl, ?_⟩
        rw [if_neg Bool.false_ne_true]
        walk_at "ifs"
        have er := res0 (Or.inr (Or.inr ⟨hk0, hy⟩))
        have e0 : g.step p = { g with dn := g.dn.set p 2 } := by unfold Gs.step; rw [er, hk0]; rfl
        refine q B H1 _ (Same.refl B) ⟨wf', xs, kx, ky, ⟨?_, ?_, ?_, F.tr, Nat.le_succ_of_le F.lx, Nat.le_succ_of_le F.ly, ?_⟩, ?_⟩
        · rw [e0]; exact F.sp
        · rw [e0]; exact F.hx
        · rw [e0]; exact F.hy
        · rw [e0]; exact bd1
        · rw [e0]; exact L
    · rw [hk0] at L
      rw [if_neg (by omega), if_neg (by omega), if_pos (by omega)]
      refine DPutK.t (k := keyC (g.at p)) L (by walk_at "mem") (L.sm _ _ ht) (by have := F.ly; omega) (by walk_at "put") fun H2 L => ?_
      walk_at "ifs"
      have er := res0 (Or.inr (Or.inl hk0))
      have e0 : g.step p = { g with dn := g.dn.set p 3, y := fset g.y (g.at p) true } := by unfold Gs.step; rw [er, hk0]; rfl
      refine q B H2 _ (Same.refl B) ⟨wf', xs, kx, putK ky (keyC (g.at p)) (.bl true), ⟨?_, ?_, fun c => ?_, fun k v z => ?_, Nat.le_succ_of_le F.lx, Nat.le_trans (length_putK _ _ _) (Nat.succ_le_succ F.ly), ?_⟩, ?_⟩
      · rw [e0]; exact F.sp
      · rw [e0]; exact F.hx
      · rw [e0, valV_put]
        show _ = fset g.y (g.at p) true c
        unfold fset
        by_cases hc : c = g.at p
        · rw [if_pos hc, if_pos (by rw [hc])]; rfl
        · rw [if_neg hc, if_neg fun z => hc (keyC_inj z)]; exact F.hy c
      · rw [valV_put] at z
        split at z
        · exact (Option.some.inj z).symm
        · exact F.tr _ _ z
      · rw [e0]; exact bd1
      · rw [e0]; exact L
    · rw [hk0] at L
      rw [if_neg (by omega), if_neg (by omega), if_neg (by omega), if_pos (by omega)]
      obtain ⟨w, hw⟩ := Option.isSome_iff_exists.mp (wf.wx p ok (by omega))
      walk_at "vc"
      refine DGetK.t (k := keyC (g.at p)) (v := .int (w : Int)) L (by walk_at "mem") (L.sm _ _ ht) (by rw [F.hx, hw]; rfl) ?_
      walk_at "vc"
      by_cases hwp : w = p
      · subst hwp
        rw [decide_eq_true rfl]
        walk_at "ifs"
        rw [if_neg (by decide), if_pos (by omega)]
        refine SetK.of L (by walk_at "mem") (ixN_nat (by rw [bv_len, wf.lf]; exact hp)) (by walk_at "put") fun H2 L => ?_
        rw [bv_set] at L
        have er : g.res w = .stop (g.at w) := by unfold Gs.res; rw [if_neg (by omega), if_pos hk0, if_pos hw]
        have e0 : g.step w = { g with fin := g.fin.set w true, dn := g.dn.set w 4 } := by unfold Gs.step; rw [er]
        refine q B H2 _ (Same.refl B) ⟨wf', xs, kx, ky, ⟨?_, ?_, ?_, F.tr, Nat.le_succ_of_le F.lx, Nat.le_succ_of_le F.ly, ?_⟩, ?_⟩
        · rw [e0]; exact F.sp
        · rw [e0]; exact F.hx
        · rw [e0]; exact F.hy
        · rw [e0]; exact bd1
        · rw [e0]; exact L
      · rw [decide_eq_false (by intro z; exact hwp (by omega)), if_pos (by decide)]
        have er : g.res p = .down ((g.at p).1, (g.at p).2 + 1) := by unfold Gs.res; rw [if_neg (by omega), if_pos hk0, if_neg (by rw [hw]; exact fun z => hwp (Option.some.inj z))]
        refine ⟨B, M, { g with dn := g.dn.set p 4 }, n, m0, p, xs, kx, ky, l, _, rfl, ⟨F.sp, F.hx, F.hy, F.tr, F.lx, F.ly, F.bd⟩, L, wf.toLn.dnset p _, hp, hm, fun B2 H2 xs' s2 F2 L2' => ?_⟩
        have e0 : g.step p = { g with pos := g.pos.set p ((g.at p).1, (g.at p).2 + 1), dn := g.dn.set p 0 } := by unfold Gs.step; rw [er]
        have ec : goC { g with dn := g.dn.set p 4 } p (Str.ofString "down") = ((g.at p).1, (g.at p).2 + 1) := if_neg (by decide +kernel)
        rw [ec] at F2 L2'
        rw [show (g.dn.set p 4).set p 0 = g.dn.set p 0 from List.set_set ..] at F2 L2'
        exact q B2 H2 _ s2 ⟨wf', xs', kx, ky, by rw [e0]; exact F2, by rw [e0]; exact L2'⟩
/-! cut law_schedule -/
theorem dip_mach {K : PySem.W.Frag} {B H : Hp} {u : Addr} {c : Nat} {M : Mad} {g : Gs} {n m : Nat} {l : List (Addr × HO)} {k : Int} {Q : VK} {E : XK} (U : MachU B H u c M g n m l) (hc : c < 1000000) (h0 : 0 < k) (h1 : k < 2 ^ 200) (kk : ∀ H' r, MachU B H' u (c + 1) M g n m l → 0 ≤ r → r < k → Q (.int r) H') : sp_law_dip K [.ref u, .int k] H Q E := by
  obtain ⟨wf, xs, kx, ky, F, U⟩ := U
  exact dip_go U hc h0 h1 fun H' r U a b => kk H' r ⟨wf, xs, kx, ky, F, U⟩ a b
def sp_law_schedule (K : PySem.W.Frag) : Sp := fun vs H Q _ => ∃ (B : Hp) (u : Addr) (c n k : Nat) (l : List (Addr × HO)), vs = [.ref u, .int n, .int k] ∧ Urn B H u l c ∧ c ≤ 900000 ∧ 1 ≤ n ∧ n ≤ 40 ∧ k ≤ 900 ∧ ∀ B' H' f sch, Same B B' → Urn B' H' u ((f, .lst (nv sch)) :: l) (c + 10000) → GVal (Gs.init n) sch → sch.length ≤ k → Q (.ref f) H'
theorem ok_law_schedule (m : Mo K mg d) (sm : SM bs) (G_law_dip : Fg P w K mg bs CX0 1 d.a_law_dip d.fd_law_dip ["urn", "size"] (sp_law_dip K)) (G_law_begun : Fg P w K mg bs CX0 1 d.a_law_begun d.fd_law_begun ["size"] (sp_law_begun K)) (G_law_moved : Fg P w K mg bs CX0 2 d.a_law_moved d.fd_law_moved ["state", "who"] (sp_law_moved K)) : Fg P w K mg bs CX0 3 d.a_law_schedule d.fd_law_schedule ["urn", "size", "most"] (sp_law_schedule K) := by
  refine ok (n := 2) m.F_law_schedule sc_law_schedule (fun vs H Q E h => ?_) (fun cdv A fr s H vs Q E hg hr h => ?_)
  · obtain ⟨B, u, c, n, k, l, rfl, ⟨x0, y0, z0, L, hur⟩, hc, h1n, hn, hk, q⟩ := h
    rfl
  · obtain ⟨B, u, c, n, k, l, rfl, ⟨x0, y0, z0, L, hur⟩, hc, h1n, hn, hk, q⟩ := h
    refine ⟨_, (pss_cons (ps_asg (pe_tup (pa_cons (pg_call G_law_begun hg (hr.mono (by decide)) (by rfl) m.g_law_begun m.F_law_begun.kp m.b_law_begun .nil (fun _ => passG) (pa_cons (pv 1) pa_nil)) (pa_cons (pe_lst pa_nil) (pa_cons (pg_call G_law_dip hg (hr.mono (by decide)) (by rfl) m.g_law_dip m.F_law_dip.kp m.b_law_dip .nil (fun _ => passG) (pa_cons (pv 0) (pa_cons pe_int pa_nil))) pa_nil)))) (show PG _ _ (gTup K 3 _) from pg_tup (by rfl) (pgs_cons (pg_name (i := 3) sc_law_schedule.nd rfl (.inr rfl)) (pgs_cons (pg_name (i := 4) sc_law_schedule.nd rfl (.inl rfl)) (pgs_cons (pg_name (i := 5) sc_law_schedule.nd rfl (.inl rfl)) pgs_nil)))))
      (pss_cons (ps_for PassesOwn.never rfl (pi_range1 (by rfl) m.n_range (pa_cons (pg_call G_law_dip hg (hr.mono (by decide)) (by rfl) m.g_law_dip m.F_law_dip.kp m.b_law_dip .nil (fun _ => passG) (pa_cons (pv 0) (pa_cons (pe_op op_add (pv 2) pe_int) pa_nil))) pa_nil)) (pg_name (i := 6) sc_law_schedule.nd rfl (.inl rfl))
      (pss_cons (ps_setLc (i := 7) (own := [("who", 9)]) (by rfl) sc_law_schedule.nd rfl rfl (sw_true rfl rfl rfl (by decide +kernel)) (pi_range1 (by rfl) m.n_range (pa_cons (pv 1) pa_nil)) (blkOk_by (own := [("who", 9)]) (N := ["urn", "size", "most", "state", "found", "way", "turn", "able", "some", "who"]) (sc := defScope s_law_schedule) (by decide +kernel)) (fun _ _ _ _ _ => by exact (pg_name (i := 9) sc_law_schedule.nd rfl (.inl rfl))) (fun _ _ _ _ _ => by exact (pts_one (pt_not (pt_val (pe_ix (show IxR _ (rIxL K) from ix_list) (pe_ix (show IxR _ (rIxL K) from ix_list) (pv 3) pe_int (fun _ _ => rfl)) (pv 9) (fun _ _ => rfl)))))) (fun _ _ _ _ _ => by exact (pv 9)))
      (pss_cons (ps_if (pt_cmpR (op_eqL hr.units) (pv 7) (pe_lst pa_nil) (nomark _))
      (pss_one (ps_ret (pv 4)))
      pss_nil)
      (pss_cons (ps_asg (pe_lst (pa_cons (pe_ix ix_list (pv 7) (pg_call G_law_dip hg (hr.mono (by decide)) (by rfl) m.g_law_dip m.F_law_dip.kp m.b_law_dip .nil (fun _ => passG) (pa_cons (pv 0) (pa_cons (pe_callB cr_len (by rfl) m.n_len (by decide +kernel) (pa_cons (pv 7) pa_nil)) pa_nil))) (fun _ _ => rfl)) (pa_cons (pe_ix ix_list (pv 7) (pe_op op_mod (pv 6) (pe_callB cr_len (by rfl) m.n_len (by decide +kernel) (pa_cons (pv 7) pa_nil))) (fun _ _ => rfl)) (pa_cons (pe_ix ix_list (pv 7) pe_int (fun _ _ => rfl)) (pa_cons (pe_ix ix_list (pv 7) (pe_un un_neg pe_int) (fun _ _ => rfl)) pa_nil))))) (pg_name (i := 8) sc_law_schedule.nd rfl (.inl rfl)))
      (pss_cons (ps_expr (pe_bm PySem.F.plainAttrs_list PySem.F.slot_list_append PySem.F.type_list_append mt_append (pv 8) (pa_cons (pe_ix ix_list (pv 7) (pg_call G_law_dip hg (hr.mono (by decide)) (by rfl) m.g_law_dip m.F_law_dip.kp m.b_law_dip .nil (fun _ => passG) (pa_cons (pv 0) (pa_cons (pe_callB (cr_min2 rfl) (by rfl) m.n_min (by decide +kernel) (pa_cons pe_int (pa_cons (pe_callB cr_len (by rfl) m.n_len (by decide +kernel) (pa_cons (pv 7) pa_nil)) pa_nil))) pa_nil))) (fun _ _ => rfl)) pa_nil)))
      (pss_cons (ps_expr (pe_bm PySem.F.plainAttrs_list PySem.F.slot_list_append PySem.F.type_list_append mt_append (pv 4) (pa_cons (pe_ifExp (pt_cmpR op_gt (pg_call G_law_dip hg (hr.mono (by decide)) (by rfl) m.g_law_dip m.F_law_dip.kp m.b_law_dip .nil (fun _ => passG) (pa_cons (pv 0) (pa_cons pe_int pa_nil))) pe_int (nomark _)) (pe_ix ix_list (pv 8) (pv 5) (fun _ _ => rfl)) (pe_ix ix_list (pv 8) pe_int (fun _ _ => rfl))) pa_nil)))
      (pss_one (ps_expr (pg_call G_law_moved hg (hr.mono (by decide)) (by rfl) m.g_law_moved m.F_law_moved.kp m.b_law_moved .nil (fun _ => passG) (pa_cons (pv 3) (pa_cons (pe_ix ix_list (pv 4) (pe_un un_neg pe_int) (fun _ _ => rfl)) pa_nil)))))))))))
      (pss_one (ps_ret (pv 4))))), ?_⟩
    walk_at "vc"
    refine ⟨B, _, n, rfl, L, by omega, fun B1 H1 M s1 R => ?_⟩
    have U := MachU.to (c := c) R hur
    walk_at "vc"
    refine U.new fun f H2 U => ?_
    obtain ⟨wf0, xs, kx, ky, F, U⟩ := U
    refine dip_go U (by omega) (by omega) (by omega) fun H3 way U w0 w1 => ?_
    have U : MachU B1 H3 u (c + 1) M (Gs.init n) n 0 ((f, .lst (nv [])) :: l) := ⟨wf0, xs, kx, ky, F, U⟩
    refine U.new fun t H4 U => ?_
    refine UnpK.of (U.led.tupAt (by walk_at "mem")) rfl ?_
    have U := U.sel (.skip .all)
    walk_at "vc"
    obtain ⟨_, xs, kx, ky, F, U⟩ := U
    refine dip_go U (by omega) (by omega) (by omega) fun H5 turns U t0 t1 => ?_
    have U : MachU B1 H5 u (c + 1 + 1) M (Gs.init n) n 0 ((f, .lst (nv [])) :: l) := ⟨wf0, xs, kx, ky, F, U⟩
    walk_at "vc"
    refine ⟨by omega, by omega, ?_⟩
    refine loop_range (fun i σ H' => ∃ y6 y7 y8 y9 B' sch, σ = [some (.ref u), some (.int (n : Int)), some (.int (k : Int)), some (.ref M.m), some (.ref f), some (.int way), y6, y7, y8, y9] ∧ Same B B' ∧ MachU B' H' u (c + 2 + 3 * i) M ((Gs.init n).run sch) n sch.length ((f, .lst (nv sch)) :: l) ∧ GVal (Gs.init n) sch ∧ sch.length = i)
      ⟨_, _, _, _, B1, [], rfl, s1, U, trivial, rfl⟩ (fun i σ H' N hi h hN => ?_) (fun σ H' h => ?_)
    · obtain ⟨y6, y7, y8, y9, B2, sch, rfl, s2, U, hv, hsl⟩ := h
      have hi9 : i < 900 := by omega
      walk_at "vc"
      obtain ⟨x1, y1, z1, R, hur⟩ := U.of
      refine ⟨by omega, by omega, ?_⟩
      rw [Int.toNat_natCast]
      refine comp_range (fun j z acc H' => acc = nv ((List.range j).filter fun p => decide (((Gs.init n).run sch).fin[p]? = some false)) ∧ MachR B2 H' M ((Gs.init n).run sch) n sch.length ((z, .lst acc) :: (u, .lst [.int x1, .int y1, .int z1]) :: (f, .lst (nv sch)) :: l)) (fun z hz => ⟨rfl, R.newU hz⟩) ?_ fun j ze acc H6 N2 hj ⟨ea, R⟩ hN2 => ?_
      rotate_left
      · subst ea
        unfold TurnK
        have wf := R.1
        have hfl : j < ((Gs.init n).run sch).fin.length := by rw [wf.lf]; exact hj
        obtain ⟨b, hb⟩ : ∃ b, ((Gs.init n).run sch).fin[j]? = some b := ⟨_, List.getElem?_eq_getElem hfl⟩
        have hbv : (bv ((Gs.init n).run sch).fin)[j]? = some (.bl b) := by unfold bv; rw [List.getElem?_map, hb]; rfl
        walk_at "vc"
        refine IxLK.of R.root (v := .ref M.st) rfl ?_
        refine x_ixL.mpr (IxLK.of R.stl (atI_nat' hbv) ?_)
        walk_at "vc"
        have hfl2 := List.length_filter_le (fun p => decide (((Gs.init n).run sch).fin[p]? = some false)) (List.range j)
        rw [List.length_range] at hfl2
        rw [List.range_succ, List.filter_append] at hN2
        cases b with
        | true =>
          rw [if_neg (by decide)]
          refine hN2 _ _ ⟨?_, R⟩
          rw [show List.filter (fun p => decide (((Gs.init n).run sch).fin[p]? = some false)) [j] = [] by rw [List.filter_cons, if_neg (by rw [hb]; decide)]; rfl, List.append_nil]
        | false =>
          rw [if_pos (by decide)]
          refine ⟨_, R.led.at (.head _), Nat.lt_of_lt_of_le (m := 2000) (by rw [nv_len]; omega) (by decide), hN2 _ _ ⟨?_, R.putU .hd⟩⟩
          rw [show List.filter (fun p => decide (((Gs.init n).run sch).fin[p]? = some false)) [j] = [j] by rw [List.filter_cons, if_pos (by rw [hb]; decide)]; rfl, ← nv_app]
      rintro ab acc H6 ⟨ea, R⟩
      have ea : acc = nv (leftL ((Gs.init n).run sch) n) := ea
      subst ea
      have hlm : ∀ p ∈ leftL ((Gs.init n).run sch) n, ((Gs.init n).run sch).Ok p := fun p hp => (left_mem.mp hp).2
      have hll := left_len ((Gs.init n).run sch) n
      have U := MachU.toS R hur
      refine U.new fun e0 H7 U => ?_
      refine EqL0 (U.led.lstAt (xs := nv (leftL ((Gs.init n).run sch) n)) (by walk_at "mem")) (U.led.lstAt (by walk_at "mem")) ?_
      have U := U.sel (.skip .all)
      refine ⟨_, rfl, ?_⟩
      by_cases h0 : leftL ((Gs.init n).run sch) n = []
      · rw [h0, show (nv []).isEmpty = true from rfl, if_pos rfl]
        obtain ⟨x1, y1, z1, R, hur⟩ := U.of
        refine q B2 H7 f sch s2 ⟨x1, y1, z1, R.led.sel (.cons .hd (.skip .all)), ?_⟩ hv (by omega)
        omega
      · have hpos : 0 < (leftL ((Gs.init n).run sch) n).length := List.length_pos_iff.mpr h0
        rw [show (nv (leftL ((Gs.init n).run sch) n)).isEmpty = false from by cases hq : leftL ((Gs.init n).run sch) n with | nil => exact (h0 hq).elim | cons _ _ => rfl, if_neg Bool.false_ne_true]
        walk_at "vc"
        refine LenK.ofL (U.led.lstAt (xs := nv (leftL ((Gs.init n).run sch) n)) (by walk_at "mem")) ?_
        rw [nv_len]
        refine dip_mach U (by omega) (by omega) (by omega) fun H8 r1 U a1 b1 => ?_
        obtain ⟨p1, hp1, e1⟩ := pickP (l := leftL ((Gs.init n).run sch) n) a1 b1
        walk_at "vc"
        refine IxLK.of (U.led.lstAt (xs := nv (leftL ((Gs.init n).run sch) n)) (by walk_at "mem")) e1 ?_
        walk_at "vc"
        refine LenK.ofL (U.led.lstAt (xs := nv (leftL ((Gs.init n).run sch) n)) (by walk_at "mem")) ?_
        rw [nv_len]
        walk_at "vc"
        refine ⟨by omega, ?_⟩
        obtain ⟨p2, hp2, e2⟩ := pickP (l := leftL ((Gs.init n).run sch) n) (r := (i : Int) % ((leftL ((Gs.init n).run sch) n).length : Int)) (Int.emod_nonneg _ (by omega)) (Int.emod_lt_of_pos _ (by omega))
        refine IxLK.of (U.led.lstAt (xs := nv (leftL ((Gs.init n).run sch) n)) (by walk_at "mem")) e2 ?_
        obtain ⟨p3, hp3, e3⟩ := pickP (l := leftL ((Gs.init n).run sch) n) (r := 0) (by decide) (by omega)
        refine IxLK.of (U.led.lstAt (xs := nv (leftL ((Gs.init n).run sch) n)) (by walk_at "mem")) e3 ?_
        obtain ⟨p4, hp4, e4⟩ := atI_last h0
        refine IxLK.of (U.led.lstAt (xs := nv (leftL ((Gs.init n).run sch) n)) (by walk_at "mem")) e4 ?_
        refine U.new fun so H9 U => ?_
        walk_at "vc"
        refine ⟨tyL (U.led.lstAt (xs := [.int (p1 : Int), .int (p2 : Int), .int (p3 : Int), .int (p4 : Int)]) (by walk_at "mem")), ?_⟩
        refine LenK.ofL (U.led.lstAt (xs := nv (leftL ((Gs.init n).run sch) n)) (by walk_at "mem")) ?_
        rw [nv_len]
        refine dip_mach U (by omega) (by omega) (by omega) fun H10 r5 U a5 b5 => ?_
        walk_at "vc"
        obtain ⟨p5, hp5, e5⟩ := pickP (l := leftL ((Gs.init n).run sch) n) a5 (by omega)
        refine IxLK.of (U.led.lstAt (xs := nv (leftL ((Gs.init n).run sch) n)) (by walk_at "mem")) e5 ?_
        refine U.appK (xs := [.int (p1 : Int), .int (p2 : Int), .int (p3 : Int), .int (p4 : Int)]) (.head _) (show 4 < sizeLine by decide) .hd fun H11 U => ?_
        have U : MachU B2 H11 u _ M ((Gs.init n).run sch) n sch.length ((so, .lst (nv [p1, p2, p3, p4, p5])) :: (ab, .lst (nv (leftL ((Gs.init n).run sch) n))) :: (f, .lst (nv sch)) :: l) := U
        have hs5 : ∀ p ∈ [p1, p2, p3, p4, p5], ((Gs.init n).run sch).Ok p := fun p hp => by
          simp only [List.mem_cons, List.not_mem_nil, or_false] at hp
          rcases hp with z | z | z | z | z <;> (rw [z]; exact hlm _ (by assumption))
        refine ⟨tyL (U.led.lstAt (xs := nv sch) (by walk_at "mem")), ?_⟩
        refine dip_mach U (by omega) (by omega) (by omega) fun H12 r6 U a6 b6 => ?_
        have fin : ∀ p, ((Gs.init n).run sch).Ok p → AppK f (.int (p : Int)) H12 fun H1 => IxLK K f (-1) H1 fun v => sp_law_moved K [V.ref M.m, v] H1 (fun x H1 => N [some (V.ref u), some (V.int n), some (V.int k), some (V.ref M.m), some (V.ref f), some (V.int way), some (V.int i), some (V.ref ab), some (V.ref so), y9] H1) E0 := fun p ok => by
          refine U.appK (xs := nv sch) (.tail _ (.tail _ (.head _))) (Nat.lt_of_lt_of_le (m := 4000) (by rw [nv_len]; omega) (by decide)) (.tl (.tl .hd)) fun H13 U => ?_
          rw [← nv_app] at U
          refine IxLK.of (U.led.lstAt (xs := nv (sch ++ [p])) (by walk_at "mem")) atI_end ?_
          obtain ⟨x2, y2, z2, R, hur⟩ := U.of
          refine ⟨B2, M, _, n, sch.length, p, _, rfl, R, ok, by omega, fun B8 H14 v s8 R => hN _ _ ⟨_, _, _, _, B8, sch ++ [p], rfl, s2.trans s8, ?_, hv.app ok, by rw [List.length_append]; show sch.length + 1 = i + 1; omega⟩⟩
          rw [grun_app, List.length_append]
          have U := MachU.to R hur
          exact (U.up (by omega)).sel (.skip (.skip .all))
        walk_at "vc"
        split
        · obtain ⟨p, hp, ep⟩ := pickP (l := [p1, p2, p3, p4, p5]) w0 w1
          refine IxLK.of (U.led.lstAt (xs := nv [p1, p2, p3, p4, p5]) (by walk_at "mem")) ep ?_
          exact fin p (hs5 p hp)
        · refine IxLK.of (U.led.lstAt (xs := nv [p1, p2, p3, p4, p5]) (by walk_at "mem")) (v := .int (p1 : Int)) rfl ?_
          exact fin p1 (hlm _ hp1)
    · obtain ⟨y6, y7, y8, y9, B2, sch, rfl, s2, U, hv, hsl⟩ := h
      walk_at "vc"
      obtain ⟨x1, y1, z1, R, hur⟩ := U.of
      refine q B2 H' f sch s2 ⟨x1, y1, z1, R.led, ?_⟩ hv (by omega)
      omega
/-! cut law -/
def sp_law (K : PySem.W.Frag) : Sp := fun vs H Q _ => ∃ (a : Addr) (ns : List Int), vs = [.ref a] ∧ SqL K H a (ns.map V.int) ∧ ns.length ≤ 63 ∧ ∀ H', Q (.bl true) H'
theorem ok_law (m : Mo K mg d) (sm : SM bs) (G_most_names : FnOk P w K mg bs CX0 4 d.a_most_names d.fd_most_names ["count"] (sp_most_names K)) (G_names_after : FnOk P w K mg bs CX0 9 d.a_names_after d.fd_names_after ["count", "schedule"] (sp_names_after K d)) (G_law_cells : Fg P w K mg bs CX0 1 d.a_law_cells d.fd_law_cells ["diagonals"] (sp_law_cells K)) (G_law_urn : Fg P w K mg bs CX0 1 d.a_law_urn d.fd_law_urn ["script", "k"] (sp_law_urn K)) (G_law_dip : Fg P w K mg bs CX0 1 d.a_law_dip d.fd_law_dip ["urn", "size"] (sp_law_dip K)) (G_law_way : Fg P w K mg bs CX0 2 d.a_law_way d.fd_law_way ["urn", "cell"] (sp_law_way K)) (G_law_schedule : Fg P w K mg bs CX0 3 d.a_law_schedule d.fd_law_schedule ["urn", "size", "most"] (sp_law_schedule K)) : Fg P w K mg bs CX0 10 d.a_law d.fd_law ["script"] (sp_law K) := by
  refine ok (n := 9) m.F_law sc_law (fun vs H Q E h => ?_) (fun cdv A fr s H vs Q E hg hr h => ?_)
  · obtain ⟨a, ns, rfl, hS, hl, q⟩ := h
    rfl
  · obtain ⟨a, ns, rfl, hS, hl, q⟩ := h
    refine ⟨_, (pss_cons (ps_asg (pg_call G_law_cells hg (hr.mono (by decide)) (by rfl) m.g_law_cells m.F_law_cells.kp m.b_law_cells .nil (fun _ => passG) (pa_cons pe_int pa_nil)) (pg_name (i := 1) sc_law.nd rfl (.inl rfl)))
      (pss_cons (ps_for PassesOwn.never rfl (pi_range1 (by rfl) m.n_range (pa_cons (pe_callB (cr_max2 rfl) (by rfl) m.n_max (by decide +kernel) (pa_cons pe_int (pa_cons (pe_callB (cr_min2 rfl) (by rfl) m.n_min (by decide +kernel) (pa_cons pe_int (pa_cons (pe_op op_add (pe_callB cr_len (by rfl) m.n_len (by decide +kernel) (pa_cons (pv 0) pa_nil)) pe_int) pa_nil))) pa_nil))) pa_nil)) (pg_name (i := 2) sc_law.nd rfl (.inl rfl))
      (pss_cons (ps_asg (pg_call G_law_urn hg (hr.mono (by decide)) (by rfl) m.g_law_urn m.F_law_urn.kp m.b_law_urn .nil (fun _ => passG) (pa_cons (pv 0) (pa_cons (pv 2) pa_nil))) (pg_name (i := 3) sc_law.nd rfl (.inl rfl)))
      (pss_cons (ps_for PassesOwn.never rfl (pi_range1 (by rfl) m.n_range (pa_cons pe_int pa_nil)) (pg_name (i := 4) sc_law.nd rfl (.inl rfl))
      (pss_cons (ps_asg (pe_op op_add pe_int (pg_call G_law_dip hg (hr.mono (by decide)) (by rfl) m.g_law_dip m.F_law_dip.kp m.b_law_dip .nil (fun _ => passG) (pa_cons (pv 3) (pa_cons pe_int pa_nil)))) (pg_name (i := 6) sc_law.nd rfl (.inl rfl)))
      (pss_cons (ps_asg (pe_call G_most_names (hr.mono (by decide)) (by rfl) m.g_most_names m.F_most_names.kp m.b_most_names .nil pass0 (pa_cons (pv 6) pa_nil)) (pg_name (i := 7) sc_law.nd rfl (.inl rfl)))
      (pss_cons (ps_if (pt_cmpR op_ne (pe_callB (call_reprQ hg hr sm) (by rfl) m.n_repr (by decide +kernel) (pa_cons (pv 7) pa_nil)) (pe_callB (call_reprQ hg hr sm) (by rfl) m.n_repr (by decide +kernel) (pa_cons (pe_op op_fdiv (pe_op op_mul (pv 6) (pe_op op_add (pv 6) pe_int)) pe_int) pa_nil)) (nomark _))
      (pss_one (ps_ret pe_bl))
      pss_nil)
      (pss_cons (ps_asg (pe_ix ix_list (pe_lst (pa_cons (pg_call G_law_dip hg (hr.mono (by decide)) (by rfl) m.g_law_dip m.F_law_dip.kp m.b_law_dip .nil (fun _ => passG) (pa_cons (pv 3) (pa_cons (pv 7) pa_nil))) (pa_cons (pe_op op_sub (pv 7) pe_int) (pa_cons (pe_op op_sub (pe_op op_sub (pv 7) pe_int) (pg_call G_law_dip hg (hr.mono (by decide)) (by rfl) m.g_law_dip m.F_law_dip.kp m.b_law_dip .nil (fun _ => passG) (pa_cons (pv 3) (pa_cons (pv 6) pa_nil)))) pa_nil)))) (pg_call G_law_dip hg (hr.mono (by decide)) (by rfl) m.g_law_dip m.F_law_dip.kp m.b_law_dip .nil (fun _ => passG) (pa_cons (pv 3) (pa_cons pe_int pa_nil))) (fun _ _ => rfl)) (pg_name (i := 8) sc_law.nd rfl (.inl rfl)))
      (pss_cons (ps_asg (pe_call G_names_after (hr.mono (by decide)) (by rfl) m.g_names_after m.F_names_after.kp m.b_names_after .nil pass0 (pa_cons (pv 6) (pa_cons (pg_call G_law_way hg (hr.mono (by decide)) (by rfl) m.g_law_way m.F_law_way.kp m.b_law_way .nil (fun _ => passG) (pa_cons (pv 3) (pa_cons (pe_ix ix_list (pv 1) (pv 8) (fun _ _ => rfl)) pa_nil))) pa_nil))) (pg_name (i := 9) sc_law.nd rfl (.inl rfl)))
      (pss_cons (ps_if (pt_cmpR op_ne (pe_ix ix_list (pv 9) (pe_callB (cr_sumT rfl) (by rfl) m.n_sum (by decide +kernel) (pa_cons (pe_ix ix_list (pv 1) (pv 8) (fun _ _ => rfl)) pa_nil)) (fun _ _ => rfl)) (pv 8) (nomark _))
      (pss_one (ps_ret pe_bl))
      pss_nil)
      (pss_cons (ps_asg (pe_op op_cat (pv 9) (pe_call G_names_after (hr.mono (by decide)) (by rfl) m.g_names_after m.F_names_after.kp m.b_names_after .nil pass0 (pa_cons (pv 6) (pa_cons (pg_call G_law_schedule hg (hr.mono (by decide)) (by rfl) m.g_law_schedule m.F_law_schedule.kp m.b_law_schedule .nil (fun _ => passG) (pa_cons (pv 3) (pa_cons (pv 6) (pa_cons pe_int pa_nil)))) pa_nil)))) (pg_name (i := 9) sc_law.nd rfl (.inl rfl)))
      (pss_one (ps_if (pt_cmpR op_ge (pe_callB (cr_max rfl) (by rfl) m.n_max (by decide +kernel) (pa_cons (pe_lc (own := [("one", 10)]) (by rfl) sc_law.nd (pi_list (pv 9)) (blkOk_by (own := [("one", 10)]) (N := ["script", "cells", "k", "urn", "turn", "far", "size", "most", "name", "given", "one"]) (sc := defScope s_law) (by decide +kernel)) (fun _ _ _ _ _ => by exact (pg_name (i := 10) sc_law.nd rfl (.inl rfl))) (fun _ _ _ _ _ => by exact (pts_one (pt_cmpR op_notN (pv 10) pe_non (nomark _)))) (fun _ _ _ _ _ => by exact (pv 10))) pa_nil)) (pv 7) (nomark _))
      (pss_one (ps_ret pe_bl))
      pss_nil))))))))))
      (pss_one (ps_for PassesOwn.never rfl (pi_list (pe_lst (pa_cons (pg_call G_law_dip hg (hr.mono (by decide)) (by rfl) m.g_law_dip m.F_law_dip.kp m.b_law_dip .nil (fun _ => passG) (pa_cons (pv 3) (pa_cons pe_int pa_nil))) (pa_cons (pg_call G_law_dip hg (hr.mono (by decide)) (by rfl) m.g_law_dip m.F_law_dip.kp m.b_law_dip .nil (fun _ => passG) (pa_cons (pv 3) (pa_cons (pe_op op_pow pe_int pe_int) pa_nil))) (pa_cons (pg_call G_law_dip hg (hr.mono (by decide)) (by rfl) m.g_law_dip m.F_law_dip.kp m.b_law_dip .nil (fun _ => passG) (pa_cons (pv 3) (pa_cons (pe_op op_pow pe_int pe_int) pa_nil))) (pa_cons (pg_call G_law_dip hg (hr.mono (by decide)) (by rfl) m.g_law_dip m.F_law_dip.kp m.b_law_dip .nil (fun _ => passG) (pa_cons (pv 3) (pa_cons (pe_op op_pow pe_int pe_int) pa_nil))) pa_nil)))))) (pg_name (i := 5) sc_law.nd rfl (.inl rfl))
      (pss_one (ps_if (pt_cmpR op_ne (pe_callB (call_reprQ hg hr sm) (by rfl) m.n_repr (by decide +kernel) (pa_cons (pe_call G_most_names (hr.mono (by decide)) (by rfl) m.g_most_names m.F_most_names.kp m.b_most_names .nil pass0 (pa_cons (pe_op op_add (pv 5) pe_int) pa_nil)) pa_nil)) (pe_callB (call_reprQ hg hr sm) (by rfl) m.n_repr (by decide +kernel) (pa_cons (pe_op op_fdiv (pe_op op_mul (pe_op op_add (pv 5) pe_int) (pe_op op_add (pv 5) pe_int)) pe_int) pa_nil)) (nomark _))
      (pss_one (ps_ret pe_bl))
      pss_nil)))))))
      (pss_cons (ps_if (pt_cmpR (op_neD hr.units) (pe_lc (own := [("size", 6)]) (by rfl) sc_law.nd (pi_range2 (by rfl) m.n_range (pa_cons pe_int (pa_cons pe_int pa_nil))) (blkOk_by (own := [("size", 6)]) (N := ["script", "cells", "k", "urn", "turn", "far", "size", "most", "name", "given", "one"]) (sc := defScope s_law) (by decide +kernel)) (fun _ _ _ _ _ => by exact (pg_name (i := 6) sc_law.nd rfl (.inl rfl))) (fun _ _ _ _ _ => by exact (pts_one (pt_cmpR op_ne (pe_call G_most_names (hr.mono (by decide)) (by rfl) m.g_most_names m.F_most_names.kp m.b_most_names .nil pass0 (pa_cons (pv 6) pa_nil)) (pe_op op_fdiv (pe_op op_mul (pv 6) (pe_op op_add (pv 6) pe_int)) pe_int) (nomark _)))) (fun _ _ _ _ _ => by exact (pv 6))) (pe_lst pa_nil) (nomark _))
      (pss_one (ps_ret pe_bl))
      pss_nil)
      (pss_one (ps_ret (pe_and (pe_cmpR op_eq (pe_call G_most_names (hr.mono (by decide)) (by rfl) m.g_most_names m.F_most_names.kp m.b_most_names .nil pass0 (pa_cons (pe_op op_pow pe_int pe_int) pa_nil)) (pe_op op_fdiv (pe_op op_mul (pe_op op_pow pe_int pe_int) (pe_op op_add (pe_op op_pow pe_int pe_int) pe_int)) pe_int) (nomark _)) (pe_one (pe_cmpR op_eq (pe_call G_most_names (hr.mono (by decide)) (by rfl) m.g_most_names m.F_most_names.kp m.b_most_names .nil pass0 (pa_cons pe_int pa_nil)) pe_int (nomark _))))))))), ?_⟩
    walk_at "vc"
    refine ⟨H, [], rfl, Led.nil H, fun B1 H1 ca xs s1 L TP => ?_⟩
    walk_at "vc"
    refine LenK.ofL (L.sm.seq (s1.seq hS)) ?_
    rw [List.length_map]
    walk_at "vc"
    refine ⟨by omega, by omega, ?_⟩
    refine loop_range (fun i σ H' => ∃ y2 y3 y4 y5 y6 y7 y8 y9 y10 B' l, σ = [some (.ref a), some (.ref ca), y2, y3, y4, y5, y6, y7, y8, y9, y10] ∧ Same B1 B' ∧ Led B' H' ((ca, .lst xs) :: l)) ⟨_, _, _, _, _, _, _, _, _, B1, [], rfl, Same.refl B1, L⟩ (fun i σ H2 N hi h hN => ?_) (fun σ H2 h => ?_)
    · obtain ⟨y2, y3, y4, y5, y6, y7, y8, y9, y10, B2, l, rfl, s2, L⟩ := h
      have hi4 : i < 4 := by omega
      walk_at "vc"
      refine ⟨a, ns, (i : Int), rfl, L.sm.seq ((s1.trans s2).seq hS), by omega, by omega, fun u H3 U0 => ?_⟩
      obtain ⟨x0, z0, w0, L0, hur⟩ := U0
      have U : Urn B2 H3 u ((ca, .lst xs) :: l) 0 := ⟨x0, z0, w0, L.join L0, hur⟩
      clear L L0 hur
      walk_at "vc"
      refine ⟨by omega, by omega, ?_⟩
      refine loop_range (fun j σ H' => ∃ y4 y5 y6 y7 y8 y9 y10 B' l, σ = [some (.ref a), some (.ref ca), some (.int (i : Int)), some (.ref u), y4, y5, y6, y7, y8, y9, y10] ∧ Same B1 B' ∧ Urn B' H' u ((ca, .lst xs) :: l) (20000 * j)) ⟨_, _, _, _, _, _, _, B2, l, rfl, s2, U⟩ (fun j σ H4 N2 hj h hN2 => ?_) (fun σ H4 h => ?_)
      · obtain ⟨y4, y5, y6, y7, y8, y9, y10, B4, l, rfl, s4, U⟩ := h
        have hj3 : j < 3 := by omega
        walk_at "vc"
        refine dip_go U (by omega) (by omega) (by omega) fun H5 r1 U a1 b1 => ?_
        walk_at "vc"
        obtain ⟨n, hn0, hn1, hn⟩ : ∃ n : Nat, 1 + r1 = (n : Int) ∧ 1 ≤ n ∧ n ≤ 29 := ⟨(1 + r1).toNat, by rw [Int.toNat_of_nonneg (by omega)], by omega, by omega⟩
        rw [hn0]
        have tb := tri_big (x := n) (y := (n : Int) + 1) (by omega) (by omega) (by omega) (by omega)
        refine ⟨n, rfl, by omega, by omega, ?_⟩
        refine RepQ.big tb.2 ?_
        refine ⟨Or.inl ⟨by omega, by omega⟩, ⟨by decide, by decide⟩, ?_⟩
        refine RepQ.big tb.2 ?_
        rw [decide_eq_true rfl, if_neg (by decide)]
        have e2 : (n : Int) * ((n : Int) + 1) = ((n * (n + 1) : Nat) : Int) := by push_cast; rfl
        have e3 : n * (n + 1) ≤ 29 * 30 := Nat.mul_le_mul hn (by omega)
        have e4 : n + n ≤ n * (n + 1) := by
          have := Nat.mul_le_mul_left n (show 2 ≤ n + 1 by omega)
          omega
        obtain ⟨T, hT, hT2⟩ : ∃ T : Nat, (n : Int) * ((n : Int) + 1) / 2 = (T : Int) ∧ T = n * (n + 1) / 2 := ⟨_, by rw [e2]; omega, rfl⟩
        have hTm : ∀ c : Cell, c.1 + c.2 < n → nmC c < (T : Int) := fun c hc => by rw [← hT]; exact nm_lt hc
        rw [hT]
        clear tb
        refine dip_go U (by omega) (by omega) (by omega) fun H6 r2 U a2 b2 => ?_
        walk_at "vc"
        refine dip_go U (by omega) (by omega) (by omega) fun H7 r3 U a3 b3 => ?_
        walk_at "vc"
        refine U.new fun q1 H8 U => ?_
        refine dip_go U (by omega) (by omega) (by omega) fun H9 r4 U a4 b4 => ?_
        obtain ⟨k, hk, hk2⟩ : ∃ k : Nat, k < T ∧ atI [V.int r2, V.int ((T : Int) - 1), V.int ((T : Int) - 1 - r3)] r4 = some (.int (k : Int)) := by
          have : r4 = 0 ∨ r4 = 1 ∨ r4 = 2 := by omega
          rcases this with z | z | z
          · exact ⟨r2.toNat, by omega, by rw [z, Int.toNat_of_nonneg a2]; rfl⟩
          · exact ⟨T - 1, by omega, by rw [z, show ((T - 1 : Nat) : Int) = (T : Int) - 1 by omega]; rfl⟩
          · exact ⟨((T : Int) - 1 - r3).toNat, by omega, by rw [z, Int.toNat_of_nonneg (by omega)]; rfl⟩
        walk_at "vc"
        refine IxLK.of (U.led.lstAt (.head _)) hk2 ?_
        have U := U.sel (.skip .all)
        obtain ⟨r, e, hre, hk3, hcell⟩ := cellsN_at 29 n hn k (by
          rw [hT2] at hk
          generalize n * (n + 1) = Q at *
          omega)
        obtain ⟨ct, hx1, hx2⟩ := TP.2 k _ hcell
        walk_at "vc"
        refine IxLK.of (U.led.lstAt (xs := xs) (by walk_at "mem")) (atI_nat' hx1) ?_
        refine ⟨B4, u, ct, _, _, n, r, e, rfl, U, by omega, .inl (.inl ((s4.trans U.led.sm) _ _ hx2)), hre, by omega, fun H10 wp sch U gv gf ga hsl => ?_⟩
        refine ⟨n, sch, wp, rfl, hn1, by omega, U.led.lstAt (xs := nv sch) (by walk_at "mem"), gv, by omega, fun H11 np LN => ?_⟩
        obtain ⟨x1, z1, w1, L, hur⟩ := U
        have L := L.join LN
        have wfg := gv.wf (Gs.init_wf n)
        walk_at "vc"
        refine IxLK.of (L.lstAt (xs := xs) (by walk_at "mem")) (atI_nat' hx1) ?_
        refine ⟨ct, (r : Int), (e : Int), rfl, .inl (.inl ((s4.trans L.sm) _ _ hx2)), ?_⟩
        have hna : ((Gs.init n).run sch).names[r + e]? = some (.int (k : Int)) := by rw [Gs.names_at wfg.toLn hre, if_pos gf, ga, nm_at hk3]
        refine x_ixL.mpr (IxLK.of (L.lstAt (xs := ((Gs.init n).run sch).names) (by walk_at "mem")) (v := .int (k : Int)) (by rw [show (r : Int) + (e : Int) = ((r + e : Nat) : Int) by omega]; exact atI_nat' hna) ?_)
        refine ⟨rfl, ?_⟩
        rw [decide_eq_true rfl, if_neg (by decide)]
        have U : Urn B4 H11 u ((np, .lst ((Gs.init n).run sch).names) :: (ca, .lst xs) :: l) _ := ⟨x1, z1, w1, L.sel (.cons (.tl .hd) (.cons .hd (.skip .all))), hur⟩
        refine ⟨B4, u, _, n, 400, _, rfl, U, by omega, hn1, by omega, by decide, fun B5 H12 f sch2 s5 U gv2 hsl2 => ?_⟩
        refine ⟨n, sch2, f, rfl, hn1, by omega, U.led.lstAt (xs := nv sch2) (by walk_at "mem"), gv2, by omega, fun H13 np2 LN => ?_⟩
        obtain ⟨x2, z2, w2, L, hur2⟩ := U
        have L := L.join LN
        have wfg2 := gv2.wf (Gs.init_wf n)
        walk_at "vc"
        refine CatK.of L (xs := ((Gs.init n).run sch).names) (ys := ((Gs.init n).run sch2).names) (by walk_at "mem") (by walk_at "mem") (Nat.le_trans (m := 100) (by rw [Gs.names_len wfg.toLn, Gs.names_len wfg2.toLn]; omega) (by decide)) fun gp H14 L => ?_
        have hgl : (((Gs.init n).run sch).names ++ ((Gs.init n).run sch2).names).length ≤ 60 := by rw [List.length_append, Gs.names_len wfg.toLn, Gs.names_len wfg2.toLn]; omega
        have hgk : V.int (k : Int) ∈ ((Gs.init n).run sch).names ++ ((Gs.init n).run sch2).names := List.mem_append_left _ (List.mem_of_getElem? hna)
        have hgv : ∀ x ∈ ((Gs.init n).run sch).names ++ ((Gs.init n).run sch2).names, x = .non ∨ ∃ i : Int, x = .int i ∧ i < (T : Int) := fun x hx => by
          rcases List.mem_append.mp hx with z | z
          · obtain ⟨jj, hjj⟩ := List.getElem?_of_mem z
            obtain ⟨hj1, y | y⟩ := names_kind wfg.toLn hjj
            · exact Or.inl y.2
            · exact Or.inr ⟨_, y, hTm _ (grid_near gv hj1)⟩
          · obtain ⟨jj, hjj⟩ := List.getElem?_of_mem z
            obtain ⟨hj1, y | y⟩ := names_kind wfg2.toLn hjj
            · exact Or.inl y.2
            · exact Or.inr ⟨_, y, hTm _ (grid_near gv2 hj1)⟩
        generalize ((Gs.init n).run sch).names ++ ((Gs.init n).run sch2).names = GV at *
        have U : Urn B5 H14 u ((gp, .lst GV) :: (ca, .lst xs) :: l) _ := ⟨x2, z2, w2, L.sel (.cons (.tl (.tl .hd)) (.cons .hd (.skip (.skip (.skip .all))))), hur2⟩
        clear L hur hur2
        walk_at "vc"
        refine ⟨⟨GV, U.led.lstAt (.head _)⟩, ?_⟩
        refine comp_list (xs := GV) (fun jj z acc H' => acc = ((GV.take jj).filterMap iOf).map V.int ∧ Urn B5 H' u ((z, .lst acc) :: (gp, .lst GV) :: (ca, .lst xs) :: l) (20000 * j + 15000)) (fun z hz => ⟨rfl, (U.map fun o L => (L.new hz).sel (by walk_at "sel")).up (by omega)⟩) (fun jj z acc H' h => h.2.led.lstAt (by walk_at "mem")) ?_ ?_
        · rintro z acc H15 ⟨rfl, U⟩
          rw [List.take_of_length_le (Nat.le_refl _)] at U
          have hpos : (k : Int) ∈ GV.filterMap iOf := List.mem_filterMap.mpr ⟨_, hgk, rfl⟩
          refine ⟨z, GV.filterMap iOf, rfl, U.led.lstAt (.head _), List.length_pos_of_mem hpos, fun mx hm _ => ?_⟩
          have hlt : mx < (T : Int) := by
            rcases hgv _ (mem_iOf hm) with y | ⟨i2, y, y2⟩
            · cases y
            · cases y; exact y2
          walk_at "vc"
          rw [if_neg (by omega)]
          exact hN2 _ _ ⟨_, _, _, _, _, _, _, B5, _, rfl, s4.trans s5, (U.sel (.skip (.cons (.tl .hd) .all))).up (by omega)⟩
        · rintro jj z acc H15 x N3 hx ⟨rfl, U⟩ hN3
          have hfl := List.length_filterMap_le iOf (GV.take jj)
          rw [List.length_take] at hfl
          unfold TurnK
          walk_at "vc"
          rcases hgv x (List.mem_of_getElem? hx) with y | ⟨i2, y, _⟩
          · subst y
            rw [decide_eq_true rfl, if_neg (by decide)]
            refine hN3 _ _ ⟨?_, U⟩
            rw [List.take_add_one, hx, List.filterMap_append]
            show _ = List.map V.int (_ ++ [])
            rw [List.append_nil]
          · subst y
            rw [decide_eq_false (fun z => by cases z), if_pos (by decide)]
            refine U.appK (xs := ((GV.take jj).filterMap iOf).map V.int) (.head _) (Nat.lt_of_lt_of_le (m := 100) (by rw [List.length_map]; omega) (by decide)) .hd fun H16 U => hN3 _ _ ⟨?_, U⟩
            rw [List.take_add_one, hx, List.filterMap_append, List.map_append]
            rfl
      · obtain ⟨y4, y5, y6, y7, y8, y9, y10, B4, l, rfl, s4, U⟩ := h
        walk_at "vc"
        refine dip_go U (by omega) (by decide) (by decide) fun H5 f1 U a1 b1 => ?_
        refine dip_go U (by omega) (by decide) (by decide) fun H6 f2 U a2 b2 => ?_
        refine dip_go U (by omega) (by decide) (by decide) fun H7 f3 U a3 b3 => ?_
        refine dip_go U (by omega) (by decide) (by decide) fun H8 f4 U a4 b4 => ?_
        refine U.new fun fp H9 U => ?_
        refine ⟨⟨_, U.led.lstAt (.head _)⟩, ?_⟩
        refine loop_list (xs := [V.int f1, V.int f2, V.int f3, V.int f4]) (fun ii σ H' => ∃ y5, σ = [some (.ref a), some (.ref ca), some (.int (i : Int)), some (.ref u), y4, y5, y6, y7, y8, y9, y10] ∧ Urn B4 H' u ((fp, .lst [V.int f1, V.int f2, V.int f3, V.int f4]) :: (ca, .lst xs) :: l) 100000) ⟨_, rfl, U.up (by omega)⟩ (fun ii σ H' _ ⟨_, _, U⟩ => U.led.lstAt (.head _)) (fun ii x σ H10 N3 hx h hN3 => ?_) (fun σ H10 h => ?_)
        · obtain ⟨y5, rfl, U⟩ := h
          obtain ⟨f, rfl, hf0, hf1⟩ : ∃ f : Int, x = .int f ∧ 0 ≤ f ∧ f < 1000000000000000 := by
            have := List.mem_of_getElem? hx
            simp only [List.mem_cons, List.not_mem_nil, or_false] at this
            rcases this with z | z | z | z <;> exact ⟨_, z, by omega, by omega⟩
          walk_at "vc"
          have tb := tri_big (x := f + 1) (y := f + 1 + 1) (by omega) (by omega) (by omega) (by omega)
          refine ⟨f + 1, rfl, by omega, by omega, ?_⟩
          refine RepQ.big tb.2 ?_
          refine ⟨Or.inl ⟨by omega, by omega⟩, ⟨by decide, by decide⟩, ?_⟩
          rw [show f + 2 = f + 1 + 1 by omega]
          refine RepQ.big tb.2 ?_
          rw [decide_eq_true rfl, if_neg (by decide)]
          exact hN3 _ _ ⟨_, rfl, U⟩
        · obtain ⟨y5, rfl, U⟩ := h
          exact hN _ _ ⟨_, _, _, _, _, _, _, _, _, B4, _, rfl, s4, U.led.sel (.skip .all)⟩
    · obtain ⟨y2, y3, y4, y5, y6, y7, y8, y9, y10, B2, l, rfl, s2, L⟩ := h
      walk_at "vc"
      refine ⟨by decide, by decide, by decide, by decide, ?_⟩
      refine comp_range (fun j z acc H' => acc = [] ∧ Led B2 H' ((z, .lst acc) :: (ca, .lst xs) :: l)) (fun z hz => ⟨rfl, L.new hz⟩) ?_ ?_
      · rintro z acc H3 ⟨rfl, L⟩
        refine NewK.of L fun e0 H4 L => ?_
        refine ne_nv0 (l := []) (L.lstAt (xs := nv []) (by walk_at "mem")) (L.lstAt (by walk_at "mem")) ?_
        refine ⟨_, rfl, ?_⟩
        rw [show (!([] : List Nat).isEmpty) = false from rfl, if_neg Bool.false_ne_true]
        refine ⟨1000000000000000, rfl, by decide, by decide, ?_⟩
        refine ⟨Or.inl ⟨by decide, by decide⟩, ⟨by decide, by decide⟩, rfl, ?_⟩
        rw [if_pos (congrArg V.int (by decide))]
        refine ⟨1, rfl, by decide, by decide, rfl, ?_⟩
        rw [decide_eq_true (congrArg V.int (by decide))]
        exact q _
      · rintro j z acc H3 N hj ⟨rfl, L⟩ hN
        unfold TurnK
        walk_at "vc"
        refine ⟨1 + (j : Int), rfl, by omega, by omega, ?_⟩
        refine ⟨Or.inl ⟨by omega, by omega⟩, ⟨by decide, by decide⟩, rfl, ?_⟩
        rw [decide_eq_true rfl, if_neg (by decide)]
        exact hN _ _ ⟨rfl, L⟩
theorem law_end {K : PySem.W.Frag} {H : Hp} {a : Addr} {ns : List Int} (hl : ns.length ≤ 63) (hb : ∀ z ∈ ns, Builtin.Int.intBits z ≤ 1048576) (hS : SqL K H a (ns.map V.int)) : sp_law K [.ref a] H (fun v _ => v = .bl true) fun _ _ _ => False :=
  ⟨a, ns, rfl, hS, hl, fun _ => rfl⟩
end
theorem all_mk {q : Program} (hq : PyProof.Rows.importsNone q = true) {l : PySem.W.OpenLaw} {w : World} {K : PySem.W.Frag} {h : Heap} {mg : Str → Option Value} {fa : Addr} (X : K.In h) (G : h.Ns mainGlobals mg) (hfa : mg "law" = some (.ref fa))
    {f0 f1 f2 f3 f4 f5 f6 f7 f8 f9 f10 f11 f12 f13 f14 f15 f16 f17 f18 f19 f20 f21 f22 f23 f24 f25 f26 cC0 cC1 : Addr} {od0 an0 od1 an1 od2 an2 od3 an3 od4 an4 od5 an5 od6 an6 od7 an7 od8 an8 od9 an9 od10 an10 od11 an11 od12 an12 od13 an13 od14 an14 od15 an15 od16 an16 od17 an17 od18 an18 od19 an19 od20 an20 od21 an21 od22 an22 od23 an23 od24 an24 od25 an25 od26 an26 : Option Addr} {sl0 sl1 sl2 sl3 sl4 sl5 sl6 sl7 sl8 sl9 sl10 sl11 sl12 sl13 sl14 sl15 sl16 sl17 sl18 sl19 sl20 sl21 sl22 sl23 sl24 sl25 sl26 : Array (Option Value)} {oc0 kV0 dc0 pm0 cd0 ct0 oc1 kV1 dc1 pm1 cd1 ct1 oc2 kV2 dc2 pm2 cd2 ct2 oc3 kV3 dc3 pm3 cd3 ct3 oc4 kV4 dc4 pm4 cd4 ct4 oc5 kV5 dc5 pm5 cd5 ct5 oc6 kV6 dc6 pm6 cd6 ct6 oc7 kV7 dc7 pm7 cd7 ct7 oc8 kV8 dc8 pm8 cd8 ct8 oc9 kV9 dc9 pm9 cd9 ct9 oc10 kV10 dc10 pm10 cd10 ct10 oc11 kV11 dc11 pm11 cd11 ct11 oc12 kV12 dc12 pm12 cd12 ct12 oc13 kV13 dc13 pm13 cd13 ct13 oc14 kV14 dc14 pm14 cd14 ct14 oc15 kV15 dc15 pm15 cd15 ct15 oc16 kV16 dc16 pm16 cd16 ct16 oc17 kV17 dc17 pm17 cd17 ct17 oc18 kV18 dc18 pm18 cd18 ct18 oc19 kV19 dc19 pm19 cd19 ct19 oc20 kV20 dc20 pm20 cd20 ct20 oc21 kV21 dc21 pm21 cd21 ct21 oc22 kV22 dc22 pm22 cd22 ct22 oc23 kV23 dc23 pm23 cd23 ct23 oc24 kV24 dc24 pm24 cd24 ct24 oc25 kV25 dc25 pm25 cd25 ct25 oc26 kV26 dc26 pm26 cd26 ct26 : Value} {tk0 tk1 tk2 : Tok}
    (ac0 : PySem.W.nsIn K mainGlobals "Splitter" = some (some (.ref cC0)))
    (ac1 : PySem.W.nsIn K mainGlobals "Walk" = some (some (.ref cC1)))
    (a0 : PySem.W.nsIn K mainGlobals "is_integer" = some (some (.ref f0)))
    (l0 : K.lookup f0 = some ⟨oc0, od0, .func (PySem.W.fnOf "is_integer" "is_integer" (defArgs s_is_integer) (defBody s_is_integer) (defScope s_is_integer) .none kV0 dc0 pm0 an0 cd0 ct0), sl0⟩)
    (c0 : PySem.W.codeIn K cd0 "is_integer" = true)
    (k0 : PySem.W.keepIn K (.ref f0) = true)
    (a1 : PySem.W.nsIn K mainGlobals "is_integer_within" = some (some (.ref f1)))
    (l1 : K.lookup f1 = some ⟨oc1, od1, .func (PySem.W.fnOf "is_integer_within" "is_integer_within" (defArgs s_is_integer_within) (defBody s_is_integer_within) (defScope s_is_integer_within) .none kV1 dc1 pm1 an1 cd1 ct1), sl1⟩)
    (c1 : PySem.W.codeIn K cd1 "is_integer_within" = true)
    (k1 : PySem.W.keepIn K (.ref f1) = true)
    (a2 : PySem.W.nsIn K mainGlobals "check_count" = some (some (.ref f2)))
    (l2 : K.lookup f2 = some ⟨oc2, od2, .func (PySem.W.fnOf "check_count" "check_count" (defArgs s_check_count) (defBody s_check_count) (defScope s_check_count) .none kV2 dc2 pm2 an2 cd2 ct2), sl2⟩)
    (c2 : PySem.W.codeIn K cd2 "check_count" = true)
    (k2 : PySem.W.keepIn K (.ref f2) = true)
    (a3 : PySem.W.nsIn K mainGlobals "_cells_before" = some (some (.ref f3)))
    (l3 : K.lookup f3 = some ⟨oc3, od3, .func (PySem.W.fnOf "_cells_before" "_cells_before" (defArgs s_cells_before) (defBody s_cells_before) (defScope s_cells_before) .none kV3 dc3 pm3 an3 cd3 ct3), sl3⟩)
    (c3 : PySem.W.codeIn K cd3 "_cells_before" = true)
    (k3 : PySem.W.keepIn K (.ref f3) = true)
    (a4 : PySem.W.nsIn K mainGlobals "most_names" = some (some (.ref f4)))
    (l4 : K.lookup f4 = some ⟨oc4, od4, .func (PySem.W.fnOf "most_names" "most_names" (defArgs s_most_names) (defBody s_most_names) (defScope s_most_names) .none kV4 dc4 pm4 an4 cd4 ct4), sl4⟩)
    (c4 : PySem.W.codeIn K cd4 "most_names" = true)
    (k4 : PySem.W.keepIn K (.ref f4) = true)
    (a5 : PySem.W.findIn K (.ref cC1) "__init__" = some (some (.ref f5)))
    (i5 : PySem.W.isFn K (.ref f5) = true)
    (l5 : K.lookup f5 = some ⟨oc5, od5, .func (PySem.W.fnOf "__init__" "Walk.__init__" (defArgs s_Walk___init__) (defBody s_Walk___init__) (defScope s_Walk___init__) .none kV5 dc5 pm5 an5 cd5 ct5), sl5⟩)
    (c5 : PySem.W.codeIn K cd5 "Walk.__init__" = true)
    (k5 : PySem.W.keepIn K (.ref f5) = true)
    (a6 : PySem.W.findIn K (.ref cC0) "perform" = some (some (.ref f6)))
    (i6 : PySem.W.isFn K (.ref f6) = true)
    (l6 : K.lookup f6 = some ⟨oc6, od6, .func (PySem.W.fnOf "perform" "Splitter.perform" (defArgs s_Splitter_perform) (defBody s_Splitter_perform) (defScope s_Splitter_perform) .none kV6 dc6 pm6 an6 cd6 ct6), sl6⟩)
    (c6 : PySem.W.codeIn K cd6 "Splitter.perform" = true)
    (k6 : PySem.W.keepIn K (.ref f6) = true)
    (a7 : PySem.W.nsIn K mainGlobals "_check_coordinate" = some (some (.ref f7)))
    (l7 : K.lookup f7 = some ⟨oc7, od7, .func (PySem.W.fnOf "_check_coordinate" "_check_coordinate" (defArgs s_check_coordinate) (defBody s_check_coordinate) (defScope s_check_coordinate) .none kV7 dc7 pm7 an7 cd7 ct7), sl7⟩)
    (c7 : PySem.W.codeIn K cd7 "_check_coordinate" = true)
    (k7 : PySem.W.keepIn K (.ref f7) = true)
    (a8 : PySem.W.nsIn K mainGlobals "name_of" = some (some (.ref f8)))
    (l8 : K.lookup f8 = some ⟨oc8, od8, .func (PySem.W.fnOf "name_of" "name_of" (defArgs s_name_of) (defBody s_name_of) (defScope s_name_of) .none kV8 dc8 pm8 an8 cd8 ct8), sl8⟩)
    (c8 : PySem.W.codeIn K cd8 "name_of" = true)
    (k8 : PySem.W.keepIn K (.ref f8) = true)
    (a9 : PySem.W.findIn K (.ref cC1) "_end_in_cell" = some (some (.ref f9)))
    (i9 : PySem.W.isFn K (.ref f9) = true)
    (l9 : K.lookup f9 = some ⟨oc9, od9, .func (PySem.W.fnOf "_end_in_cell" "Walk._end_in_cell" (defArgs s_Walk__end_in_cell) (defBody s_Walk__end_in_cell) (defScope s_Walk__end_in_cell) .none kV9 dc9 pm9 an9 cd9 ct9), sl9⟩)
    (c9 : PySem.W.codeIn K cd9 "Walk._end_in_cell" = true)
    (k9 : PySem.W.keepIn K (.ref f9) = true)
    (a10 : PySem.W.findIn K (.ref cC0) "__init__" = some (some (.ref f10)))
    (i10 : PySem.W.isFn K (.ref f10) = true)
    (l10 : K.lookup f10 = some ⟨oc10, od10, .func (PySem.W.fnOf "__init__" "Splitter.__init__" (defArgs s_Splitter___init__) (defBody s_Splitter___init__) (defScope s_Splitter___init__) .none kV10 dc10 pm10 an10 cd10 ct10), sl10⟩)
    (c10 : PySem.W.codeIn K cd10 "Splitter.__init__" = true)
    (k10 : PySem.W.keepIn K (.ref f10) = true)
    (a11 : PySem.W.findIn K (.ref cC1) "_splitter_at" = some (some (.ref f11)))
    (i11 : PySem.W.isFn K (.ref f11) = true)
    (l11 : K.lookup f11 = some ⟨oc11, od11, .func (PySem.W.fnOf "_splitter_at" "Walk._splitter_at" (defArgs s_Walk__splitter_at) (defBody s_Walk__splitter_at) (defScope s_Walk__splitter_at) .none kV11 dc11 pm11 an11 cd11 ct11), sl11⟩)
    (c11 : PySem.W.codeIn K cd11 "Walk._splitter_at" = true)
    (k11 : PySem.W.keepIn K (.ref f11) = true)
    (a12 : PySem.W.findIn K (.ref cC1) "step" = some (some (.ref f12)))
    (i12 : PySem.W.isFn K (.ref f12) = true)
    (l12 : K.lookup f12 = some ⟨oc12, od12, .func (PySem.W.fnOf "step" "Walk.step" (defArgs s_Walk_step) (defBody s_Walk_step) (defScope s_Walk_step) .none kV12 dc12 pm12 an12 cd12 ct12), sl12⟩)
    (c12 : PySem.W.codeIn K cd12 "Walk.step" = true)
    (k12 : PySem.W.keepIn K (.ref f12) = true)
    (a13 : PySem.W.findIn K (.ref cC1) "can_step" = some (some (.ref f13)))
    (i13 : PySem.W.isFn K (.ref f13) = true)
    (l13 : K.lookup f13 = some ⟨oc13, od13, .func (PySem.W.fnOf "can_step" "Walk.can_step" (defArgs s_Walk_can_step) (defBody s_Walk_can_step) (defScope s_Walk_can_step) .none kV13 dc13 pm13 an13 cd13 ct13), sl13⟩)
    (c13 : PySem.W.codeIn K cd13 "Walk.can_step" = true)
    (k13 : PySem.W.keepIn K (.ref f13) = true)
    (a14 : PySem.W.nsIn K mainGlobals "perform_schedule" = some (some (.ref f14)))
    (l14 : K.lookup f14 = some ⟨oc14, od14, .func (PySem.W.fnOf "perform_schedule" "perform_schedule" (defArgs s_perform_schedule) (defBody s_perform_schedule) (defScope s_perform_schedule) .none kV14 dc14 pm14 an14 cd14 ct14), sl14⟩)
    (c14 : PySem.W.codeIn K cd14 "perform_schedule" = true)
    (k14 : PySem.W.keepIn K (.ref f14) = true)
    (a15 : PySem.W.nsIn K mainGlobals "walk_after" = some (some (.ref f15)))
    (l15 : K.lookup f15 = some ⟨oc15, od15, .func (PySem.W.fnOf "walk_after" "walk_after" (defArgs s_walk_after) (defBody s_walk_after) (defScope s_walk_after) .none kV15 dc15 pm15 an15 cd15 ct15), sl15⟩)
    (c15 : PySem.W.codeIn K cd15 "walk_after" = true)
    (k15 : PySem.W.keepIn K (.ref f15) = true)
    (a16 : PySem.W.nsIn K mainGlobals "names_after" = some (some (.ref f16)))
    (l16 : K.lookup f16 = some ⟨oc16, od16, .func (PySem.W.fnOf "names_after" "names_after" (defArgs s_names_after) (defBody s_names_after) (defScope s_names_after) .none kV16 dc16 pm16 an16 cd16 ct16), sl16⟩)
    (c16 : PySem.W.codeIn K cd16 "names_after" = true)
    (k16 : PySem.W.keepIn K (.ref f16) = true)
    (a17 : PySem.W.nsIn K mainGlobals "_law_cells" = some (some (.ref f17)))
    (l17 : K.lookup f17 = some ⟨oc17, od17, .func (PySem.W.fnOf "_law_cells" "_law_cells" (defArgs s_law_cells) (defBody s_law_cells) (defScope s_law_cells) .none kV17 dc17 pm17 an17 cd17 ct17), sl17⟩)
    (c17 : PySem.W.codeIn K cd17 "_law_cells" = true)
    (k17 : PySem.W.keepIn K (.ref f17) = true)
    (a18 : PySem.W.nsIn K mainGlobals "_law_urn" = some (some (.ref f18)))
    (l18 : K.lookup f18 = some ⟨oc18, od18, .func (PySem.W.fnOf "_law_urn" "_law_urn" (defArgs s_law_urn) (defBody s_law_urn) (defScope s_law_urn) .none kV18 dc18 pm18 an18 cd18 ct18), sl18⟩)
    (c18 : PySem.W.codeIn K cd18 "_law_urn" = true)
    (k18 : PySem.W.keepIn K (.ref f18) = true)
    (a19 : PySem.W.nsIn K mainGlobals "_law_dip" = some (some (.ref f19)))
    (l19 : K.lookup f19 = some ⟨oc19, od19, .func (PySem.W.fnOf "_law_dip" "_law_dip" (defArgs s_law_dip) (defBody s_law_dip) (defScope s_law_dip) .none kV19 dc19 pm19 an19 cd19 ct19), sl19⟩)
    (c19 : PySem.W.codeIn K cd19 "_law_dip" = true)
    (k19 : PySem.W.keepIn K (.ref f19) = true)
    (a20 : PySem.W.nsIn K mainGlobals "_law_twice" = some (some (.ref f20)))
    (l20 : K.lookup f20 = some ⟨oc20, od20, .func (PySem.W.fnOf "_law_twice" "_law_twice" (defArgs s_law_twice) (defBody s_law_twice) (defScope s_law_twice) .none kV20 dc20 pm20 an20 cd20 ct20), sl20⟩)
    (c20 : PySem.W.codeIn K cd20 "_law_twice" = true)
    (k20 : PySem.W.keepIn K (.ref f20) = true)
    (a21 : PySem.W.nsIn K mainGlobals "_law_way" = some (some (.ref f21)))
    (l21 : K.lookup f21 = some ⟨oc21, od21, .func (PySem.W.fnOf "_law_way" "_law_way" (defArgs s_law_way) (defBody s_law_way) (defScope s_law_way) .none kV21 dc21 pm21 an21 cd21 ct21), sl21⟩)
    (c21 : PySem.W.codeIn K cd21 "_law_way" = true)
    (k21 : PySem.W.keepIn K (.ref f21) = true)
    (a22 : PySem.W.nsIn K mainGlobals "_law_begun" = some (some (.ref f22)))
    (l22 : K.lookup f22 = some ⟨oc22, od22, .func (PySem.W.fnOf "_law_begun" "_law_begun" (defArgs s_law_begun) (defBody s_law_begun) (defScope s_law_begun) .none kV22 dc22 pm22 an22 cd22 ct22), sl22⟩)
    (c22 : PySem.W.codeIn K cd22 "_law_begun" = true)
    (k22 : PySem.W.keepIn K (.ref f22) = true)
    (a23 : PySem.W.nsIn K mainGlobals "_law_gone" = some (some (.ref f23)))
    (l23 : K.lookup f23 = some ⟨oc23, od23, .func (PySem.W.fnOf "_law_gone" "_law_gone" (defArgs s_law_gone) (defBody s_law_gone) (defScope s_law_gone) .none kV23 dc23 pm23 an23 cd23 ct23), sl23⟩)
    (c23 : PySem.W.codeIn K cd23 "_law_gone" = true)
    (k23 : PySem.W.keepIn K (.ref f23) = true)
    (a24 : PySem.W.nsIn K mainGlobals "_law_moved" = some (some (.ref f24)))
    (l24 : K.lookup f24 = some ⟨oc24, od24, .func (PySem.W.fnOf "_law_moved" "_law_moved" (defArgs s_law_moved) (defBody s_law_moved) (defScope s_law_moved) .none kV24 dc24 pm24 an24 cd24 ct24), sl24⟩)
    (c24 : PySem.W.codeIn K cd24 "_law_moved" = true)
    (k24 : PySem.W.keepIn K (.ref f24) = true)
    (a25 : PySem.W.nsIn K mainGlobals "_law_schedule" = some (some (.ref f25)))
    (l25 : K.lookup f25 = some ⟨oc25, od25, .func (PySem.W.fnOf "_law_schedule" "_law_schedule" (defArgs s_law_schedule) (defBody s_law_schedule) (defScope s_law_schedule) .none kV25 dc25 pm25 an25 cd25 ct25), sl25⟩)
    (c25 : PySem.W.codeIn K cd25 "_law_schedule" = true)
    (k25 : PySem.W.keepIn K (.ref f25) = true)
    (a26 : PySem.W.nsIn K mainGlobals "law" = some (some (.ref f26)))
    (l26 : K.lookup f26 = some ⟨oc26, od26, .func (PySem.W.fnOf "law" "law" (defArgs s_law) (defBody s_law) (defScope s_law) .none kV26 dc26 pm26 an26 cd26 ct26), sl26⟩)
    (c26 : PySem.W.codeIn K cd26 "law" = true)
    (k26 : PySem.W.keepIn K (.ref f26) = true)
    (pg0 : PySem.W.plainGet K cC0 Str.empty = true)
    (hd0 : PySem.W.hasDictIn K cC0 = true)
    (po0 : PySem.W.plainOver K cC0 = true)
    (sa0 : PySem.W.findIn K (.ref cC0) "__setattr__" = some (some (.builtin "object.__setattr__")))
    (mk0 : PySem.W.makesIn K cC0 = true)
    (kc0 : PySem.W.keepIn K (.ref cC0) = true)
    (x0_writer : PySem.W.findIn K (.ref cC0) "writer" = some none)
    (x0_closed : PySem.W.findIn K (.ref cC0) "closed" = some none)
    (pg1 : PySem.W.plainGet K cC1 Str.empty = true)
    (hd1 : PySem.W.hasDictIn K cC1 = true)
    (po1 : PySem.W.plainOver K cC1 = true)
    (sa1 : PySem.W.findIn K (.ref cC1) "__setattr__" = some (some (.builtin "object.__setattr__")))
    (mk1 : PySem.W.makesIn K cC1 = true)
    (kc1 : PySem.W.keepIn K (.ref cC1) = true)
    (x1_cells : PySem.W.findIn K (.ref cC1) "cells" = some none)
    (x1_places : PySem.W.findIn K (.ref cC1) "places" = some none)
    (x1_done : PySem.W.findIn K (.ref cC1) "done" = some none)
    (x1_names : PySem.W.findIn K (.ref cC1) "names" = some none)
    (x1_steps : PySem.W.findIn K (.ref cC1) "steps" = some none)
    (x1_reports : PySem.W.findIn K (.ref cC1) "reports" = some none)
    (z_bool : PySem.W.nsIn K mainGlobals "bool" = some none)
    (z_int : PySem.W.nsIn K mainGlobals "int" = some none)
    (z_isinstance : PySem.W.nsIn K mainGlobals "isinstance" = some none)
    (z_len : PySem.W.nsIn K mainGlobals "len" = some none)
    (z_list : PySem.W.nsIn K mainGlobals "list" = some none)
    (z_max : PySem.W.nsIn K mainGlobals "max" = some none)
    (z_min : PySem.W.nsIn K mainGlobals "min" = some none)
    (z_range : PySem.W.nsIn K mainGlobals "range" = some none)
    (z_repr : PySem.W.nsIn K mainGlobals "repr" = some none)
    (z_sum : PySem.W.nsIn K mainGlobals "sum" = some none)
    (q0 : PySem.W.nsIn K mainGlobals "GREATEST_COORDINATE" = some (some (.int (1000000000000000) tk0)))
    (q1 : PySem.W.nsIn K mainGlobals "GREATEST_COUNT_grid" = some (some (.int (1000000000000000) tk1)))
    (q2 : PySem.W.nsIn K mainGlobals "GREATEST_COUNT_splitters" = some (some (.int (40) tk2))) :
    ∃ fd : FuncData, (∀ (s : Shared) (v : Value), BindsTo s fd ⟨[v], []⟩ [("script", v)]) ∧ ∀ bs : Heap, K.In bs → bs.Ns mainGlobals mg → (PyProof.Rows.importsNone q = true → ∃ mm, bs.Ns sysModules mm) → Fg l.prog w K mg bs CX0 10 fa fd ["script"] (sp_law K) := by
  have e := hfa.symm.trans (PySem.W.mg_of X G a26)
  cases e
  have F0 := fun_mk (st := s_is_integer) l0 c0 k0
  have b0 := F0.binds (ps := ["value"]) fun _ _ _ _ _ _ us hl => match us, hl with | [_], _ => rfl
  have F1 := fun_mk (st := s_is_integer_within) l1 c1 k1
  have b1 := F1.binds (ps := ["value", "least", "greatest"]) fun _ _ _ _ _ _ us hl => match us, hl with | [_, _, _], _ => rfl
  have F2 := fun_mk (st := s_check_count) l2 c2 k2
  have b2 := F2.binds (ps := ["count", "greatest"]) fun _ _ _ _ _ _ us hl => match us, hl with | [_, _], _ => rfl
  have F3 := fun_mk (st := s_cells_before) l3 c3 k3
  have b3 := F3.binds (ps := ["diagonal"]) fun _ _ _ _ _ _ us hl => match us, hl with | [_], _ => rfl
  have F4 := fun_mk (st := s_most_names) l4 c4 k4
  have b4 := F4.binds (ps := ["count"]) fun _ _ _ _ _ _ us hl => match us, hl with | [_], _ => rfl
  have F5 := fun_mk (st := s_Walk___init__) l5 c5 k5
  have b5 := F5.binds (ps := ["self", "count"]) fun _ _ _ _ _ _ us hl => match us, hl with | [_, _], _ => rfl
  have F6 := fun_mk (st := s_Splitter_perform) l6 c6 k6
  have b6 := F6.binds (ps := ["self", "process", "done"]) fun _ _ _ _ _ _ us hl => match us, hl with | [_, _, _], _ => rfl
  have F7 := fun_mk (st := s_check_coordinate) l7 c7 k7
  have b7 := F7.binds (ps := ["value"]) fun _ _ _ _ _ _ us hl => match us, hl with | [_], _ => rfl
  have F8 := fun_mk (st := s_name_of) l8 c8 k8
  have b8 := F8.binds (ps := ["right", "down"]) fun _ _ _ _ _ _ us hl => match us, hl with | [_, _], _ => rfl
  have F9 := fun_mk (st := s_Walk__end_in_cell) l9 c9 k9
  have b9 := F9.binds (ps := ["self", "process", "result"]) fun _ _ _ _ _ _ us hl => match us, hl with | [_, _, _], _ => rfl
  have F10 := fun_mk (st := s_Splitter___init__) l10 c10 k10
  have b10 := F10.binds (ps := ["self"]) fun _ _ _ _ _ _ us hl => match us, hl with | [_], _ => rfl
  have F11 := fun_mk (st := s_Walk__splitter_at) l11 c11 k11
  have b11 := F11.binds (ps := ["self", "place"]) fun _ _ _ _ _ _ us hl => match us, hl with | [_, _], _ => rfl
  have F12 := fun_mk (st := s_Walk_step) l12 c12 k12
  have b12 := F12.binds (ps := ["self", "process"]) fun _ _ _ _ _ _ us hl => match us, hl with | [_, _], _ => rfl
  have F13 := fun_mk (st := s_Walk_can_step) l13 c13 k13
  have b13 := F13.binds (ps := ["self", "process"]) fun _ _ _ _ _ _ us hl => match us, hl with | [_, _], _ => rfl
  have F14 := fun_mk (st := s_perform_schedule) l14 c14 k14
  have b14 := F14.binds (ps := ["run", "schedule"]) fun _ _ _ _ _ _ us hl => match us, hl with | [_, _], _ => rfl
  have F15 := fun_mk (st := s_walk_after) l15 c15 k15
  have b15 := F15.binds (ps := ["count", "schedule"]) fun _ _ _ _ _ _ us hl => match us, hl with | [_, _], _ => rfl
  have F16 := fun_mk (st := s_names_after) l16 c16 k16
  have b16 := F16.binds (ps := ["count", "schedule"]) fun _ _ _ _ _ _ us hl => match us, hl with | [_, _], _ => rfl
  have F17 := fun_mk (st := s_law_cells) l17 c17 k17
  have b17 := F17.binds (ps := ["diagonals"]) fun _ _ _ _ _ _ us hl => match us, hl with | [_], _ => rfl
  have F18 := fun_mk (st := s_law_urn) l18 c18 k18
  have b18 := F18.binds (ps := ["script", "k"]) fun _ _ _ _ _ _ us hl => match us, hl with | [_, _], _ => rfl
  have F19 := fun_mk (st := s_law_dip) l19 c19 k19
  have b19 := F19.binds (ps := ["urn", "size"]) fun _ _ _ _ _ _ us hl => match us, hl with | [_, _], _ => rfl
  have F20 := fun_mk (st := s_law_twice) l20 c20 k20
  have b20 := F20.binds (ps := ["row"]) fun _ _ _ _ _ _ us hl => match us, hl with | [_], _ => rfl
  have F21 := fun_mk (st := s_law_way) l21 c21 k21
  have b21 := F21.binds (ps := ["urn", "cell"]) fun _ _ _ _ _ _ us hl => match us, hl with | [_, _], _ => rfl
  have F22 := fun_mk (st := s_law_begun) l22 c22 k22
  have b22 := F22.binds (ps := ["size"]) fun _ _ _ _ _ _ us hl => match us, hl with | [_], _ => rfl
  have F23 := fun_mk (st := s_law_gone) l23 c23 k23
  have b23 := F23.binds (ps := ["state", "who", "way"]) fun _ _ _ _ _ _ us hl => match us, hl with | [_, _, _], _ => rfl
  have F24 := fun_mk (st := s_law_moved) l24 c24 k24
  have b24 := F24.binds (ps := ["state", "who"]) fun _ _ _ _ _ _ us hl => match us, hl with | [_, _], _ => rfl
  have F25 := fun_mk (st := s_law_schedule) l25 c25 k25
  have b25 := F25.binds (ps := ["urn", "size", "most"]) fun _ _ _ _ _ _ us hl => match us, hl with | [_, _, _], _ => rfl
  have F26 := fun_mk (st := s_law) l26 c26 k26
  have b26 := F26.binds (ps := ["script"]) fun _ _ _ _ _ _ us hl => match us, hl with | [_], _ => rfl
  have m : Mo K mg ⟨f0, (PySem.W.fnOf "is_integer" "is_integer" (defArgs s_is_integer) (defBody s_is_integer) (defScope s_is_integer) .none kV0 dc0 pm0 an0 cd0 ct0), f1, (PySem.W.fnOf "is_integer_within" "is_integer_within" (defArgs s_is_integer_within) (defBody s_is_integer_within) (defScope s_is_integer_within) .none kV1 dc1 pm1 an1 cd1 ct1), f2, (PySem.W.fnOf "check_count" "check_count" (defArgs s_check_count) (defBody s_check_count) (defScope s_check_count) .none kV2 dc2 pm2 an2 cd2 ct2), f3, (PySem.W.fnOf "_cells_before" "_cells_before" (defArgs s_cells_before) (defBody s_cells_before) (defScope s_cells_before) .none kV3 dc3 pm3 an3 cd3 ct3), f4, (PySem.W.fnOf "most_names" "most_names" (defArgs s_most_names) (defBody s_most_names) (defScope s_most_names) .none kV4 dc4 pm4 an4 cd4 ct4), f5, (PySem.W.fnOf "__init__" "Walk.__init__" (defArgs s_Walk___init__) (defBody s_Walk___init__) (defScope s_Walk___init__) .none kV5 dc5 pm5 an5 cd5 ct5), f6, (PySem.W.fnOf "perform" "Splitter.perform" (defArgs s_Splitter_perform) (defBody s_Splitter_perform) (defScope s_Splitter_perform) .none kV6 dc6 pm6 an6 cd6 ct6), f7, (PySem.W.fnOf "_check_coordinate" "_check_coordinate" (defArgs s_check_coordinate) (defBody s_check_coordinate) (defScope s_check_coordinate) .none kV7 dc7 pm7 an7 cd7 ct7), f8, (PySem.W.fnOf "name_of" "name_of" (defArgs s_name_of) (defBody s_name_of) (defScope s_name_of) .none kV8 dc8 pm8 an8 cd8 ct8), f9, (PySem.W.fnOf "_end_in_cell" "Walk._end_in_cell" (defArgs s_Walk__end_in_cell) (defBody s_Walk__end_in_cell) (defScope s_Walk__end_in_cell) .none kV9 dc9 pm9 an9 cd9 ct9), f10, (PySem.W.fnOf "__init__" "Splitter.__init__" (defArgs s_Splitter___init__) (defBody s_Splitter___init__) (defScope s_Splitter___init__) .none kV10 dc10 pm10 an10 cd10 ct10), f11, (PySem.W.fnOf "_splitter_at" "Walk._splitter_at" (defArgs s_Walk__splitter_at) (defBody s_Walk__splitter_at) (defScope s_Walk__splitter_at) .none kV11 dc11 pm11 an11 cd11 ct11), f12, (PySem.W.fnOf "step" "Walk.step" (defArgs s_Walk_step) (defBody s_Walk_step) (defScope s_Walk_step) .none kV12 dc12 pm12 an12 cd12 ct12), f13, (PySem.W.fnOf "can_step" "Walk.can_step" (defArgs s_Walk_can_step) (defBody s_Walk_can_step) (defScope s_Walk_can_step) .none kV13 dc13 pm13 an13 cd13 ct13), f14, (PySem.W.fnOf "perform_schedule" "perform_schedule" (defArgs s_perform_schedule) (defBody s_perform_schedule) (defScope s_perform_schedule) .none kV14 dc14 pm14 an14 cd14 ct14), f15, (PySem.W.fnOf "walk_after" "walk_after" (defArgs s_walk_after) (defBody s_walk_after) (defScope s_walk_after) .none kV15 dc15 pm15 an15 cd15 ct15), f16, (PySem.W.fnOf "names_after" "names_after" (defArgs s_names_after) (defBody s_names_after) (defScope s_names_after) .none kV16 dc16 pm16 an16 cd16 ct16), f17, (PySem.W.fnOf "_law_cells" "_law_cells" (defArgs s_law_cells) (defBody s_law_cells) (defScope s_law_cells) .none kV17 dc17 pm17 an17 cd17 ct17), f18, (PySem.W.fnOf "_law_urn" "_law_urn" (defArgs s_law_urn) (defBody s_law_urn) (defScope s_law_urn) .none kV18 dc18 pm18 an18 cd18 ct18), f19, (PySem.W.fnOf "_law_dip" "_law_dip" (defArgs s_law_dip) (defBody s_law_dip) (defScope s_law_dip) .none kV19 dc19 pm19 an19 cd19 ct19), f20, (PySem.W.fnOf "_law_twice" "_law_twice" (defArgs s_law_twice) (defBody s_law_twice) (defScope s_law_twice) .none kV20 dc20 pm20 an20 cd20 ct20), f21, (PySem.W.fnOf "_law_way" "_law_way" (defArgs s_law_way) (defBody s_law_way) (defScope s_law_way) .none kV21 dc21 pm21 an21 cd21 ct21), f22, (PySem.W.fnOf "_law_begun" "_law_begun" (defArgs s_law_begun) (defBody s_law_begun) (defScope s_law_begun) .none kV22 dc22 pm22 an22 cd22 ct22), f23, (PySem.W.fnOf "_law_gone" "_law_gone" (defArgs s_law_gone) (defBody s_law_gone) (defScope s_law_gone) .none kV23 dc23 pm23 an23 cd23 ct23), f24, (PySem.W.fnOf "_law_moved" "_law_moved" (defArgs s_law_moved) (defBody s_law_moved) (defScope s_law_moved) .none kV24 dc24 pm24 an24 cd24 ct24), f25, (PySem.W.fnOf "_law_schedule" "_law_schedule" (defArgs s_law_schedule) (defBody s_law_schedule) (defScope s_law_schedule) .none kV25 dc25 pm25 an25 cd25 ct25), fa, (PySem.W.fnOf "law" "law" (defArgs s_law) (defBody s_law) (defScope s_law) .none kV26 dc26 pm26 an26 cd26 ct26), cC0, cC1⟩ := by
    constructor
    · exact F0
    · exact b0
    · exact PySem.W.mg_of X G a0
    · exact F1
    · exact b1
    · exact PySem.W.mg_of X G a1
    · exact F2
    · exact b2
    · exact PySem.W.mg_of X G a2
    · exact F3
    · exact b3
    · exact PySem.W.mg_of X G a3
    · exact F4
    · exact b4
    · exact PySem.W.mg_of X G a4
    · exact F5
    · exact b5
    · exact F6
    · exact b6
    · exact ⟨a6, i6, k6⟩
    · exact F7
    · exact b7
    · exact PySem.W.mg_of X G a7
    · exact F8
    · exact b8
    · exact PySem.W.mg_of X G a8
    · exact F9
    · exact b9
    · exact ⟨a9, i9, k9⟩
    · exact F10
    · exact b10
    · exact F11
    · exact b11
    · exact ⟨a11, i11, k11⟩
    · exact F12
    · exact b12
    · exact ⟨a12, i12, k12⟩
    · exact F13
    · exact b13
    · exact ⟨a13, i13, k13⟩
    · exact F14
    · exact b14
    · exact PySem.W.mg_of X G a14
    · exact F15
    · exact b15
    · exact PySem.W.mg_of X G a15
    · exact F16
    · exact b16
    · exact PySem.W.mg_of X G a16
    · exact F17
    · exact b17
    · exact PySem.W.mg_of X G a17
    · exact F18
    · exact b18
    · exact PySem.W.mg_of X G a18
    · exact F19
    · exact b19
    · exact PySem.W.mg_of X G a19
    · exact F20
    · exact b20
    · exact PySem.W.mg_of X G a20
    · exact F21
    · exact b21
    · exact PySem.W.mg_of X G a21
    · exact F22
    · exact b22
    · exact PySem.W.mg_of X G a22
    · exact F23
    · exact b23
    · exact PySem.W.mg_of X G a23
    · exact F24
    · exact b24
    · exact PySem.W.mg_of X G a24
    · exact F25
    · exact b25
    · exact PySem.W.mg_of X G a25
    · exact F26
    · exact b26
    · exact PySem.W.mg_of X G a26
    · exact PySem.W.mg_of X G ac0
    · exact ⟨pg0, hd0, po0, sa0⟩
    · exact ⟨mk0, a10, i10, kc0⟩
    · exact x0_writer
    · exact x0_closed
    · exact PySem.W.mg_of X G ac1
    · exact ⟨pg1, hd1, po1, sa1⟩
    · exact ⟨mk1, a5, i5, kc1⟩
    · exact x1_cells
    · exact x1_places
    · exact x1_done
    · exact x1_names
    · exact x1_steps
    · exact x1_reports
    · exact PySem.W.mg_none_of X G z_bool
    · exact PySem.W.mg_none_of X G z_int
    · exact PySem.W.mg_none_of X G z_isinstance
    · exact PySem.W.mg_none_of X G z_len
    · exact PySem.W.mg_none_of X G z_list
    · exact PySem.W.mg_none_of X G z_max
    · exact PySem.W.mg_none_of X G z_min
    · exact PySem.W.mg_none_of X G z_range
    · exact PySem.W.mg_none_of X G z_repr
    · exact PySem.W.mg_none_of X G z_sum
    · exact ⟨_, PySem.W.mg_of X G q0⟩
    · exact ⟨_, PySem.W.mg_of X G q1⟩
    · exact ⟨_, PySem.W.mg_of X G q2⟩
  refine ⟨(PySem.W.fnOf "law" "law" (defArgs s_law) (defBody s_law) (defScope s_law) .none kV26 dc26 pm26 an26 cd26 ct26), fun s v => .of_eq rfl, fun bs _ _ smq => ?_⟩
  have G_is_integer := ok_is_integer (P := l.prog) (w := w) (bs := bs) m (smq hq) 
  have G_is_integer_within := ok_is_integer_within (P := l.prog) (w := w) (bs := bs) m (smq hq) G_is_integer
  have G_check_count := ok_check_count (P := l.prog) (w := w) (bs := bs) m (smq hq) G_is_integer_within
  have G_cells_before := ok_cells_before (P := l.prog) (w := w) (bs := bs) m (smq hq) 
  have G_most_names := ok_most_names (P := l.prog) (w := w) (bs := bs) m (smq hq) G_check_count G_cells_before
  have G_Walk___init__ := ok_Walk___init__ (P := l.prog) (w := w) (bs := bs) m (smq hq) 
  have G_Splitter_perform := ok_Splitter_perform (P := l.prog) (w := w) (bs := bs) m (smq hq) 
  have G_check_coordinate := ok_check_coordinate (P := l.prog) (w := w) (bs := bs) m (smq hq) G_is_integer_within
  have G_name_of := ok_name_of (P := l.prog) (w := w) (bs := bs) m (smq hq) G_cells_before G_check_coordinate
  have G_Walk__end_in_cell := ok_Walk__end_in_cell (P := l.prog) (w := w) (bs := bs) m (smq hq) G_name_of
  have G_Splitter___init__ := ok_Splitter___init__ (P := l.prog) (w := w) (bs := bs) m (smq hq) 
  have G_Walk__splitter_at := ok_Walk__splitter_at (P := l.prog) (w := w) (bs := bs) m (smq hq) G_Splitter___init__
  have G_Walk_step := ok_Walk_step (P := l.prog) (w := w) (bs := bs) m (smq hq) G_Splitter_perform G_Walk__end_in_cell G_Walk__splitter_at
  have G_Walk_can_step := ok_Walk_can_step (P := l.prog) (w := w) (bs := bs) m (smq hq) G_is_integer_within
  have G_perform_schedule := ok_perform_schedule (P := l.prog) (w := w) (bs := bs) m (smq hq) G_Walk_step G_Walk_can_step
  have G_walk_after := ok_walk_after (P := l.prog) (w := w) (bs := bs) m (smq hq) G_check_count G_Walk___init__ G_perform_schedule
  have G_names_after := ok_names_after (P := l.prog) (w := w) (bs := bs) m (smq hq) G_walk_after
  have G_law_cells := ok_law_cells (P := l.prog) (w := w) (bs := bs) m (smq hq) 
  have G_law_urn := ok_law_urn (P := l.prog) (w := w) (bs := bs) m (smq hq) 
  have G_law_dip := ok_law_dip (P := l.prog) (w := w) (bs := bs) m (smq hq) 
  have G_law_twice := ok_law_twice (P := l.prog) (w := w) (bs := bs) m (smq hq) 
  have G_law_way := ok_law_way (P := l.prog) (w := w) (bs := bs) m (smq hq) G_law_dip G_law_twice
  have G_law_begun := ok_law_begun (P := l.prog) (w := w) (bs := bs) m (smq hq) 
  have G_law_gone := ok_law_gone (P := l.prog) (w := w) (bs := bs) m (smq hq) 
  have G_law_moved := ok_law_moved (P := l.prog) (w := w) (bs := bs) m (smq hq) G_law_gone
  have G_law_schedule := ok_law_schedule (P := l.prog) (w := w) (bs := bs) m (smq hq) G_law_dip G_law_begun G_law_moved
  have G_law := ok_law (P := l.prog) (w := w) (bs := bs) m (smq hq) G_most_names G_names_after G_law_cells G_law_urn G_law_dip G_law_way G_law_schedule
  exact G_law
end My
open PySem PySem.W PyProof.Rows
set_option maxHeartbeats 0 in
theorem PySem.Challenge.cw_splitnames_k10_names_that_are_reached_holds : PySem.Challenge.rw_splitnames_k10_names_that_are_reached.Holds := by
  w_on; o_law; k_head; (case hw => w_witness2)
  k_fill
  refine Vg.walk_q (l := PySem.Challenge.rw_splitnames_k10_names_that_are_reached) (n := 63) (k := 10) (x := "script") (C := fun _ => L2.CX0) (sp := fun w => My.sp_law _) rfl (by decide) rfl ⟨rfl, by decide, by decide⟩ (fun w h Y => PySem.W.kIn_of Y) ?F (fun _ _ a ns hl hb _ hS => My.law_end hl hb hS) (fun _ _ _ _ _ h => h)
  case F =>
    intro w mg fa h KX G hmg
    refine' My.all_mk (by decide +kernel) KX G hmg ?ac0 ?ac1 ?a0 ?l0 ?c0 ?k0 ?a1 ?l1 ?c1 ?k1 ?a2 ?l2 ?c2 ?k2 ?a3 ?l3 ?c3 ?k3 ?a4 ?l4 ?c4 ?k4 ?a5 ?i5 ?l5 ?c5 ?k5 ?a6 ?i6 ?l6 ?c6 ?k6 ?a7 ?l7 ?c7 ?k7 ?a8 ?l8 ?c8 ?k8 ?a9 ?i9 ?l9 ?c9 ?k9 ?a10 ?i10 ?l10 ?c10 ?k10 ?a11 ?i11 ?l11 ?c11 ?k11 ?a12 ?i12 ?l12 ?c12 ?k12 ?a13 ?i13 ?l13 ?c13 ?k13 ?a14 ?l14 ?c14 ?k14 ?a15 ?l15 ?c15 ?k15 ?a16 ?l16 ?c16 ?k16 ?a17 ?l17 ?c17 ?k17 ?a18 ?l18 ?c18 ?k18 ?a19 ?l19 ?c19 ?k19 ?a20 ?l20 ?c20 ?k20 ?a21 ?l21 ?c21 ?k21 ?a22 ?l22 ?c22 ?k22 ?a23 ?l23 ?c23 ?k23 ?a24 ?l24 ?c24 ?k24 ?a25 ?l25 ?c25 ?k25 ?a26 ?l26 ?c26 ?k26 ?pg0 ?hd0 ?po0 ?sa0 ?mk0 ?kc0 ?x0_writer ?x0_closed ?pg1 ?hd1 ?po1 ?sa1 ?mk1 ?kc1 ?x1_cells ?x1_places ?x1_done ?x1_names ?x1_steps ?x1_reports ?z_bool ?z_int ?z_isinstance ?z_len ?z_list ?z_max ?z_min ?z_range ?z_repr ?z_sum ?q0 ?q1 ?q2
    (case ac0 => k_is)
    (case ac1 => k_is)
    (case a0 => k_is)
    (case l0 => k_is)
    (case c0 => k_is)
    (case k0 => k_is)
    (case a1 => k_is)
    (case l1 => k_is)
    (case c1 => k_is)
    (case k1 => k_is)
    (case a2 => k_is)
    (case l2 => k_is)
    (case c2 => k_is)
    (case k2 => k_is)
    (case a3 => k_is)
    (case l3 => k_is)
    (case c3 => k_is)
    (case k3 => k_is)
    (case a4 => k_is)
    (case l4 => k_is)
    (case c4 => k_is)
    (case k4 => k_is)
    (case a5 => k_is)
    (case i5 => k_is)
    (case l5 => k_is)
    (case c5 => k_is)
    (case k5 => k_is)
    (case a6 => k_is)
    (case i6 => k_is)
    (case l6 => k_is)
    (case c6 => k_is)
    (case k6 => k_is)
    (case a7 => k_is)
    (case l7 => k_is)
    (case c7 => k_is)
    (case k7 => k_is)
    (case a8 => k_is)
    (case l8 => k_is)
    (case c8 => k_is)
    (case k8 => k_is)
    (case a9 => k_is)
    (case i9 => k_is)
    (case l9 => k_is)
    (case c9 => k_is)
    (case k9 => k_is)
    (case a10 => k_is)
    (case i10 => k_is)
    (case l10 => k_is)
    (case c10 => k_is)
    (case k10 => k_is)
    (case a11 => k_is)
    (case i11 => k_is)
    (case l11 => k_is)
    (case c11 => k_is)
    (case k11 => k_is)
    (case a12 => k_is)
    (case i12 => k_is)
    (case l12 => k_is)
    (case c12 => k_is)
    (case k12 => k_is)
    (case a13 => k_is)
    (case i13 => k_is)
    (case l13 => k_is)
    (case c13 => k_is)
    (case k13 => k_is)
    (case a14 => k_is)
    (case l14 => k_is)
    (case c14 => k_is)
    (case k14 => k_is)
    (case a15 => k_is)
    (case l15 => k_is)
    (case c15 => k_is)
    (case k15 => k_is)
    (case a16 => k_is)
    (case l16 => k_is)
    (case c16 => k_is)
    (case k16 => k_is)
    (case a17 => k_is)
    (case l17 => k_is)
    (case c17 => k_is)
    (case k17 => k_is)
    (case a18 => k_is)
    (case l18 => k_is)
    (case c18 => k_is)
    (case k18 => k_is)
    (case a19 => k_is)
    (case l19 => k_is)
    (case c19 => k_is)
    (case k19 => k_is)
    (case a20 => k_is)
    (case l20 => k_is)
    (case c20 => k_is)
    (case k20 => k_is)
    (case a21 => k_is)
    (case l21 => k_is)
    (case c21 => k_is)
    (case k21 => k_is)
    (case a22 => k_is)
    (case l22 => k_is)
    (case c22 => k_is)
    (case k22 => k_is)
    (case a23 => k_is)
    (case l23 => k_is)
    (case c23 => k_is)
    (case k23 => k_is)
    (case a24 => k_is)
    (case l24 => k_is)
    (case c24 => k_is)
    (case k24 => k_is)
    (case a25 => k_is)
    (case l25 => k_is)
    (case c25 => k_is)
    (case k25 => k_is)
    (case a26 => k_is)
    (case l26 => k_is)
    (case c26 => k_is)
    (case k26 => k_is)
    (case pg0 => k_is)
    (case hd0 => k_is)
    (case po0 => k_is)
    (case sa0 => k_is)
    (case mk0 => k_is)
    (case kc0 => k_is)
    (case x0_writer => k_is)
    (case x0_closed => k_is)
    (case pg1 => k_is)
    (case hd1 => k_is)
    (case po1 => k_is)
    (case sa1 => k_is)
    (case mk1 => k_is)
    (case kc1 => k_is)
    (case x1_cells => k_is)
    (case x1_places => k_is)
    (case x1_done => k_is)
    (case x1_names => k_is)
    (case x1_steps => k_is)
    (case x1_reports => k_is)
    (case z_bool => k_is)
    (case z_int => k_is)
    (case z_isinstance => k_is)
    (case z_len => k_is)
    (case z_list => k_is)
    (case z_max => k_is)
    (case z_min => k_is)
    (case z_range => k_is)
    (case z_repr => k_is)
    (case z_sum => k_is)
    (case q0 => k_is)
    (case q1 => k_is)
    (case q2 => k_is)

