import PyProof.Rows.All
import Wide.All
import OpenK.AllK
import Wide.FinOn
import PyProof.ReprRoads
import HandS.ForMost
import HandS.ForExc
import HandS.Wide
import HandS.EndBits
import HandS.FStrTup
import HandS.Flow
import HandS.IsInst
import HandS.SetFor
import HandS.Conv
import HandS.Style
import PySem.Challenge.RW_splitnames_k02_what_are_outcomes
set_option Elab.async false
set_option linter.all false
set_option maxRecDepth 100000
set_option maxHeartbeats 2000000
namespace Vg
open PySem PySem.Spec PyProof.Rows L2

/-- a def's promise where no repr is under way around the call -/
structure Fg (P : Program) (w : World) (K : PySem.W.Frag) (mg : Str → Option Value) (bs : Heap) (C : CXT) (n : Nat) (f : Addr) (fd : FuncData) (ps : List Str) (sp : Sp) : Prop where
  ar : ∀ vs H Q E, sp vs H Q E → vs.length = ps.length
  go : ∀ (A : Around) (fr : List Env) (s : Shared) (H : Hp) (gs : Args) (us : List Value) (vs : List V) (Q : VK) (E : XK), A.guards = some [] → Room n A → Env0 P w K mg bs A fr s H →
    BindsTo s fd gs (ps.zip us) → Vals vs us → sp vs H Q E → codeAny (model P w) A (.call (.ref f) gs) (CR C fr P w H s Q E) s

section
variable {P : Program} {w : World} {K : PySem.W.Frag} {mg : Str → Option Value} {bs : Heap} {C : CXT} {n : Nat} {f : Addr} {fd : FuncData} {ps : List Str} {sp : Sp}
theorem Fg.up {m : Nat} (F : Fg P w K mg bs C n f fd ps sp) (h : n ≤ m) : Fg P w K mg bs C m f fd ps sp :=
  ⟨F.ar, fun A fr s H gs us vs Q E g r => F.go A fr s H gs us vs Q E g (r.mono h)⟩
theorem Fg.weaker {sq : Sp} (F : Fg P w K mg bs C n f fd ps sp) (h : ∀ vs H Q E, sq vs H Q E → sp vs H Q E) : Fg P w K mg bs C n f fd ps sq :=
  ⟨fun vs H Q E q => F.ar vs H Q E (h _ _ _ _ q), fun A fr s H gs us vs Q E g r e b v q => F.go A fr s H gs us vs Q E g r e b v (h _ _ _ _ q)⟩

/-- from a body's reading -/
theorem Fg.mk' {N : List Str} {nm qual : Str} {pr : Arguments} {body : List Stmt} {sc : Scope} {dV kV doc pm cdv ct oc : Value} {an od : Option Addr} {osl : Array (Option Value)}
    (lk : K.lookup f = some ⟨oc, od, .func (PySem.W.fnOf nm qual pr body sc dV kV doc pm an cdv ct), osl⟩) (hc : PySem.W.codeIn K cdv qual = true) (S : FnScope N ps sc)
    (ar : ∀ vs H Q E, sp vs H Q E → vs.length = ps.length)
    (hb : ∀ (A : Around) (fr : List Env) (s : Shared) (H : Hp) (vs : List V) (Q : VK) (E : XK), A.guards = some [] → Room n (A.deeper (envOfC qual sc s.heap.objs.size f cdv)) → sp vs H Q E →
      ∃ t, PSs (cxOf C P w K mg bs N qual sc f cdv A fr s H E) body t ∧ t { nx := fun _ H' => Q .non H', rt := Q } (start N vs) H) :
    Fg P w K mg bs C (n + 1) f (PySem.W.fnOf nm qual pr body sc dV kV doc pm an cdv ct) ps sp := by
  refine ⟨ar, fun A fr s H gs us vs Q E hg rm e0 bd rv q => ?_⟩
  have ln := ar _ _ _ _ q
  have kx : K.In s.heap := e0.mod.kin.keeps (fun b o z => (e0.bs b o z).1)
  have nl : s.heap.NoLimit := e0.mod.nolimit.keeps (fun b o z => (e0.bs b o z).1)
  have kd : ∀ y ∈ ps.zip us, sc.names.lookup y.1 = some .local ∨ (sc.names.lookup y.1 = some .cell ∧ ((cellsFrom (s.heap.objs.size + 1) sc.names []).lookup y.1).isSome = true) := by
    rintro ⟨y, v⟩ hy
    cases S.par y (List.of_mem_zip hy).1 with
    | inl z => exact Or.inl z
    | inr z => exact Or.inr ⟨z, PySem.W.cellsFrom_some _ _ _ (Or.inl z)⟩
  refine codeAny_call_function rm.depth (kx _ _ lk) rfl S.co S.gen rfl (PySem.W.codeRec_of kx hc) (bd _ _ _ _ ?_)
  refine wpAny_newFunctionEnv_cells S.kind kd fun en he s1 x => ?_
  subst he
  refine ⟨nl.keeps x.toInCall.keep, codeAny_func ?_⟩
  obtain ⟨t, ht, hq⟩ := hb A fr s H vs Q E hg (rm.deeper _) q
  have I : Inv (cxOf C P w K mg bs N qual sc f cdv A fr s H E) [] (start N vs) H s1 := inv_start S rm.hd e0 ln rv x
  refine wpAny_mono (ht.run [] s1 (start N vs) H _ I hq) (fun fl s' z => ?_) fun e s' z => z
  cases fl with
  | ret u =>
    obtain ⟨v, σ', H', J, r, q'⟩ := z
    exact ⟨v, H', J.os, J.bare, J.base, J.hok, r, q'⟩
  | next =>
    obtain ⟨σ', H', J, q'⟩ := z
    exact ⟨V.non, H', J.os, J.bare, J.base, J.hok, rfl, q'⟩
  | brk => exact z.elim fun _ z => z.elim fun _ z => z.2.elim
  | cont => exact z.elim fun _ z => z.elim fun _ z => z.2.elim
/-- a def of the text; the body may raise -/
theorem okX {N : List Str} {x qual : Str} {st : Stmt} (F : Fun K x qual st f fd) (S : FnScope N ps (defScope st)) (ar : ∀ vs H Q E, sp vs H Q E → vs.length = ps.length)
    (hb : ∀ (cdv : Value) (A : Around) (fr : List Env) (s : Shared) (H : Hp) (vs : List V) (Q : VK) (E : XK), A.guards = some [] → Room n (A.deeper (envOfC qual (defScope st) s.heap.objs.size f cdv)) → sp vs H Q E →
      ∃ t, PSs (cxOf C P w K mg bs N qual (defScope st) f cdv A fr s H E) (defBody st) t ∧ t { nx := fun _ H' => Q .non H', rt := Q } (start N vs) H) : Fg P w K mg bs C (n + 1) f fd ps sp := by
  obtain ⟨oc, od, kV, doc, pm, an, cdv, ct, osl, rfl, lk, hc⟩ := F.ex
  exact Fg.mk' lk hc S ar fun A fr s H vs Q E => hb cdv A fr s H vs Q E
/-- a def of the text that lets nothing out -/
theorem ok {N : List Str} {x qual : Str} {st : Stmt} (F : Fun K x qual st f fd) (S : FnScope N ps (defScope st)) (ar : ∀ vs H Q E, sp vs H Q E → vs.length = ps.length)
    (hb : ∀ (cdv : Value) (A : Around) (fr : List Env) (s : Shared) (H : Hp) (vs : List V) (Q : VK) (E : XK), A.guards = some [] → Room n (A.deeper (envOfC qual (defScope st) s.heap.objs.size f cdv)) → sp vs H Q E →
      ∃ t, PSs (cxOf CX0 P w K mg bs N qual (defScope st) f cdv A fr s H E).nox (defBody st) t ∧ t { nx := fun _ H' => Q .non H', rt := Q } (start N vs) H) : Fg P w K mg bs CX0 (n + 1) f fd ps sp := by
  obtain ⟨oc, od, kV, doc, pm, an, cdv, ct, osl, rfl, lk, hc⟩ := F.ex
  refine Fg.mk' lk hc S ar fun A fr s H vs Q E g r q => ?_
  obtain ⟨t, h1, h2⟩ := hb cdv A fr s H vs Q E g r q
  exact ⟨t, h1.nox, h2⟩
end

section
variable {X : Cx} {C : CXT} {n : Nat} {f : Addr} {fd : FuncData} {ps : List Str} {sp : Sp} {dvs : List V} {ds : List Value} {E : XK} {x m : Str} {p pos apos : Pos} {e o : Expr} {es : List Expr} {ta : TE} {t : TA}
theorem goS {pins : List (Addr × Obj)} {σ : L2.St} {H : Hp} {s : Shared} {Q : VK} {us : List Value} {vs : List V} (F : Fg X.prog X.w X.K X.mg X.base C n f fd ps sp) (g : X.A.guards = some []) (r : Room n X.A)
    (b : Binds X.K fd ps ds) (d : Vals dvs ds) {E : XK} (hx : PassesAt C X σ E) (I : Inv X pins σ H s) (v : Vals vs us) (h : sp (vs ++ dvs) H Q E) : wpAny (model X.prog X.w) X.A (call (.ref f) us) (EP X pins σ Q) X.xe s := by
  have v2 : Vals (vs ++ dvs) (us ++ ds) := v.append d
  have hl : (us ++ ds).length = ps.length := v2.length ▸ F.ar _ _ _ _ h
  refine wpAny_call (codeAny_mono (F.go X.A X.stack s H ⟨us, []⟩ (us ++ ds) (vs ++ dvs) Q E g r I.env0 (b s us I.kIn hl) v2 h) fun z s' hz => ?_)
  match z, hz with
  | .error e, hz => exact hx pins H s e s' I hz
  | .ok (.ret u), hz => exact I.after hz
/-- f(..) -/
def tG (sp : Sp) (dvs : List V) (E : L2.St → XK) (t : TA) : TE := fun σ H Q => t σ H fun vs H1 => sp (vs ++ dvs) H1 Q (E σ)
def tMG (C : Addr) (m : Str) (sp : Sp) (dvs : List V) (E : L2.St → XK) (ta : TE) (t : TA) : TE := fun σ H Q => ta σ H fun x H1 => ∃ a dx fs, x = .ref a ∧ H1 a = some (.ins C dx fs) ∧ fs.lookup m = none ∧
  t σ H1 fun vs H2 => sp (x :: (vs ++ dvs)) H2 Q (E σ)
theorem passG {X : Cx} {σ : L2.St} : PassesAt CX0 X σ E0 := fun _ _ _ _ _ _ h => h.elim
theorem pg_call {E : L2.St → XK} (F : Fg X.prog X.w X.K X.mg X.base C n f fd ps sp) (g : X.A.guards = some []) (r : Room n X.A) (hg : Gl X x) (hm : X.mg x = some (.ref f)) (hk : PySem.W.keepIn X.K (.ref f) = true)
    (b : Binds X.K fd ps ds) (d : Vals dvs ds) (hx : ∀ σ, PassesAt C X σ (E σ)) (ha : PA X (e :: es) t) (hdb : (x == ("__debug__" : Str)) = false := by decide)
    (he : starEach (e :: es) X.env = (false, eval e X.env) :: starEach es X.env := by rfl) (hp : (backTo pos (starEach es X.env)).any (·.1) = false := by rfl) :
    PE X (.Call (.Name x p) (e :: es) [] pos) (tG sp dvs E t) := by
  refine ⟨fun pins s σ H Q I h => ?_⟩
  refine wpAny_Call_Name_kw (ld_glob I hg hm (PySem.W.callWith_K (h₀ := X.base) I.ok.mod.kin hk (thn (ha.run pos pins s σ H _ I h) ?_) he hp) hdb)
  rintro us s1 ⟨vs, H1, J, v, q⟩
  exact ⟨J.kIn, goS F g r b d (hx σ) J v q⟩
theorem pg_call0 {E : L2.St → XK} (F : Fg X.prog X.w X.K X.mg X.base C n f fd ps sp) (g : X.A.guards = some []) (r : Room n X.A) (hg : Gl X x) (hm : X.mg x = some (.ref f)) (hk : PySem.W.keepIn X.K (.ref f) = true)
    (b : Binds X.K fd ps ds) (d : Vals dvs ds) (hx : ∀ σ, PassesAt C X σ (E σ)) (hdb : (x == ("__debug__" : Str)) = false := by decide) : PE X (.Call (.Name x p) [] [] pos) (tG sp dvs E tNil) := by
  refine ⟨fun pins s σ H Q I h => ?_⟩
  exact wpAny_Call_Name_kw (ld_glob I hg hm (PySem.W.callWith_K0 I.kIn hk (goS (us := []) F g r b d (hx σ) I .nil h)) hdb)
theorem pg_meth {Cl : Addr} {E : L2.St → XK} {pl : Sem Bool} (he : PE X o ta) (c : Cls X.K Cl) (hm : Meth X.K Cl m f) (F : Fg X.prog X.w X.K X.mg X.base C n f fd ps sp) (g : X.A.guards = some []) (r : Room n X.A)
    (b : Binds X.K fd ps ds) (d : Vals dvs ds) (hx : ∀ σ, PassesAt C X σ (E σ)) (ha : PA X (e :: es) t)
    (hst : starEach (e :: es) X.env = (false, eval e X.env) :: starEach es X.env := by rfl) (hp : (backTo pos (starEach es X.env)).any (·.1) = false := by rfl)
    (ht : eval (.Call (.Attribute o m apos) (e :: es) [] pos) X.env = (do
      let ov ← eval o X.env
      standAt apos.atName
      let (f, first) ← holding [ov] (getMethod ov m pl)
      callWith pos f first (backTo pos (starEach (e :: es) X.env)) (backToKw pos (keywordEach [] X.env))) := by rfl) :
    PE X (.Call (.Attribute o m apos) (e :: es) [] pos) (tMG Cl m sp dvs E ta t) := by
  refine ⟨fun pins s σ H Q I h => ?_⟩
  refine PySem.W.methodCall_KW (pl := pl) (thn (he.run pins s σ H _ I h) ?_) ht
  rintro u s1 ⟨y, H1, J, ry, a, dx, fs, ey, ea, l, q⟩
  subst ey
  obtain rfl : u = Value.ref a := ry
  refine getmeth_ok J ea c hm l (PySem.W.callWith_K (first := [.ref a]) (h₀ := X.base) I.ok.mod.kin hm.kp (thn (ha.run pos pins s1 σ H1 _ J q) ?_) hst hp)
  rintro us s2 ⟨vs, H2, J2, v, q2⟩
  exact ⟨J2.kIn, goS (us := .ref a :: us) (vs := .ref a :: vs) F g r b d (hx σ) J2 (.cons rfl v) q2⟩
theorem pg_meth0 {Cl : Addr} {E : L2.St → XK} {pl : Sem Bool} (he : PE X o ta) (c : Cls X.K Cl) (hm : Meth X.K Cl m f) (F : Fg X.prog X.w X.K X.mg X.base C n f fd ps sp) (g : X.A.guards = some []) (r : Room n X.A)
    (b : Binds X.K fd ps ds) (d : Vals dvs ds) (hx : ∀ σ, PassesAt C X σ (E σ))
    (ht : eval (.Call (.Attribute o m apos) [] [] pos) X.env = (do
      let ov ← eval o X.env
      standAt apos.atName
      let (f, first) ← holding [ov] (getMethod ov m pl)
      callWith pos f first (backTo pos (starEach [] X.env)) (backToKw pos (keywordEach [] X.env))) := by rfl) :
    PE X (.Call (.Attribute o m apos) [] [] pos) (tMG Cl m sp dvs E ta tNil) := by
  refine ⟨fun pins s σ H Q I h => ?_⟩
  refine PySem.W.methodCall_KW (pl := pl) (thn (he.run pins s σ H _ I h) ?_) ht
  rintro u s1 ⟨y, H1, J, ry, a, dx, fs, ey, ea, l, q⟩
  subst ey
  obtain rfl : u = Value.ref a := ry
  exact getmeth_ok J ea c hm l (PySem.W.callWith_K0 (first := [.ref a]) J.kIn hm.kp (goS (us := [.ref a]) (vs := [.ref a]) F g r b d (hx σ) J (.cons rfl .nil) q))
theorem make_guards {A : Around} {D : Addr} {us : List Value} {kw : List (Str × Value)} (g : A.guards = some []) : (A.under (.builtin "type.__call__" ⟨.ref D :: us, kw⟩)).guards = some [] := by
  first
  | exact g
  | (have h : (Code.builtin "type.__call__" ⟨.ref D :: us, kw⟩).guards = [] := by
       first | rfl | simp [Code.guards, Code.isGuard, guardIds]
     show pushGuards _ A.guards = _
     rw [h, g]; rfl)
/-- C(..) -/
def tKG (Cl : Addr) (sp : Sp) (dvs : List V) (E : L2.St → XK) (t : TA) : TE := fun σ H Q => t σ H fun vs H1 => ∀ x dx, H1 x = none → H1 dx = none → dx ≠ x →
  sp (.ref x :: (vs ++ dvs)) (upd (upd H1 dx (.own x)) x (.ins Cl dx [])) (fun v H2 => v = .non ∧ Q (.ref x) H2) (E σ)
theorem goK {Cl : Addr} {pins : List (Addr × Obj)} {σ : L2.St} {H : Hp} {s : Shared} {Q : VK} {us : List Value} {vs : List V} {E : XK} (M : Mk X.K Cl f) (F : Fg X.prog X.w X.K X.mg X.base C n f fd ps sp) (g : X.A.guards = some [])
    (r : Room (n + 1) X.A) (b : Binds X.K fd ps ds) (d : Vals dvs ds) (hx : PassesAt C X σ E) (I : Inv X pins σ H s) (v : Vals vs us)
    (h : ∀ x dx, H x = none → H dx = none → dx ≠ x → sp (.ref x :: (vs ++ dvs)) (upd (upd H dx (.own x)) x (.ins Cl dx [])) (fun v H2 => v = .non ∧ Q (.ref x) H2) E) :
    wpAny (model X.prog X.w) X.A (call (.ref Cl) us) (EP X pins σ Q) X.xe s := by
  have q := h (s.heap.objs.size + 1) s.heap.objs.size (I.hok.fresh (Nat.le_succ _)) (I.hok.fresh (Nat.le_refl _)) (Nat.ne_of_lt (Nat.lt_succ_self _))
  have J := Inv.made (C := Cl) I
  have v2 : Vals (V.ref (s.heap.objs.size + 1) :: (vs ++ dvs)) (Value.ref (s.heap.objs.size + 1) :: (us ++ ds)) := .cons rfl (v.append d)
  have hl : (Value.ref (s.heap.objs.size + 1) :: us ++ ds).length = ps.length := (v2.length.symm.trans (F.ar _ _ _ _ q) : _)
  refine wpAny_call (make_map (f := f) I.kIn M.makes M.init (beq_iff_eq.mp M.fn) (codeAny_mono (F.go _ X.stack _ _ ⟨Value.ref (s.heap.objs.size + 1) :: us, []⟩ (Value.ref (s.heap.objs.size + 1) :: (us ++ ds)) _ _ E
    (make_guards g) (r.make Cl us []) (J.env0.make Cl us []) (b _ (Value.ref (s.heap.objs.size + 1) :: us) J.kIn hl) v2 q) fun z s' hz => ?_))
  match z, hz with
  | .error e, hz => exact hx pins _ _ e s' J hz
  | .ok (.ret u), hz =>
    obtain ⟨y, H', J3, ry, ey, q3⟩ := J.after hz
    subst ey
    exact ⟨ry, ⟨V.ref (s.heap.objs.size + 1), H', J3, rfl, q3⟩⟩
theorem pg_make {Cl : Addr} {E : L2.St → XK} (M : Mk X.K Cl f) (F : Fg X.prog X.w X.K X.mg X.base C n f fd ps sp) (g : X.A.guards = some []) (r : Room (n + 1) X.A) (hg : Gl X x) (hm : X.mg x = some (.ref Cl))
    (b : Binds X.K fd ps ds) (d : Vals dvs ds) (hx : ∀ σ, PassesAt C X σ (E σ)) (ha : PA X (e :: es) t) (hdb : (x == ("__debug__" : Str)) = false := by decide)
    (he : starEach (e :: es) X.env = (false, eval e X.env) :: starEach es X.env := by rfl) (hp : (backTo pos (starEach es X.env)).any (·.1) = false := by rfl) :
    PE X (.Call (.Name x p) (e :: es) [] pos) (tKG Cl sp dvs E t) := by
  refine ⟨fun pins s σ H Q I h => ?_⟩
  refine wpAny_Call_Name_kw (ld_glob I hg hm (PySem.W.callWith_K (h₀ := X.base) I.ok.mod.kin M.kp (thn (ha.run pos pins s σ H _ I h) ?_) he hp) hdb)
  rintro us s1 ⟨vs, H1, J, v, q⟩
  exact ⟨J.kIn, goK M F g r b d (hx σ) J v q⟩
theorem pg_make0 {Cl : Addr} {E : L2.St → XK} (M : Mk X.K Cl f) (F : Fg X.prog X.w X.K X.mg X.base C n f fd ps sp) (g : X.A.guards = some []) (r : Room (n + 1) X.A) (hg : Gl X x) (hm : X.mg x = some (.ref Cl))
    (b : Binds X.K fd ps ds) (d : Vals dvs ds) (hx : ∀ σ, PassesAt C X σ (E σ)) (hdb : (x == ("__debug__" : Str)) = false := by decide) : PE X (.Call (.Name x p) [] [] pos) (tKG Cl sp dvs E tNil) := by
  refine ⟨fun pins s σ H Q I h => ?_⟩
  exact wpAny_Call_Name_kw (ld_glob I hg hm (PySem.W.callWith_K0 I.kIn M.kp (goK (us := []) M F g r b d (hx σ) I .nil h)) hdb)
end

/-! ### the law's own call -/
section
variable {P : Program} {w : World} {K : PySem.W.Frag} {mg mb : Str → Option Value} {C : CXT} {n : Nat} {fa a : Addr} {fd : FuncData} {x : Str} {sp : Sp} {s1 : Shared} {us : List Value} {ns : List Int}
/-- from an abstract heap that tracks the script at most -/
theorem law_from (H : Hp) (KX : K.In s1.heap) (n1 : s1.heap.Ns mainGlobals mg) (n2 : s1.heap.Ns builtinsNs mb) (n3 : ∀ x : Str, x ≠ "__name__" → mb x = bootBuiltins x) (n4 : s1.heap.NoLimit) (n5 : s1.gens = #[])
    (ha : s1.heap.get? a = some { cls := .type "list", data := .seq us.toArray }) (hr : Room n callerA)
    (F : ∀ bs : Heap, K.In bs → bs.Ns mainGlobals mg → (s1.heap.NoSeer → ∃ mm, bs.Ns sysModules mm) → Fg P w K mg bs C n fa fd [x] sp) (hb : ∀ (s : Shared) (u : Value), BindsTo s fd ⟨[u], []⟩ [(x, u)])
    (hO : Only H) (hok : HOk P w H s1.heap) (hA : ∀ b, H b ≠ none → b = a ∧ K.lookup a = none) (q : sp [.ref a] H (fun v _ => v = .bl true) fun _ _ _ => False)
    (hC : ∀ e s', C [] H s1 (fun _ _ _ => False) e s' → False) :
    codeAny (model P w) callerA (.call (.ref fa) ⟨[.ref a], []⟩) (fun r s' => r = .ok (.ret (.bool true)) ∧ OldK s1.heap s'.heap ∧ s'.os = s1.os ∧ AllBare s'.gens) s1 := by
  have nf : ∀ {b : Addr}, b ≠ a → H b = none := fun {b} hb => Classical.byContradiction fun z => hb (hA b z).1
  have und : ∀ {b : Addr} {o : Obj}, s1.heap.get? b = some o → H b = none → (hidT s1.heap H).get? b = some o := fun z1 z2 => hidT_get z1 z2
  have nd : ∀ {b : Addr} {o : Obj} {es : Array DictEntry} {ep : Nat}, s1.heap.get? b = some o → o.data = .dict es ep → H b = none := by
    intro b o es ep z1 z2
    refine nf fun e => ?_
    subst e
    rw [ha] at z1
    cases z1
    exact absurd z2 (by intro z; cases z)
  have nsH : ∀ {b : Addr} {m : Str → Option Value}, s1.heap.Ns b m → (hidT s1.heap H).Ns b m := fun ⟨o, es, ep, z1, z2, r⟩ => ⟨o, es, ep, und z1 (nd z1 z2), z2, r⟩
  have kH : K.In (hidT s1.heap H) := by
    intro b o z
    refine und (KX b o z) (Classical.byContradiction fun c => ?_)
    obtain ⟨e, l⟩ := hA b c
    rw [e, l] at z
    cases z
  have md : Mod K mg (hidT s1.heap H) := ⟨kH, nsH n1, ⟨mb, nsH n2, n3⟩, n4.elim fun mc z => ⟨mc, nsH z.1, z.2⟩⟩
  have e0 : Env0 P w K mg (hidT s1.heap H) callerA [] s1 H := ⟨rfl, md, fun b o z => of_hidT z, Nat.le_of_eq (hidT_size _ _), trivial, fun b z => (List.not_mem_nil z).elim, hok, AllBare.of_eq n5⟩
  refine codeAny_mono ((F _ kH (nsH n1) fun z => z.mods.elim fun mm h => ⟨mm, nsH h.1⟩).go callerA [] s1 H ⟨[.ref a], []⟩ [.ref a] [.ref a] _ _ rfl hr e0 (hb s1 (.ref a)) (.cons rfl .nil) q) fun r s' z => ?_
  match r, z with
  | .error e, z => exact (hC e s' z).elim
  | .ok (.ret u), ⟨v, H', o1, o2, un, hok', rv, ev⟩ =>
    have ev' : v = .bl true := ev
    subst ev'
    obtain rfl : u = Value.bool true := rv
    refine ⟨rfl, OldK.of_keep fun b o z => ?_, o1, o2⟩
    rcases hO b with c | ⟨ob, xs, c⟩
    · exact un.keep b o z c (fun y => (List.not_mem_nil y).elim) (fun y => (List.not_mem_nil y).elim)
    · obtain ⟨z1, _⟩ := hok b _ c
      obtain ⟨z2, _⟩ := hok' b _ (un.frzs b ob _ c)
      rw [z] at z1
      cases z1
      exact z2
theorem law_go (KX : K.In s1.heap) (n1 : s1.heap.Ns mainGlobals mg) (n2 : s1.heap.Ns builtinsNs mb) (n3 : ∀ x : Str, x ≠ "__name__" → mb x = bootBuiltins x) (n4 : s1.heap.NoLimit) (n5 : s1.gens = #[])
    (ha : s1.heap.get? a = some { cls := .type "list", data := .seq us.toArray }) (hi : IntsAre us ns) (hl : ns.length ≤ sizeLine) (hr : Room n callerA)
    (F : ∀ bs : Heap, K.In bs → bs.Ns mainGlobals mg → (s1.heap.NoSeer → ∃ mm, bs.Ns sysModules mm) → Fg P w K mg bs C n fa fd [x] sp) (hb : ∀ (s : Shared) (u : Value), BindsTo s fd ⟨[u], []⟩ [(x, u)])
    (q : ∀ H : Hp, Only H → SqL K H a (ns.map V.int) → sp [.ref a] H (fun v _ => v = .bl true) fun _ _ _ => False) (hC : ∀ H e s', C [] H s1 (fun _ _ _ => False) e s' → False) :
    codeAny (model P w) callerA (.call (.ref fa) ⟨[.ref a], []⟩) (fun r s' => r = .ok (.ret (.bool true)) ∧ OldK s1.heap s'.heap ∧ s'.os = s1.os ∧ AllBare s'.gens) s1 := by
  have lu := hi.length
  cases hk : K.lookup a with
  | some o =>
    have e := KX a o hk
    rw [ha] at e
    cases e
    have hO : Only (fun _ => none) := fun _ => Or.inl rfl
    refine law_from (fun _ => none) KX n1 n2 n3 n4 n5 ha hr F hb hO (fun b u z => (by cases z)) (fun b z => absurd rfl z) (q _ hO (Or.inr ⟨_, us.toArray, _, hk, rfl, rfl, rfl, ?_, ?_⟩)) fun e s' => hC _ e s'
    · rw [List.size_toArray, lu]
      exact hl
    · exact vals_ints hi
  | none =>
    let H0 : Hp := fun b => if b = a then some (.frz { cls := .type "list", data := .seq us.toArray } (.lst (ns.map V.int))) else none
    have h1 : H0 a = some (.frz { cls := .type "list", data := .seq us.toArray } (.lst (ns.map V.int))) := if_pos rfl
    have h2 : ∀ {b : Addr}, b ≠ a → H0 b = none := fun z => if_neg z
    have hO : Only H0 := fun b => by
      by_cases c : b = a
      · subst c
        exact Or.inr ⟨_, _, h1⟩
      · exact Or.inl (h2 c)
    refine law_from H0 KX n1 n2 n3 n4 n5 ha hr F hb hO (fun b u z => ?_) (fun b z => ⟨Classical.byContradiction fun c => z (h2 c), hk⟩) (q _ hO (Or.inl (Or.inr ⟨_, h1⟩))) fun e s' => hC _ e s'
    by_cases c : b = a
    · subst c
      cases h1.symm.trans z
      exact ⟨ha, by rw [List.length_map]; exact hl, us, _, vals_ints hi, ha⟩
    · cases (h2 c).symm.trans z
end
theorem walk_q {l : PySem.W.OpenLaw} {n k : Nat} {q : Program} {loose : List Str} {XP : (Str → Option Value) → Heap → Prop} {YP : World → Heap → Prop} {d : DefRec} {K : Params → PySem.W.Frag} {C : World → CXT} {sp : World → Sp} {x : Str}
    (hn : l.most = some n) (hn2 : n ≤ sizeLine) (hdf : d.params.defaults = []) (hr : Room k callerA) (hY : ∀ (w : World) (h : Heap), YP w h → (K w.params).In h)
    (F : ∀ (w : World) (mg : Str → Option Value) (fa : Addr) (h : Heap), (K w.params).In h → h.Ns mainGlobals mg → mg d.name = some (.ref fa) →
      ∃ fd : FuncData, (∀ (s : Shared) (u : Value), BindsTo s fd ⟨[u], []⟩ [(x, u)]) ∧ ∀ bs : Heap, (K w.params).In bs → bs.Ns mainGlobals mg → (PyProof.Rows.importsNone q = true → ∃ mm, bs.Ns sysModules mm) → Fg l.prog w (K w.params) mg bs (C w) k fa fd [x] (sp w))
    (hsp : ∀ (w : World) (H : Hp) (a : Addr) (ns : List Int), ns.length ≤ n → (∀ z ∈ ns, Builtin.Int.intBits z ≤ 1048576) → Only H → SqL (K w.params) H a (ns.map V.int) → sp w [.ref a] H (fun v _ => v = .bl true) fun _ _ _ => False)
    (hC : ∀ (w : World) (H : Hp) (s : Shared) (e : Value) (s' : Shared), C w [] H s (fun _ _ _ => False) e s' → False) :
    PySem.W.WalkO q loose XP YP l.row.toRowW d [] (fun f vs => PySem.call f vs) := by
  refine Att.attach_callB hn hdf fun w s0 s1 mg mb fa o pm cd doc a us ns G Y ho hd hcd hmg hobj hi hlen hbits hg => ?_
  obtain ⟨fd, hb, hF⟩ := F w mg fa _ (hY w _ Y) G.T.g hmg
  exact law_go (hY w _ Y) G.T.g G.T.b G.T.builtins G.T.nolimit hg hobj hi (Nat.le_trans hlen hn2) hr (fun bs h1 h2 h3 => hF bs h1 h2 fun z => h3 (G.T.seer z)) hb (fun H hO hS => hsp w H a ns hlen hbits hO hS) fun H e s' => hC w H s1 e s'
theorem walk_g {l : PySem.W.OpenLaw} {n k : Nat} {q : Program} {loose : List Str} {XP : (Str → Option Value) → Heap → Prop} {YP : World → Heap → Prop} {d : DefRec} {K : Params → PySem.W.Frag} {C : World → CXT} {sp : World → Sp} {x : Str}
    (hn : l.most = some n) (hn2 : n ≤ sizeLine) (hdf : d.params.defaults = []) (hr : Room k callerA) (hY : ∀ (w : World) (h : Heap), YP w h → (K w.params).In h)
    (F : ∀ (w : World) (mg : Str → Option Value) (fa : Addr) (h : Heap), (K w.params).In h → h.Ns mainGlobals mg → mg d.name = some (.ref fa) →
      ∃ fd : FuncData, (∀ (s : Shared) (u : Value), BindsTo s fd ⟨[u], []⟩ [(x, u)]) ∧ ∀ bs : Heap, (K w.params).In bs → bs.Ns mainGlobals mg → Fg l.prog w (K w.params) mg bs (C w) k fa fd [x] (sp w))
    (hsp : ∀ (w : World) (H : Hp) (a : Addr) (ns : List Int), ns.length ≤ n → (∀ z ∈ ns, Builtin.Int.intBits z ≤ 1048576) → Only H → SqL (K w.params) H a (ns.map V.int) → sp w [.ref a] H (fun v _ => v = .bl true) fun _ _ _ => False)
    (hC : ∀ (w : World) (H : Hp) (s : Shared) (e : Value) (s' : Shared), C w [] H s (fun _ _ _ => False) e s' → False) :
    PySem.W.WalkO q loose XP YP l.row.toRowW d [] (fun f vs => PySem.call f vs) :=
  walk_q hn hn2 hdf hr hY (fun w mg fa h h1 h2 h3 => let ⟨fd, hb, hF⟩ := F w mg fa h h1 h2 h3; ⟨fd, hb, fun bs k1 k2 _ => hF bs k1 k2⟩) hsp hC
end Vg


set_option Elab.async false
set_option linter.all false
set_option maxRecDepth 100000
set_option maxHeartbeats 2000000
namespace Vg
open PySem PySem.Spec PyProof.Rows L2

/-! ### how long a text repr gives -/
theorem lt_one {n : Nat} (ts : List Str) (h : ∀ t ∈ ts, t.length ≤ n) : piled ts ≤ ts.length * (n + 2) := by
  induction ts with
  | nil => exact Nat.zero_le _
  | cons t r ih =>
    have h1 := h t List.mem_cons_self
    have h2 := ih fun u hu => h u (List.mem_cons_of_mem _ hu)
    rw [piled_cons, List.length_cons, Nat.succ_mul]
    omega
theorem listText_le (ts : List Str) : (listText ts).length ≤ piled ts + 2 := by
  cases ts with
  | nil => exact Nat.le_refl _
  | cons t r =>
    have h := textFrom_length_pos r 1 (("[" : Str) ++ (if (0 : Nat) > 0 then ", " else "" : String) ++ t) (Nat.succ_pos 0)
    have e : (("[" : Str) ++ (if (0 : Nat) > 0 then ", " else "" : String) ++ t).length = 1 + t.length := by
      rw [strLen_append, strLen_append]; rfl
    have x : (listText (t :: r)).length = (textFrom 0 "[" (t :: r)).length + 1 := by
      show (textFrom 0 "[" (t :: r) ++ "]").length = _
      rw [strLen_append]; rfl
    have y : textFrom 0 "[" (t :: r) = textFrom 1 (("[" : Str) ++ (if (0 : Nat) > 0 then ", " else "" : String) ++ t) r := rfl
    rw [x, y, h, e, piled_cons]
    omega
theorem shownAll_map : ∀ ds : List PyData, PyData.shownAll ds = ds.map PyData.shown
  | [] => rfl
  | d :: r => by
    rw [PyData.shownAll, shownAll_map r]; rfl
theorem showableAll_all : ∀ ds : List PyData, (∀ d ∈ ds, d.showable = true) → PyData.showableAll ds = true
  | [], _ => rfl
  | d :: r, h => by
    rw [PyData.showableAll, h d List.mem_cons_self, showableAll_all r fun e he => h e (List.mem_cons_of_mem _ he)]; rfl
theorem hasDictAll_all : ∀ ds : List PyData, (∀ d ∈ ds, d.hasDict = false) → PyData.hasDictAll ds = false
  | [], _ => rfl
  | d :: r, h => by
    rw [PyData.hasDictAll, h d List.mem_cons_self, hasDictAll_all r fun e he => h e (List.mem_cons_of_mem _ he)]; rfl
theorem depthAll_le {k : Nat} : ∀ ds : List PyData, (∀ d ∈ ds, d.depth ≤ k) → PyData.depthAll ds ≤ k
  | [], _ => Nat.zero_le _
  | d :: r, h => by
    rw [PyData.depthAll]
    exact Nat.max_le.mpr ⟨h d List.mem_cons_self, depthAll_le r fun e he => h e (List.mem_cons_of_mem _ he)⟩
/-- data that repr writes in at most n signs, nested at most k deep -/
structure Shw (n k : Nat) (d : PyData) : Prop where
  sh : d.showable = true
  nd : d.hasDict = false
  dp : d.depth ≤ k
  sz : d.shown.length ≤ n
theorem Shw.up {n k m j : Nat} {d : PyData} (h : Shw n k d) (h1 : n ≤ m) (h2 : k ≤ j) : Shw m j d := ⟨h.sh, h.nd, Nat.le_trans h.dp h2, Nat.le_trans h.sz h1⟩
theorem Shw.non : Shw 4 1 .none := ⟨rfl, rfl, by decide +kernel, by decide +kernel⟩
theorem Shw.bl (b : Bool) : Shw 5 1 (.bool b) := by cases b <;> exact ⟨rfl, rfl, by decide +kernel, by decide +kernel⟩
theorem Shw.str (x : Str) (h : ∀ c ∈ x.cps.toList, c < 16 ^ 8) : Shw (10 * x.length + 2) 1 (.str x) := ⟨by rw [PyData.showable], by rw [PyData.hasDict], by simp [PyData.depth], by rw [PyData.shown]; exact StrLaws.reprText_len x h⟩
theorem Shw.int {k : Nat} {i : Int} (hk : 0 < k) (hk2 : k ≤ 1920) (h : i.natAbs < 2 ^ k) : Shw (k + 1) 1 (.int i) := by
  refine ⟨?_, by rw [PyData.hasDict], by simp [PyData.depth], ?_⟩
  · rw [PyData.showable]
    exact decide_eq_true (Nat.lt_of_lt_of_le (PySem.Flt.log2_lt_of hk h) hk2)
  · rw [PyData.shown]
    show (Str.ofString (toString i)).length ≤ _
    rw [PySem.ofString_length]
    exact int_text_length_le hk (PySem.Flt.log2_lt_of hk h)
theorem Shw.lst {n k : Nat} {ds : List PyData} (h : ∀ d ∈ ds, Shw n k d) : Shw (ds.length * (n + 2) + 2) (k + 1) (.list ds) := by
  refine ⟨?_, ?_, ?_, ?_⟩
  · rw [PyData.showable]
    exact showableAll_all ds fun d hd => (h d hd).sh
  · rw [PyData.hasDict]
    exact hasDictAll_all ds fun d hd => (h d hd).nd
  · simp only [PyData.depth]
    have := depthAll_le ds fun d hd => (h d hd).dp
    omega
  · rw [PyData.shown, shownAll_map]
    refine Nat.le_trans (listText_le _) ?_
    have := lt_one (n := n) (ds.map PyData.shown) (by
      intro t ht
      obtain ⟨d, hd, rfl⟩ := List.mem_map.mp ht
      exact (h d hd).sz)
    rw [List.length_map] at this
    omega
theorem Shw.tup {n k : Nat} {ds : List PyData} (h : ∀ d ∈ ds, Shw n k d) : Shw (ds.length * (n + 2) + 2) (k + 1) (.tuple ds) := by
  refine ⟨?_, ?_, ?_, ?_⟩
  · rw [PyData.showable]
    exact showableAll_all ds fun d hd => (h d hd).sh
  · rw [PyData.hasDict]
    exact hasDictAll_all ds fun d hd => (h d hd).nd
  · simp only [PyData.depth]
    have := depthAll_le ds fun d hd => (h d hd).dp
    omega
  · rw [PyData.shown, shownAll_map]
    refine Nat.le_trans (fmt_text _) ?_
    have := lt_one (n := n) (ds.map PyData.shown) (by
      intro t ht
      obtain ⟨d, hd, rfl⟩ := List.mem_map.mp ht
      exact (h d hd).sz)
    rw [List.length_map] at this
    omega

/-! ### repr -/
def rRepr (K : PySem.W.Frag) : List V → Hp → VK → Prop := fun xs H Q => ∃ x d, xs = [x] ∧ Dp K H x d ∧ Shw 16000000 60 d ∧ Q (.str d.shown) H
theorem call_repr {X : Cx} {n : Nat} (g : X.A.guards = some []) (r : Room n X.A) : CallR X (.builtin "repr") (rRepr X.K) := by
  intro pins s σ H xs us Q I rv h
  obtain ⟨x, d, rfl, hd, sw, q⟩ := h
  obtain ⟨u, rfl, ru⟩ := vals1 rv
  have hz : d.shown.length ≤ sizeLine := Nat.le_trans sw.sz (by decide)
  have hu := r.units
  cases hd with
  | non =>
    cases ru
    rw [PyData.shown] at q
    exact PySem.P.repr_of_none ⟨.str _, H, I.tok _, ⟨_, rfl⟩, q⟩
  | bl b =>
    cases ru
    rw [PyData.shown] at q
    exact PySem.P.repr_of_bool ⟨.str _, H, I.tok _, ⟨_, rfl⟩, q⟩
  | int i =>
    obtain ⟨t, rfl⟩ := ru
    have hs := sw.sh
    rw [PyData.showable] at hs
    rw [PyData.shown] at q
    exact PySem.P.repr_of_int (of_decide_eq_true hs) ⟨.str _, H, I.tok _, ⟨_, rfl⟩, q⟩
  | str y =>
    obtain ⟨t, rfl⟩ := ru
    rw [PyData.shown] at hz q
    exact PySem.P.repr_of_str ⟨.str _, H, I.tok _, ⟨_, rfl⟩, q⟩ hz
  | lst hs ha =>
    obtain rfl : u = Value.ref _ := ru
    obtain ⟨as, rd⟩ := Dp.reads I _ _ _ (Dp.lst hs ha) rfl
    refine repr_of_reads' rd sw.sh (fun z => by rw [sw.nd] at z; cases z) g (by have := sw.dp; omega) (fun _ _ z => z) (fun h' u tk hk => ?_) hz
    exact ⟨.str _, H, I.call' (s' := { s with heap := h', toks := tk }) (ch := []) rfl (Un.kept hk) (I.hok.kept hk) I.bare (fun b z => (List.not_mem_nil z).elim), ⟨u, rfl⟩, q⟩
  | tup hs ha =>
    obtain rfl : u = Value.ref _ := ru
    obtain ⟨as, rd⟩ := Dp.reads I _ _ _ (Dp.tup hs ha) rfl
    refine repr_of_reads' rd sw.sh (fun z => by rw [sw.nd] at z; cases z) g (by have := sw.dp; omega) (fun _ _ z => z) (fun h' u tk hk => ?_) hz
    exact ⟨.str _, H, I.call' (s' := { s with heap := h', toks := tk }) (ch := []) rfl (Un.kept hk) (I.hok.kept hk) I.bare (fun b z => (List.not_mem_nil z).elim), ⟨u, rfl⟩, q⟩

/-! ### x ** k of great numbers -/
theorem op_powW {X : Cx} : OpR X (binaryOp .Pow) (rI (fun i j => 0 ≤ j ∧ (Builtin.Int.intBits i : Int) * j ≤ 2 ^ 27) fun i j => .int (i ^ j.toNat)) := opI fun _ _ _ _ _ _ _ hc q => pow_int hc.1 hc.2 q
theorem bits_le {i : Int} {n : Nat} (hn : 0 < n) (h : i.natAbs < 2 ^ n) : Builtin.Int.intBits i ≤ n := by
  have := PySem.Flt.log2_lt_of hn h
  unfold Builtin.Int.intBits
  split <;> omega
end Vg


set_option Elab.async false
set_option linter.all false
set_option maxRecDepth 100000
set_option maxHeartbeats 2000000
namespace Vg
open PySem PySem.Spec PyProof.Rows L2

/-! ### the ledger: over a heap B that stands, what is owned -/
structure Led (B H : Hp) (l : List (Addr × HO)) : Prop where
  sm : Same B H
  nd : (l.map (·.1)).Nodup
  fr : ∀ e ∈ l, B e.1 = none
  hs : ∀ e ∈ l, H e.1 = some e.2
inductive Put : List (Addr × HO) → Addr → HO → List (Addr × HO) → Prop
  | hd {p : Addr} {o o' : HO} {l : List (Addr × HO)} : Put ((p, o) :: l) p o' ((p, o') :: l)
  | tl {e : Addr × HO} {p : Addr} {o' : HO} {l l' : List (Addr × HO)} : Put l p o' l' → Put (e :: l) p o' (e :: l')
/-- the entries of l' are, one by one, entries of l -/
inductive Pick : List (Addr × HO) → Addr × HO → List (Addr × HO) → Prop
  | hd {e : Addr × HO} {l : List (Addr × HO)} : Pick (e :: l) e l
  | tl {d e : Addr × HO} {l l' : List (Addr × HO)} : Pick l e l' → Pick (d :: l) e (d :: l')
inductive Sel : List (Addr × HO) → List (Addr × HO) → Prop
  | nil {l : List (Addr × HO)} : Sel l []
  | all {l : List (Addr × HO)} : Sel l l
  | cons {e : Addr × HO} {l r l' : List (Addr × HO)} : Pick l e r → Sel r l' → Sel l (e :: l')
  | skip {e : Addr × HO} {l l' : List (Addr × HO)} : Sel l l' → Sel (e :: l) l'
section
variable {B H : Hp} {l l' : List (Addr × HO)} {p q : Addr} {o o' : HO}
theorem Led.nil (H : Hp) : Led H H [] := ⟨Same.refl H, List.nodup_nil, fun _ h => (List.not_mem_nil h).elim, fun _ h => (List.not_mem_nil h).elim⟩
theorem Led.at (L : Led B H l) (h : (p, o) ∈ l) : H p = some o := L.hs _ h
theorem Led.seq {K : PySem.W.Frag} {a : Addr} {xs : List V} (L : Led B H l) (h : SqL K B a xs) : SqL K H a xs := L.sm.seq h
theorem Led.lstAt {K : PySem.W.Frag} {a : Addr} {xs : List V} (L : Led B H l) (h : (a, HO.lst xs) ∈ l) : SqL K H a xs := Or.inl (Or.inl (L.at h))
theorem Led.tupAt {K : PySem.W.Frag} {a : Addr} {xs : List V} (L : Led B H l) (h : (a, HO.tup xs) ∈ l) : SqT K H a xs := Or.inl (Or.inl (L.at h))
theorem Led.new (L : Led B H l) (h : H p = none) : Led B (upd H p o) ((p, o) :: l) := by
  have hb : B p = none := L.sm.free h
  have ne : ∀ e ∈ l, e.1 ≠ p := fun e he z => by
    have := L.hs e he
    rw [z, h] at this
    cases this
  refine ⟨fun a u z => ?_, ?_, fun e he => ?_, fun e he => ?_⟩
  · rw [upd_ne (ne_of_none (L.sm a u z) h)]
    exact L.sm a u z
  · rw [List.map_cons]
    refine List.nodup_cons.mpr ⟨fun z => ?_, L.nd⟩
    obtain ⟨e, he, e2⟩ := List.mem_map.mp z
    exact ne e he e2
  · rcases List.mem_cons.mp he with z | z
    · rw [z]; exact hb
    · exact L.fr e z
  · rcases List.mem_cons.mp he with z | z
    · rw [z]; exact upd_same
    · rw [upd_ne (ne e z)]; exact L.hs e z
theorem Put.map (h : Put l p o' l') : l'.map (·.1) = l.map (·.1) := by
  induction h with
  | hd => rfl
  | tl _ ih => rw [List.map_cons, List.map_cons, ih]
theorem Put.mem (h : Put l p o' l') : ∀ e ∈ l', e = (p, o') ∨ e ∈ l := by
  induction h with
  | hd => intro e he; exact (List.mem_cons.mp he).imp id fun z => List.mem_cons_of_mem _ z
  | tl _ ih =>
    intro e he
    rcases List.mem_cons.mp he with z | z
    · exact Or.inr (z ▸ List.mem_cons_self)
    · exact (ih e z).imp id fun z => List.mem_cons_of_mem _ z
theorem Put.of (h : Put l p o' l') : p ∈ l.map (·.1) := by
  induction h with
  | hd => exact List.mem_cons_self
  | tl _ ih => exact List.mem_cons_of_mem _ ih
theorem Put.pm (h : Put l p o' l') : (p, o') ∈ l' := by
  induction h with
  | hd => exact List.mem_cons_self
  | tl _ ih => exact List.mem_cons_of_mem _ ih
theorem mem_apart {l : List (Addr × HO)} (nd : (l.map (·.1)).Nodup) {e d : Addr × HO} (h1 : e ∈ l) (h2 : d ∈ l) (h : e.1 = d.1) : e = d := by
  induction l with
  | nil => cases h1
  | cons x r ih =>
    rw [List.map_cons] at nd
    obtain ⟨n1, n2⟩ := List.nodup_cons.mp nd
    rcases List.mem_cons.mp h1 with z1 | z1
    · rcases List.mem_cons.mp h2 with z2 | z2
      · rw [z1, z2]
      · exact (n1 (by rw [← z1, h]; exact List.mem_map_of_mem z2)).elim
    · rcases List.mem_cons.mp h2 with z2 | z2
      · exact (n1 (by rw [← z2, ← h]; exact List.mem_map_of_mem z1)).elim
      · exact ih n2 z1 z2
theorem Led.put (L : Led B H l) (h : Put l p o' l') : Led B (upd H p o') l' := by
  obtain ⟨e0, he0, e1⟩ := List.mem_map.mp h.of
  have hp : B p = none := by rw [← e1]; exact L.fr e0 he0
  have nd' : (l'.map (·.1)).Nodup := by rw [h.map]; exact L.nd
  have pm : (p, o') ∈ l' := h.pm
  refine ⟨fun a u z => ?_, nd', fun e he => ?_, fun e he => ?_⟩
  · rw [upd_ne (ne_of_none z hp)]
    exact L.sm a u z
  · rcases h.mem e he with z | z
    · rw [z]; exact hp
    · exact L.fr e z
  · by_cases c : e.1 = p
    · have e2 : e = (p, o') := mem_apart nd' he pm c
      rw [e2]; exact upd_same
    · rw [upd_ne c]
      rcases h.mem e he with z | z
      · exact absurd (by rw [z]) c
      · exact L.hs e z
theorem Pick.sub {e : Addr × HO} (h : Pick l e l') : (∀ d ∈ e :: l', d ∈ l) ∧ ((l.map (·.1)).Nodup → ((e :: l').map (·.1)).Nodup) := by
  induction h with
  | hd => exact ⟨fun _ h => h, fun h => h⟩
  | @tl d e l l' _ ih =>
    refine ⟨fun c hc => ?_, fun n => ?_⟩
    · rcases List.mem_cons.mp hc with z | z
      · exact List.mem_cons_of_mem _ (ih.1 c (z ▸ List.mem_cons_self))
      · rcases List.mem_cons.mp z with z | z
        · exact z ▸ List.mem_cons_self
        · exact List.mem_cons_of_mem _ (ih.1 c (List.mem_cons_of_mem _ z))
    · rw [List.map_cons] at n
      obtain ⟨n1, n2⟩ := List.nodup_cons.mp n
      have n3 := ih.2 n2
      rw [List.map_cons] at n3
      obtain ⟨n4, n5⟩ := List.nodup_cons.mp n3
      rw [List.map_cons, List.map_cons]
      refine List.nodup_cons.mpr ⟨fun z => ?_, List.nodup_cons.mpr ⟨fun z => ?_, n5⟩⟩
      · rcases List.mem_cons.mp z with z | z
        · exact n1 (by rw [← z]; exact List.mem_map_of_mem (ih.1 e List.mem_cons_self))
        · exact n4 z
      · obtain ⟨c, hc, ec⟩ := List.mem_map.mp z
        exact n1 (by rw [← ec]; exact List.mem_map_of_mem (ih.1 c (List.mem_cons_of_mem _ hc)))
theorem Sel.sub (h : Sel l l') : (∀ d ∈ l', d ∈ l) ∧ ((l.map (·.1)).Nodup → (l'.map (·.1)).Nodup) := by
  induction h with
  | nil => exact ⟨fun _ h => (List.not_mem_nil h).elim, fun _ => List.nodup_nil⟩
  | all => exact ⟨fun _ h => h, fun h => h⟩
  | @skip e l l' _ ih => exact ⟨fun d hd => List.mem_cons_of_mem _ (ih.1 d hd), fun n => ih.2 (by rw [List.map_cons] at n; exact (List.nodup_cons.mp n).2)⟩
  | @cons e l r l' hp hs ih =>
    obtain ⟨p1, p2⟩ := hp.sub
    refine ⟨fun d hd => ?_, fun n => ?_⟩
    · rcases List.mem_cons.mp hd with z | z
      · exact p1 d (z ▸ List.mem_cons_self)
      · exact p1 d (List.mem_cons_of_mem _ (ih.1 d z))
    · have n2 := p2 n
      rw [List.map_cons] at n2
      obtain ⟨n3, n4⟩ := List.nodup_cons.mp n2
      rw [List.map_cons]
      refine List.nodup_cons.mpr ⟨fun z => n3 ?_, ih.2 n4⟩
      obtain ⟨d, hd, ed⟩ := List.mem_map.mp z
      rw [← ed]; exact List.mem_map_of_mem (ih.1 d hd)
/-- keep some entries, in any order -/
theorem Led.sel (L : Led B H l) (h : Sel l l') : Led B H l' := ⟨L.sm, h.sub.2 L.nd, fun e he => L.fr e (h.sub.1 e he), fun e he => L.hs e (h.sub.1 e he)⟩
theorem Led.drop {n : Nat} (L : Led B H l) : Led B H (l.drop n) := ⟨L.sm, (L.nd.sublist ((List.drop_sublist n l).map _)), fun e he => L.fr e (List.mem_of_mem_drop he), fun e he => L.hs e (List.mem_of_mem_drop he)⟩
/-- what a callee, that was given H as a base, leaves -/
theorem Led.join {H' : Hp} {m : List (Addr × HO)} (L : Led B H l) (M : Led H H' m) : Led B H' (m ++ l) := by
  refine ⟨L.sm.trans M.sm, ?_, fun e he => ?_, fun e he => ?_⟩
  · rw [List.map_append]
    refine List.nodup_append.mpr ⟨M.nd, L.nd, fun a ha b hb z => ?_⟩
    obtain ⟨e, he, e1⟩ := List.mem_map.mp ha
    obtain ⟨d, hd, d1⟩ := List.mem_map.mp hb
    have h1 := M.fr e he
    have h2 := L.hs d hd
    rw [e1, z] at h1
    rw [d1, h1] at h2
    cases h2
  · rcases List.mem_append.mp he with z | z
    · exact L.sm.free (M.fr e z)
    · exact L.fr e z
  · rcases List.mem_append.mp he with z | z
    · exact M.hs e z
    · exact M.sm _ _ (L.hs e z)
theorem Led.same {H' : Hp} (L : Led B H l) (s : Same H H') : Led B H' l := ⟨L.sm.trans s, L.nd, L.fr, fun e he => s _ _ (L.hs e he)⟩
theorem Led.base {B' : Hp} (L : Led B H l) (h : Same B' B) : Led B' H l := ⟨h.trans L.sm, L.nd, fun e he => h.free (L.fr e he), L.hs⟩
theorem less_put {l : List (Addr × HO)} (L : Led B H ((p, o) :: l)) : Led (upd B p o) H l := by
  have nd := L.nd
  rw [List.map_cons] at nd
  obtain ⟨n1, n2⟩ := List.nodup_cons.mp nd
  refine ⟨fun a u z => ?_, n2, fun e he => ?_, fun e he => L.hs e (List.mem_cons_of_mem _ he)⟩
  · by_cases c : a = p
    · subst c
      rw [upd_same] at z
      cases z
      exact L.hs _ List.mem_cons_self
    · rw [upd_ne c] at z
      exact L.sm a u z
  · rw [upd_ne fun z => n1 (by rw [← z]; exact List.mem_map.mpr ⟨e, he, rfl⟩)]
    exact L.fr e (List.mem_cons_of_mem _ he)
/-- what will not change any more goes to the base -/
theorem Led.sink (L : Led B H ((p, o) :: l)) : ∃ B', Same B B' ∧ B' p = some o ∧ Led B' H l := ⟨upd B p o, fun a u z => by rw [upd_ne (ne_of_none z (L.fr _ List.mem_cons_self))]; exact z, upd_same, less_put L⟩
/-- the heap without what is owned -/
def less (H : Hp) (ps : List Addr) : Hp := fun a => if a ∈ ps then none else H a
theorem Led.ofLess {l : List (Addr × HO)} (n : (l.map (·.1)).Nodup) (h : ∀ e ∈ l, H e.1 = some e.2) : Led (less H (l.map (·.1))) H l := by
  refine ⟨fun a u z => ?_, n, fun e he => ?_, h⟩
  · unfold less at z
    split at z
    · cases z
    · exact z
  · unfold less
    rw [if_pos (List.mem_map_of_mem he)]
end

/-! ### the readings, one step each -/
/-- a new object -/
def NewK (o : HO) (H : Hp) (G : Addr → Hp → Prop) : Prop := ∀ p, H p = none → G p (upd H p o)
/-- a list's item, a tuple's -/
def IxLK (K : PySem.W.Frag) (p : Addr) (i : Int) (H : Hp) (G : V → Prop) : Prop := ∃ xs v, SqL K H p xs ∧ atI xs i = some v ∧ G v
def IxTK (K : PySem.W.Frag) (p : Addr) (i : Int) (H : Hp) (G : V → Prop) : Prop := ∃ xs v, SqT K H p xs ∧ atI xs i = some v ∧ G v
/-- p[i] = v, p.append(v), p.extend(q) -/
def SetK (p : Addr) (i : Int) (v : V) (H : Hp) (G : Hp → Prop) : Prop := ∃ xs j, H p = some (.lst xs) ∧ ixN xs.length i = some j ∧ G (upd H p (.lst (xs.set j v)))
def AppK (p : Addr) (v : V) (H : Hp) (G : Hp → Prop) : Prop := ∃ xs, H p = some (.lst xs) ∧ xs.length < sizeLine ∧ G (upd H p (.lst (xs ++ [v])))
def ExtK (p q : Addr) (H : Hp) (G : Hp → Prop) : Prop := ∃ xs ys, H p = some (.lst xs) ∧ H q = some (.lst ys) ∧ xs.length + ys.length ≤ sizeLine ∧ G (upd H p (.lst (xs ++ ys)))
def CatK (p q : Addr) (H : Hp) (G : Addr → Hp → Prop) : Prop := ∃ xs ys, H p = some (.lst xs) ∧ H q = some (.lst ys) ∧ xs.length + ys.length ≤ sizeLine ∧ NewK (.lst (xs ++ ys)) H G
def LenK (K : PySem.W.Frag) (p : Addr) (H : Hp) (G : Int → Prop) : Prop := ∃ xs : List V, (SqL K H p xs ∨ SqT K H p xs) ∧ G xs.length
/-- a tuple's items, n of them -/
def UnpK (K : PySem.W.Frag) (p : Addr) (n : Nat) (H : Hp) (G : List V → Prop) : Prop := ∃ xs, SqT K H p xs ∧ xs.length = n ∧ G xs
def IterLK (K : PySem.W.Frag) (p : Addr) (H : Hp) (G : Prop) : Prop := (∃ xs, SqL K H p xs) ∧ G
def SlLK (K : PySem.W.Frag) (p : Addr) (lo hi : Option Int) (H : Hp) (G : Addr → Hp → Prop) : Prop := ∃ xs, SqL K H p xs ∧ NewK (.lst (cutV xs lo hi)) H G
/-- repr(x) -/
def RepK (K : PySem.W.Frag) (x : V) (H : Hp) (G : Str → Prop) : Prop := ∃ d, Dp K H x d ∧ Shw 16000000 60 d ∧ G d.shown
def InK (K : PySem.W.Frag) (neg : Bool) (x : V) (p : Addr) (H : Hp) (G : Bool → Prop) : Prop := ∃ xs, (SqL K H p xs ∨ SqT K H p xs) ∧ flatV x = true ∧ xs.all flatV = true ∧ G (if neg then !inV x xs else inV x xs)
section
variable {K : PySem.W.Frag} {B H : Hp} {l l' : List (Addr × HO)} {p q : Addr} {o : HO} {i : Int} {v : V} {xs ys : List V} {n : Nat}
theorem NewK.of {G : Addr → Hp → Prop} (L : Led B H l) (k : ∀ p H1, Led B H1 ((p, o) :: l) → G p H1) : NewK o H G := fun p hp => k p _ (L.new hp)
theorem NewK.ofS {G : Addr → Hp → Prop} (k : ∀ p H1, Same H H1 → H p = none → H1 p = some o → G p H1) : NewK o H G := fun p hp => k p _ (fun a u z => by rw [upd_ne (ne_of_none z hp)]; exact z) hp upd_same
theorem IxLK.of {G : V → Prop} (h : SqL K H p xs) (a : atI xs i = some v) (k : G v) : IxLK K p i H G := ⟨xs, v, h, a, k⟩
theorem IxTK.of {G : V → Prop} (h : SqT K H p xs) (a : atI xs i = some v) (k : G v) : IxTK K p i H G := ⟨xs, v, h, a, k⟩
theorem SetK.of {G : Hp → Prop} {j : Nat} (L : Led B H l) (h : (p, HO.lst xs) ∈ l) (a : ixN xs.length i = some j) (t : Put l p (.lst (xs.set j v)) l') (k : ∀ H1, Led B H1 l' → G H1) : SetK p i v H G := ⟨xs, j, L.at h, a, k _ (L.put t)⟩
theorem AppK.of {G : Hp → Prop} (L : Led B H l) (h : (p, HO.lst xs) ∈ l) (a : xs.length < sizeLine) (t : Put l p (.lst (xs ++ [v])) l') (k : ∀ H1, Led B H1 l' → G H1) : AppK p v H G := ⟨xs, L.at h, a, k _ (L.put t)⟩
theorem ExtK.of {G : Hp → Prop} (L : Led B H l) (h : (p, HO.lst xs) ∈ l) (h2 : (q, HO.lst ys) ∈ l) (a : xs.length + ys.length ≤ sizeLine) (t : Put l p (.lst (xs ++ ys)) l') (k : ∀ H1, Led B H1 l' → G H1) : ExtK p q H G := ⟨xs, ys, L.at h, L.at h2, a, k _ (L.put t)⟩
theorem CatK.of {G : Addr → Hp → Prop} (L : Led B H l) (h : (p, HO.lst xs) ∈ l) (h2 : (q, HO.lst ys) ∈ l) (a : xs.length + ys.length ≤ sizeLine) (k : ∀ p H1, Led B H1 ((p, .lst (xs ++ ys)) :: l) → G p H1) : CatK p q H G := ⟨xs, ys, L.at h, L.at h2, a, NewK.of L k⟩
theorem LenK.ofL {G : Int → Prop} (h : SqL K H p xs) (k : G xs.length) : LenK K p H G := ⟨xs, Or.inl h, k⟩
theorem LenK.ofT {G : Int → Prop} (h : SqT K H p xs) (k : G xs.length) : LenK K p H G := ⟨xs, Or.inr h, k⟩
theorem UnpK.of {G : List V → Prop} (h : SqT K H p xs) (e : xs.length = n) (k : G xs) : UnpK K p n H G := ⟨xs, h, e, k⟩
theorem IterLK.of {G : Prop} (h : SqL K H p xs) (k : G) : IterLK K p H G := ⟨⟨xs, h⟩, k⟩
theorem SlLK.of {G : Addr → Hp → Prop} {lo hi : Option Int} (L : Led B H l) (h : SqL K H p xs) (k : ∀ p H1, Led B H1 ((p, .lst (cutV xs lo hi)) :: l) → G p H1) : SlLK K p lo hi H G := ⟨xs, h, NewK.of L k⟩
variable {Q : VK} {j : Int}
theorem x_I {C : Int → Int → Prop} {g : Int → Int → V} : rI C g (.int i) (.int j) H Q ↔ C i j ∧ Q (g i j) H := ⟨fun ⟨_, _, e1, e2, c, q⟩ => by cases e1; cases e2; exact ⟨c, q⟩, fun ⟨c, q⟩ => ⟨i, j, rfl, rfl, c, q⟩⟩
theorem x_I0 {g : Int → Int → V} : rI0 g (.int i) (.int j) H Q ↔ Q (g i j) H := ⟨fun ⟨_, _, e1, e2, q⟩ => by cases e1; cases e2; exact q, fun q => ⟨i, j, rfl, rfl, q⟩⟩
theorem x_U {g : Int → V} : rU g (.int i) H Q ↔ Q (g i) H := ⟨fun ⟨_, e1, q⟩ => by cases e1; exact q, fun q => ⟨i, rfl, q⟩⟩
theorem x_eq {x y : V} : rEq x y H Q ↔ scal x y = true ∧ Q (.bl (decide (x = y))) H := ⟨fun h => h, fun h => h⟩
theorem x_ne {x y : V} : rNe x y H Q ↔ scal x y = true ∧ Q (.bl (!decide (x = y))) H := ⟨fun h => h, fun h => h⟩
theorem x_ixL : rIxL K (.ref p) (.int i) H Q ↔ IxLK K p i H fun v => Q v H := ⟨fun ⟨_, xs, _, v, e1, e2, a, b, q⟩ => by cases e1; cases e2; exact ⟨xs, v, a, b, q⟩, fun ⟨xs, v, a, b, q⟩ => ⟨p, xs, i, v, rfl, rfl, a, b, q⟩⟩
theorem x_ixT : rIxT K (.ref p) (.int i) H Q ↔ IxTK K p i H fun v => Q v H := ⟨fun ⟨_, xs, _, v, e1, e2, a, b, q⟩ => by cases e1; cases e2; exact ⟨xs, v, a, b, q⟩, fun ⟨xs, v, a, b, q⟩ => ⟨p, xs, i, v, rfl, rfl, a, b, q⟩⟩
theorem x_setL {N : Hp → Prop} : rSetL (.ref p) (.int i) v H N ↔ SetK p i v H N := ⟨fun ⟨_, xs, _, j, e1, e2, a, b, q⟩ => by cases e1; cases e2; exact ⟨xs, j, a, b, q⟩, fun ⟨xs, j, a, b, q⟩ => ⟨p, xs, i, j, rfl, rfl, a, b, q⟩⟩
theorem x_app : rAppend (.ref p) [v] H Q ↔ AppK p v H fun H1 => Q .non H1 := ⟨fun ⟨_, xs, _, e1, e2, a, b, q⟩ => by cases e1; cases e2; exact ⟨xs, a, b, q⟩, fun ⟨xs, a, b, q⟩ => ⟨p, xs, v, rfl, rfl, a, b, q⟩⟩
theorem x_ext : rExtend (.ref p) [.ref q] H Q ↔ ExtK p q H fun H1 => Q .non H1 := ⟨fun ⟨_, _, xs, ys, e1, e2, a, b, c, q⟩ => by cases e1; cases e2; exact ⟨xs, ys, a, b, c, q⟩, fun ⟨xs, ys, a, b, c, q'⟩ => ⟨p, q, xs, ys, rfl, rfl, a, b, c, q'⟩⟩
theorem x_cat : rCat (.ref p) (.ref q) H Q ↔ CatK p q H fun r H1 => Q (.ref r) H1 := ⟨fun ⟨_, _, xs, ys, e1, e2, a, b, c, q⟩ => by cases e1; cases e2; exact ⟨xs, ys, a, b, c, q⟩, fun ⟨xs, ys, a, b, c, q'⟩ => ⟨p, q, xs, ys, rfl, rfl, a, b, c, q'⟩⟩
theorem x_slL {lo hi : Option Int} : rSlL K (.ref p) lo hi H Q ↔ SlLK K p lo hi H fun r H1 => Q (.ref r) H1 := ⟨fun ⟨_, xs, e1, a, q⟩ => by cases e1; exact ⟨xs, a, q⟩, fun ⟨xs, a, q⟩ => ⟨p, xs, rfl, a, q⟩⟩
theorem x_in {neg : Bool} {x : V} : rIn K neg x (.ref p) H Q ↔ InK K neg x p H fun b => Q (.bl b) H := ⟨fun ⟨_, xs, e1, a, b, c, q⟩ => by cases e1; exact ⟨xs, a, b, c, q⟩, fun ⟨xs, a, b, c, q⟩ => ⟨p, xs, rfl, a, b, c, q⟩⟩
theorem x_repr {x : V} : rRepr K [x] H Q ↔ RepK K x H fun t => Q (.str t) H := ⟨fun ⟨_, d, e1, a, b, q⟩ => by cases e1; exact ⟨d, a, b, q⟩, fun ⟨d, a, b, q⟩ => ⟨x, d, rfl, a, b, q⟩⟩
end
section
variable {σ : L2.St} {H : Hp} {Q : VK} {D : Ends} {ta tb te : TE} {t u : TT} {s1 s2 : TS} {v : V} {i n : Nat} {r : R2} {K : PySem.W.Frag} {TQ : Bool → Hp → Prop} {AQ : List V → Hp → Prop} {al : TA}
theorem e_var : tVar i σ H Q = ∃ v, σ[i]? = some (some v) ∧ Q v H := propext ⟨fun h => h, fun h => h⟩
theorem e_c : tC v σ H Q = Q v H := propext ⟨fun h => h, fun h => h⟩
theorem e_op : tOp r ta tb σ H Q = ta σ H fun x H1 => tb σ H1 fun y H2 => r x y H2 Q := propext ⟨fun h => h, fun h => h⟩
theorem e_un {r : V → Hp → VK → Prop} : tUn r ta σ H Q = ta σ H fun x H1 => r x H1 Q := propext ⟨fun h => h, fun h => h⟩
theorem e_if : tIf t ta tb σ H Q = t σ H fun c H1 => if c = true then ta σ H1 Q else tb σ H1 Q := propext ⟨fun h => h, fun h => h⟩
theorem e_andV : tAndV ta tb σ H Q = ta σ H fun x H1 => ∃ c, x = .bl c ∧ if c = true then tb σ H1 Q else Q (.bl false) H1 := propext ⟨fun h => h, fun h => h⟩
theorem e_orV : tOrV ta tb σ H Q = ta σ H fun x H1 => ∃ c, x = .bl c ∧ if c = true then Q (.bl true) H1 else tb σ H1 Q := propext ⟨fun h => h, fun h => h⟩
theorem e_notV : tNotV ta σ H Q = ta σ H fun x H1 => ∃ c, x = .bl c ∧ Q (.bl (!c)) H1 := propext ⟨fun h => h, fun h => h⟩
theorem e_lst : tLst al σ H Q = al σ H fun xs H1 => xs.length ≤ sizeLine ∧ NewK (.lst xs) H1 fun p H2 => Q (.ref p) H2 := propext ⟨fun h => h, fun h => h⟩
theorem e_tup : tTup al σ H Q = al σ H fun xs H1 => xs.length ≤ sizeLine ∧ NewK (.tup xs) H1 fun p H2 => Q (.ref p) H2 := propext ⟨fun h => h, fun h => h⟩
theorem e_CB {r : List V → Hp → VK → Prop} : tCB r al σ H Q = al σ H fun vs H1 => r vs H1 Q := propext ⟨fun h => h, fun h => h⟩
theorem e_BM {T : String} {r : V → List V → Hp → VK → Prop} : tBM K T r ta al σ H Q = ta σ H fun x H1 => tyV K T x H1 ∧ al σ H1 fun xs H2 => r x xs H2 Q := propext ⟨fun h => h, fun h => h⟩
theorem e_BM0 {T : String} {r : V → List V → Hp → VK → Prop} : tBM0 K T r ta σ H Q = ta σ H fun x H1 => tyV K T x H1 ∧ r x [] H1 Q := propext ⟨fun h => h, fun h => h⟩
theorem e_G {sp : Sp} {dvs : List V} {E : L2.St → XK} : tG sp dvs E al σ H Q = al σ H fun vs H1 => sp (vs ++ dvs) H1 Q (E σ) := propext ⟨fun h => h, fun h => h⟩
theorem e_chain {r r' : R2} {tc : TE} : tChain r r' ta tb tc σ H Q = ta σ H fun x H1 => tb σ H1 fun y H2 => r x y H2 fun z H3 => ∃ k, z = .bl k ∧ if k = true then tc σ H3 fun z H4 => r' y z H4 Q else Q (.bl false) H3 := propext ⟨fun h => h, fun h => h⟩
theorem e_sl {r : V → Option Int → Option Int → Hp → VK → Prop} {tl th : TO} : tSl r te tl th σ H Q = te σ H fun x H1 => tl σ H1 fun l H2 => th σ H2 fun u H3 => r x l u H3 Q := propext ⟨fun h => h, fun h => h⟩
theorem e_part {OQ : Option Int → Hp → Prop} : tPart te σ H OQ = te σ H fun x H1 => ∃ i, x = .int i ∧ OQ (some i) H1 := propext ⟨fun h => h, fun h => h⟩
theorem e_nopart {OQ : Option Int → Hp → Prop} : tNoPart σ H OQ = OQ none H := propext ⟨fun h => h, fun h => h⟩
theorem a_nil : tNil σ H AQ = AQ [] H := propext ⟨fun h => h, fun h => h⟩
theorem a_cons : tCons ta al σ H AQ = ta σ H fun x H1 => al σ H1 fun xs H2 => AQ (x :: xs) H2 := propext ⟨fun h => h, fun h => h⟩
theorem e_callLen : tCB (fun xs H Q => ∃ p ys, xs = [V.ref p] ∧ (SqL K H p ys ∨ SqT K H p ys) ∧ Q (.int ys.length) H) (tCons ta tNil) σ H Q ↔ ta σ H fun x H1 => ∃ p, x = .ref p ∧ LenK K p H1 fun n => Q (.int n) H1 := Iff.of_eq (congrArg (ta σ H) (funext fun x => funext fun H1 => propext ⟨fun ⟨p, ys, e, h, q⟩ => by cases e; exact ⟨p, rfl, ys, h, q⟩, fun ⟨p, e, ys, h, q⟩ => ⟨p, ys, by rw [e], h, q⟩⟩))
theorem t_B : tB te σ H TQ = te σ H fun x H1 => ∃ c, x = .bl c ∧ TQ c H1 := propext ⟨fun h => h, fun h => h⟩
theorem t_test : tTest te σ H TQ = te σ H fun x H1 => ∃ c, x = .bl c ∧ TQ c H1 := propext ⟨fun h => h, fun h => h⟩
theorem t_and : tAnd t u σ H TQ = t σ H fun c H1 => if c = true then u σ H1 TQ else TQ false H1 := propext ⟨fun h => h, fun h => h⟩
theorem t_or : tOr t u σ H TQ = t σ H fun c H1 => if c = true then TQ true H1 else u σ H1 TQ := propext ⟨fun h => h, fun h => h⟩
theorem t_not : tNot t σ H TQ = t σ H fun c H1 => TQ (!c) H1 := propext ⟨fun h => h, fun h => h⟩
theorem t_yes : tYes σ H TQ = TQ true H := propext ⟨fun h => h, fun h => h⟩
theorem s_seq : tSeq s1 s2 D σ H = s1 { D with nx := s2 D } σ H := propext ⟨fun h => h, fun h => h⟩
theorem s_next : tNext D σ H = D.nx σ H := propext ⟨fun h => h, fun h => h⟩
theorem s_break : tBreak D σ H = D.bk σ H := propext ⟨fun h => h, fun h => h⟩
theorem s_cont : tCont D σ H = D.ct σ H := propext ⟨fun h => h, fun h => h⟩
theorem s_drop : tDrop te D σ H = te σ H fun _ H1 => D.nx σ H1 := propext ⟨fun h => h, fun h => h⟩
theorem s_ret : tRet te D σ H = te σ H D.rt := propext ⟨fun h => h, fun h => h⟩
theorem s_retN : tRetN D σ H = D.rt .non H := propext ⟨fun h => h, fun h => h⟩
theorem s_ifS : tIfS t s1 s2 D σ H = t σ H fun b H1 => if b = true then s1 D σ H1 else s2 D σ H1 := propext ⟨fun h => h, fun h => h⟩
theorem s_asg {g : TG} : tAsg te g D σ H = te σ H fun x H1 => g x σ H1 D.nx := propext ⟨fun h => h, fun h => h⟩
theorem s_aug {ti : TIp} : tAug i te ti D σ H = ∃ x, σ[i]? = some (some x) ∧ te σ H fun y H1 => ti x y H1 fun z H2 => D.nx (σ.set i (some z)) H2 := propext ⟨fun h => h, fun h => h⟩
variable {N : L2.St → Hp → Prop}
theorem s_par {j : Nat} : tPar i j al D σ H = al σ H fun vs H1 => ∃ v w, vs = [v, w] ∧ D.nx ((σ.set i (some v)).set j (some w)) H1 := propext ⟨fun h => h, fun h => h⟩
theorem g_name : gName i v σ H N = N (σ.set i (some v)) H := propext ⟨fun h => h, fun h => h⟩
theorem g_tup {gs : TGs} {a : Addr} : gTup K n gs (.ref a) σ H N ↔ UnpK K a n H fun xs => gs xs σ H N := ⟨fun ⟨_, xs, e, h, z, q⟩ => by cases e; exact ⟨xs, h, z, q⟩, fun ⟨xs, h, z, q⟩ => ⟨a, xs, rfl, h, z, q⟩⟩
theorem g_nil : gNil [] σ H N ↔ N σ H := ⟨fun h => h.2, fun h => ⟨rfl, h⟩⟩
theorem g_cons {g : TG} {gs : TGs} {v : V} {vs : List V} : gCons g gs (v :: vs) σ H N ↔ g v σ H fun σ' H' => gs vs σ' H' N := ⟨fun ⟨_, _, e, q⟩ => by cases e; exact q, fun q => ⟨v, vs, rfl, q⟩⟩
theorem g_sub {st : TSet} : gSub ta tb st v σ H N = ta σ H fun o H1 => tb σ H1 fun i H2 => st o i v H2 fun H3 => N σ H3 := propext ⟨fun h => h, fun h => h⟩
theorem i_list {R : It → Hp → Prop} : iList K te σ H R = te σ H fun x H1 => ∃ a, x = .ref a ∧ (∃ xs, SqL K H1 a xs) ∧ R (Itl K a) H1 := propext ⟨fun h => h, fun h => h⟩
theorem i_tup {R : It → Hp → Prop} : iTup K te σ H R = te σ H fun x H1 => ∃ a, x = .ref a ∧ (∃ xs, SqT K H1 a xs) ∧ R (Itt K a) H1 := propext ⟨fun h => h, fun h => h⟩
theorem i_rng1 {R : It → Hp → Prop} : iRng1 al σ H R = al σ H fun vs H1 => ∃ j : Int, vs = [.int j] ∧ -(2 ^ 62) ≤ j ∧ j < 2 ^ 62 ∧ R (Itr 0 j.toNat) H1 := propext ⟨fun h => h, fun h => h⟩
theorem i_rng2 {R : It → Hp → Prop} : iRng2 al σ H R = al σ H fun vs H1 => ∃ i j : Int, vs = [.int i, .int j] ∧ (-(2 ^ 62) ≤ i ∧ i < 2 ^ 62 ∧ -(2 ^ 62) ≤ j ∧ j < 2 ^ 62) ∧ R (Itr i (j - i).toNat) H1 := propext ⟨fun h => h, fun h => h⟩
theorem i_enum {R : It → Hp → Prop} : iEnum K al σ H R = al σ H fun vs H1 => ∃ a xs, vs = [.ref a] ∧ SqL K H1 a xs ∧ R (Ite K a) H1 := propext ⟨fun h => h, fun h => h⟩
/-- a loop, kept whole -/
def LoopK (J : It) (g : TG) (tb : TS) (D : Ends) (σ : L2.St) (H1 : Hp) : Prop := ∃ W : Nat → Nat → L2.St → Hp → Prop, (∃ m, W 0 m σ H1) ∧ ∀ i m σ H, W i m σ H →
  (J.stop i H ∧ D.nx σ H) ∨ (J.go i H ∧ ∃ N : L2.St → Hp → Prop, (∀ σ' H', N σ' H' → ∃ m', m' < m ∧ W (i + 1) m' σ' H') ∧ ∀ x H', J.yld i H x H' → g x σ H' fun σ2 H2 => tb { D with nx := N, ct := N, bk := D.nx } σ2 H2)
theorem s_for {wi : TI} {g : TG} {tb : TS} : tFor wi g tb D σ H = wi σ H fun J H1 => LoopK J g tb D σ H1 := propext ⟨fun h => h, fun h => h⟩
/-- a comprehension, kept whole -/
def LcK (J : It) (g : TG) (tt : TT) (te : TE) (vs : List Nat) (σ : L2.St) (H1 : Hp) (Q : VK) : Prop := tLc (fun _ H R => R J H) g tt te vs σ H1 Q
theorem e_lc {wi : TI} {g : TG} {tt : TT} {vs : List Nat} : tLc wi g tt te vs σ H Q = wi σ H fun J H1 => LcK J g tt te vs σ H1 Q := propext ⟨fun h => h, fun h => h⟩
end

section
variable {X : Cx}
def rLen (K : PySem.W.Frag) : List V → Hp → VK → Prop := fun xs H Q => ∃ p ys, xs = [.ref p] ∧ (SqL K H p ys ∨ SqT K H p ys) ∧ Q (.int ys.length) H
theorem cr_len : CallR X (.builtin "len") (rLen X.K) := call_len_seq
theorem x_len {K : PySem.W.Frag} {p : Addr} {H : Hp} {Q : VK} : rLen K [.ref p] H Q ↔ LenK K p H fun n => Q (.int n) H := ⟨fun ⟨_, ys, e, h, q⟩ => by cases e; exact ⟨ys, h, q⟩, fun ⟨ys, h, q⟩ => ⟨p, ys, rfl, h, q⟩⟩
def rMx : List V → Hp → VK → Prop := fun xs H Q => ∃ i j, xs = [.int i, .int j] ∧ Q (.int (max i j)) H
def rMn : List V → Hp → VK → Prop := fun xs H Q => ∃ i j, xs = [.int i, .int j] ∧ Q (.int (min i j)) H
theorem mx_eq (i j : Int) : (if j > i then j else i) = max i j := by split <;> omega
theorem mn_eq (i j : Int) : (if j < i then j else i) = min i j := by split <;> omega
theorem CallR.as {f : Value} {r r' : List V → Hp → VK → Prop} (h : CallR X f r) (i : ∀ xs H Q, r' xs H Q → r xs H Q) : CallR X f r' := fun pins s σ H xs us Q I v q => h pins s σ H xs us Q I v (i xs H Q q)
theorem cr_max2 (hc : X.calm = true) : CallR X (.builtin "max") rMx := CallR.as (call_max2 hc) fun _ _ _ ⟨i, j, e, q⟩ => ⟨i, j, e, by rw [mx_eq]; exact q⟩
theorem cr_min2 (hc : X.calm = true) : CallR X (.builtin "min") rMn := CallR.as (call_min2 hc) fun _ _ _ ⟨i, j, e, q⟩ => ⟨i, j, e, by rw [mn_eq]; exact q⟩
theorem x_mx {i j : Int} {H : Hp} {Q : VK} : rMx [.int i, .int j] H Q ↔ Q (.int (max i j)) H := ⟨fun ⟨_, _, e, q⟩ => by cases e; exact q, fun q => ⟨i, j, rfl, q⟩⟩
theorem x_mn {i j : Int} {H : Hp} {Q : VK} : rMn [.int i, .int j] H Q ↔ Q (.int (min i j)) H := ⟨fun ⟨_, _, e, q⟩ => by cases e; exact q, fun q => ⟨i, j, rfl, q⟩⟩
theorem k_cx {C : CXT} {P : Program} {w : World} {K : PySem.W.Frag} {mg : Str → Option Value} {bs : Heap} {N : List Str} {qual : Str} {sc : Scope} {f : Addr} {cd : Value} {A : Around} {fr : List Env} {s : Shared} {H : Hp} {E : XK} :
    (cxOf C P w K mg bs N qual sc f cd A fr s H E).nox.K = K := rfl
theorem k_cx2 {C : CXT} {P : Program} {w : World} {K : PySem.W.Frag} {mg : Str → Option Value} {bs : Heap} {N : List Str} {qual : Str} {sc : Scope} {f : Addr} {cd : Value} {A : Around} {fr : List Env} {s : Shared} {H : Hp} {E : XK} :
    (cxOf C P w K mg bs N qual sc f cd A fr s H E).K = K := rfl
end
/-! ### isinstance(x, T), T a built-in class -/
def tyB (K : PySem.W.Frag) (H : Hp) (x : V) (t : String) : Prop := TyX K H x (.type t)
def rIs (K : PySem.W.Frag) : List V → Hp → VK → Prop := fun xs H Q => ∃ x n t b, xs = [x, .ty n] ∧ tyB K H x t ∧ kitB t n = some b ∧ Q (.bl b) H
theorem cr_is {X : Cx} : CallR X (.builtin "isinstance") (rIs X.K) := CallR.as call_isi fun _ _ _ ⟨x, n, _, b, e, ht, hb, q⟩ => ⟨x, .ty n, _, _, b, e, ClsV.ty n, ht, kit_ty hb, q⟩
section
variable {K : PySem.W.Frag} {H : Hp} {Q : VK}
theorem ty_int {i : Int} {t : String} (h : tyB K H (.int i) t) : t = "int" := by
  cases h with
  | base h => cases h; rfl
theorem ty_bl {i : Bool} {t : String} (h : tyB K H (.bl i) t) : t = "bool" := by
  cases h with
  | base h => cases h; rfl
theorem ty_non {t : String} (h : tyB K H .non t) : t = "NoneType" := by
  cases h with
  | base h => cases h; rfl
theorem ty_str {i : Str} {t : String} (h : tyB K H (.str i) t) : t = "str" := by
  cases h with
  | base h => cases h; rfl
theorem x_is {x : V} {t n : String} {b : Bool} (h1 : tyB K H x t) (h2 : ∀ u, tyB K H x u → u = t) (h3 : kitB t n = some b) : rIs K [x, .ty n] H Q ↔ Q (.bl b) H := by
  constructor
  · rintro ⟨_, _, u, c, e, hu, hc, q⟩
    cases e
    rw [h2 u hu, h3] at hc
    cases hc
    exact q
  · intro q
    exact ⟨x, n, t, b, rfl, h1, h3, q⟩
theorem x_is_int {i : Int} : rIs K [.int i, .ty "int"] H Q ↔ Q (.bl true) H := x_is (.base (.int i)) (fun _ => ty_int) (by decide +kernel)
theorem x_is_bi {i : Int} : rIs K [.int i, .ty "bool"] H Q ↔ Q (.bl false) H := x_is (.base (.int i)) (fun _ => ty_int) (by decide +kernel)
theorem x_is_bool {i : Bool} : rIs K [.bl i, .ty "int"] H Q ↔ Q (.bl true) H := x_is (.base (.bl i)) (fun _ => ty_bl) (by decide +kernel)
theorem x_is_bb {i : Bool} : rIs K [.bl i, .ty "bool"] H Q ↔ Q (.bl true) H := x_is (.base (.bl i)) (fun _ => ty_bl) (by decide +kernel)
theorem x_is_nb : rIs K [.non, .ty "bool"] H Q ↔ Q (.bl false) H := x_is (.base .non) (fun _ => ty_non) (by decide +kernel)
theorem x_is_ni : rIs K [.non, .ty "int"] H Q ↔ Q (.bl false) H := x_is (.base .non) (fun _ => ty_non) (by decide +kernel)
theorem x_is_sb {i : Str} : rIs K [.str i, .ty "bool"] H Q ↔ Q (.bl false) H := x_is (.base (.str i)) (fun _ => ty_str) (by decide +kernel)
theorem x_is_si {i : Str} : rIs K [.str i, .ty "int"] H Q ↔ Q (.bl false) H := x_is (.base (.str i)) (fun _ => ty_str) (by decide +kernel)
theorem x_is_ib {i : Str} : rIs K [.str i, .ty "str"] H Q ↔ Q (.bl true) H := x_is (.base (.str i)) (fun _ => ty_str) (by decide +kernel)
/-- isinstance of an object -/
def IsK (K : PySem.W.Frag) (a : Addr) (n : String) (H : Hp) (G : Bool → Prop) : Prop := ∃ t b, tyB K H (.ref a) t ∧ kitB t n = some b ∧ G b
theorem x_isR {a : Addr} {n : String} : rIs K [.ref a, .ty n] H Q ↔ IsK K a n H fun b => Q (.bl b) H := ⟨fun ⟨_, _, t, b, e, h1, h2, q⟩ => by cases e; exact ⟨t, b, h1, h2, q⟩, fun ⟨t, b, h1, h2, q⟩ => ⟨_, _, t, b, rfl, h1, h2, q⟩⟩
theorem IsK.tup {a : Addr} {n : String} {xs : List V} {b : Bool} {G : Bool → Prop} (h : H a = some (.tup xs)) (k : kitB "tuple" n = some b) (q : G b) : IsK K a n H G := ⟨_, b, .base (.tup h), k, q⟩
theorem IsK.lst {a : Addr} {n : String} {xs : List V} {b : Bool} {G : Bool → Prop} (h : H a = some (.lst xs)) (k : kitB "list" n = some b) (q : G b) : IsK K a n H G := ⟨_, b, .base (.lst h), k, q⟩
end
/-! ### instances -/
def FldK (K : PySem.W.Frag) (p : Addr) (f : Str) (H : Hp) (G : V → Prop) : Prop := ∃ C dx fs v, H p = some (.ins C dx fs) ∧ Cls K C ∧ NoAttr K C f ∧ fs.lookup f = some v ∧ G v
def StK (K : PySem.W.Frag) (p : Addr) (f : Str) (y : V) (H : Hp) (G : Hp → Prop) : Prop := ∃ C dx fs, H p = some (.ins C dx fs) ∧ Cls K C ∧ NoAttr K C f ∧ fs.length < 1000 ∧ G (upd H p (.ins C dx (putF f y fs)))
section
variable {K : PySem.W.Frag} {B H : Hp} {l l' : List (Addr × HO)} {p C dx : Addr} {fs fs' : List (Str × V)} {f : Str} {v : V} {σ : L2.St} {Q : VK} {D : Ends} {ta tv : TE}
theorem e_fld : tFld K ta f σ H Q ↔ ta σ H fun x H1 => ∃ a, x = .ref a ∧ FldK K a f H1 fun v => Q v H1 := Iff.of_eq (congrArg (ta σ H) (funext fun x => funext fun H1 => propext ⟨fun ⟨a, C, dx, fs, v, e, r⟩ => ⟨a, e, C, dx, fs, v, r⟩, fun ⟨a, e, C, dx, fs, v, r⟩ => ⟨a, C, dx, fs, v, e, r⟩⟩))
theorem s_fld : sFld K ta tv f D σ H ↔ tv σ H fun y H1 => ta σ H1 fun x H2 => ∃ a, x = .ref a ∧ StK K a f y H2 fun H3 => D.nx σ H3 := Iff.of_eq (congrArg (tv σ H) (funext fun y => funext fun H1 => congrArg (ta σ H1) (funext fun x => funext fun H2 => propext ⟨fun ⟨a, C, dx, fs, e, r⟩ => ⟨a, e, C, dx, fs, r⟩, fun ⟨a, e, C, dx, fs, r⟩ => ⟨a, C, dx, fs, e, r⟩⟩)))
theorem FldK.of {G : V → Prop} (L : Led B H l) (m : (p, HO.ins C dx fs) ∈ l) (c : Cls K C) (n : NoAttr K C f) (e : fs.lookup f = some v) (k : G v) : FldK K p f H G := ⟨C, dx, fs, v, L.at m, c, n, e, k⟩
theorem StK.of {G : Hp → Prop} (L : Led B H l) (m : (p, HO.ins C dx fs) ∈ l) (c : Cls K C) (n : NoAttr K C f) (e : putF f v fs = fs') (t : Put l p (.ins C dx fs') l') (k : ∀ H1, Led B H1 l' → G H1) (h : fs.length < 1000 := by first | decide | (simp only [List.length_cons, List.length_nil]; decide) | omega) : StK K p f v H G :=
  ⟨C, dx, fs, L.at m, c, n, h, by rw [e]; exact k _ (L.put t)⟩
/-- o.m(..) -/
def MtK (p C : Addr) (m : Str) (H : Hp) (G : Prop) : Prop := ∃ dx fs, H p = some (.ins C dx fs) ∧ fs.lookup m = none ∧ G
theorem e_MG {m : Str} {sp : Sp} {dvs : List V} {E : L2.St → XK} {t : TA} : tMG C m sp dvs E ta t σ H Q ↔ ta σ H fun x H1 => ∃ a, x = .ref a ∧ MtK a C m H1 (t σ H1 fun vs H2 => sp (x :: (vs ++ dvs)) H2 Q (E σ)) :=
  Iff.of_eq (congrArg (ta σ H) (funext fun x => funext fun H1 => propext ⟨fun ⟨a, dx, fs, e, r1, r2, r3⟩ => ⟨a, e, dx, fs, r1, r2, r3⟩, fun ⟨a, e, dx, fs, r1, r2, r3⟩ => ⟨a, dx, fs, e, r1, r2, r3⟩⟩))
theorem MtK.of {m : Str} {G : Prop} (L : Led B H l) (h : (p, HO.ins C dx fs) ∈ l) (e : fs.lookup m = none) (k : G) : MtK p C m H G := ⟨dx, fs, L.at h, e, k⟩
/-- C(..) -/
def MkK (C : Addr) (H : Hp) (G : Addr → Hp → Prop) : Prop := ∀ x dx, H x = none → H dx = none → dx ≠ x → G x (upd (upd H dx (.own x)) x (.ins C dx []))
theorem e_KG {sp : Sp} {dvs : List V} {E : L2.St → XK} {t : TA} : tKG C sp dvs E t σ H Q = t σ H fun vs H1 => MkK C H1 fun x H2 => sp (.ref x :: (vs ++ dvs)) H2 (fun v H3 => v = .non ∧ Q (.ref x) H3) (E σ) := propext ⟨fun h => h, fun h => h⟩
theorem MkK.of {G : Addr → Hp → Prop} (L : Led B H l) (k : ∀ x dx H1, Led B H1 ((x, .ins C dx []) :: l) → G x H1) : MkK C H G := fun x dx hx hd ne =>
  k x dx _ (((L.new hd).new (by rw [upd_ne ne.symm]; exact hx)).sel (.cons .hd (.skip .all)))
/-! ### lists again -/
def RptK (l : Addr) (n : Int) (H : Hp) (G : Addr → Hp → Prop) : Prop := ∃ xs, H l = some (.lst xs) ∧ -(2 ^ 63) ≤ n ∧ n < 2 ^ 63 ∧ xs.length * n.toNat ≤ sizeLine ∧ NewK (.lst (List.replicate n.toNat xs).flatten) H G
theorem x_rpt {a : Addr} {n : Int} : rRep (.ref a) (.int n) H Q ↔ RptK a n H fun p H1 => Q (.ref p) H1 := ⟨fun ⟨_, _, xs, e1, e2, h, h1, h2, h3, q⟩ => by cases e1; cases e2; exact ⟨xs, h, h1, h2, h3, q⟩, fun ⟨xs, h, h1, h2, h3, q⟩ => ⟨a, n, xs, rfl, rfl, h, h1, h2, h3, q⟩⟩
theorem flat_one {α : Type} (n : Nat) (x : α) : (List.replicate n [x]).flatten = List.replicate n x := by
  induction n with
  | zero => rfl
  | succ n ih => rw [List.replicate_succ, List.flatten_cons, ih, List.replicate_succ]; rfl
theorem RptK.of {a : Addr} {n : Nat} {G : Addr → Hp → Prop} (L : Led B H l) (h : (a, HO.lst [v]) ∈ l) (hn : n ≤ 100000) (k : ∀ p H1, Led B H1 ((p, .lst (List.replicate n v)) :: l) → G p H1) : RptK a (n : Int) H G :=
  ⟨[v], L.at h, by omega, by omega, Nat.le_trans (m := 100000) (by rw [Int.toNat_natCast]; simpa using hn) (by decide), by rw [Int.toNat_natCast, flat_one]; exact NewK.of L k⟩
def RemK (a : Addr) (n : Int) (H : Hp) (G : Hp → Prop) : Prop := ∃ (ns : List Int) (j : Nat), H a = some (.lst (ns.map V.int)) ∧ ns[j]? = some n ∧ (∀ m : Nat, m < j → ns[m]? ≠ some n) ∧ G (upd H a (.lst ((ns.eraseIdx j).map V.int)))
theorem x_rem {a : Addr} {n : Int} : rRemI (.ref a) [.int n] H Q ↔ RemK a n H fun H1 => Q .non H1 := ⟨fun ⟨_, ns, _, j, e1, e2, h, h1, h2, q⟩ => by cases e1; cases e2; exact ⟨ns, j, h, h1, h2, q⟩, fun ⟨ns, j, h, h1, h2, q⟩ => ⟨a, ns, n, j, rfl, rfl, h, h1, h2, q⟩⟩
theorem first_at {n : Int} : ∀ {ns : List Int}, n ∈ ns → ∃ j, ns[j]? = some n ∧ (∀ m : Nat, m < j → ns[m]? ≠ some n) ∧ ns.eraseIdx j = ns.erase n
  | [], h => (List.not_mem_nil h).elim
  | x :: r, h => by
    by_cases c : x = n
    · subst c
      exact ⟨0, rfl, fun m hm => absurd hm (Nat.not_lt_zero _), by rw [List.erase_cons_head]; rfl⟩
    · obtain ⟨j, h1, h2, h3⟩ := first_at ((List.mem_cons.mp h).resolve_left fun z => c z.symm)
      refine ⟨j + 1, h1, fun m hm => ?_, ?_⟩
      · cases m with
        | zero => intro z; exact c (Option.some.inj z)
        | succ m => exact h2 m (by omega)
      · rw [List.erase_cons_tail (by simpa using c), List.eraseIdx_cons_succ, h3]
theorem RemK.of {a : Addr} {n : Int} {ns : List Int} {G : Hp → Prop} (L : Led B H l) (h : (a, HO.lst (ns.map V.int)) ∈ l) (hm : n ∈ ns) (t : Put l a (.lst ((ns.erase n).map V.int)) l') (k : ∀ H1, Led B H1 l' → G H1) : RemK a n H G := by
  obtain ⟨j, h1, h2, h3⟩ := first_at hm
  exact ⟨ns, j, L.at h, h1, h2, by rw [h3]; exact k _ (L.put t)⟩
def MinK (K : PySem.W.Frag) (a : Addr) (H : Hp) (G : Int → Prop) : Prop := ∃ ns : List Int, SqL K H a (ns.map V.int) ∧ 0 < ns.length ∧ ∀ m, m ∈ ns → (∀ y, y ∈ ns → m ≤ y) → G m
theorem x_min {a : Addr} : rMin K [.ref a] H Q ↔ MinK K a H fun m => Q (.int m) H := ⟨fun ⟨_, ns, e, r⟩ => by cases e; exact ⟨ns, r⟩, fun ⟨ns, r⟩ => ⟨a, ns, rfl, r⟩⟩
theorem e_lrg1 {te : L2.St → Hp → (Int → Int → Hp → Prop) → Prop} : tLstRg te σ H Q = te σ H fun a b H1 => RgOk a b ∧ NewK (.lst (rgV a b)) H1 fun p H2 => Q (.ref p) H2 := propext ⟨fun h => h, fun h => h⟩
theorem e_rg1 {R : Int → Int → Hp → Prop} : tRg1 ta σ H R = ta σ H fun x H1 => ∃ n, x = .int n ∧ R 0 n H1 := propext ⟨fun h => h, fun h => h⟩
def rRev : V → List V → Hp → VK → Prop := rReverse
def RevK (a : Addr) (H : Hp) (G : Hp → Prop) : Prop := ∃ xs, H a = some (.lst xs) ∧ G (upd H a (.lst xs.reverse))
theorem x_rev {a : Addr} : rReverse (.ref a) [] H Q ↔ RevK a H fun H1 => Q .non H1 := ⟨fun ⟨_, xs, e, _, h, q⟩ => by cases e; exact ⟨xs, h, q⟩, fun ⟨xs, h, q⟩ => ⟨a, xs, rfl, rfl, h, q⟩⟩
theorem RevK.of {a : Addr} {xs : List V} {G : Hp → Prop} (L : Led B H l) (h : (a, HO.lst xs) ∈ l) (t : Put l a (.lst xs.reverse) l') (k : ∀ H1, Led B H1 l' → G H1) : RevK a H G := ⟨xs, L.at h, k _ (L.put t)⟩
theorem s_augS {to ti te : TE} {tget : V → V → Hp → VK → Prop} {tip : TIp} {tset : TSet} : tAugS to ti te tget tip tset D σ H = to σ H fun o H1 => ti σ H1 fun i H2 => tget o i H2 fun x H3 => te σ H3 fun y H4 => tip x y H4 fun z H5 => tset o i z H5 fun H6 => D.nx σ H6 := propext ⟨fun h => h, fun h => h⟩
theorem x_ip {g : Int → Int → Int} {i j : Int} : ipI g (.int i) (.int j) H Q ↔ Q (.int (g i j)) H := ⟨fun ⟨_, _, e1, e2, q⟩ => by cases e1; cases e2; exact q, fun q => ⟨i, j, rfl, rfl, q⟩⟩
theorem i_rng3 {al : TA} {R : It → Hp → Prop} : iRng3 al σ H R = al σ H fun vs H1 => ∃ (i j c : Int) (n : Nat), vs = [.int i, .int j, .int c] ∧ RgC i j c n ∧ R (Itc i c n) H1 := propext ⟨fun h => h, fun h => h⟩
end
theorem pget_list {X : Cx} : PGet X (rIxL X.K) := by
  intro pins s σ H x y v u Q I rx ry h
  obtain ⟨p, xs, i, z, rfl, rfl, hq, he, q⟩ := h
  cases rx
  obtain ⟨t, rfl⟩ := ry
  obtain ⟨its, r, pl, hz⟩ := I.list hq
  obtain ⟨j, h1, h2, h3, h4, h5⟩ := atI_get he
  obtain ⟨w, ew, rw'⟩ := r.get h2
  have hl := r.length
  have hn := line63
  have fin : EP X pins σ Q w s := ⟨z, H, I, rw', q⟩
  by_cases h0 : 0 ≤ i
  · have hj : i.toNat = j := by
      have h1' := h1
      rw [seqIndex_of h0 h5] at h1'
      exact Option.some.inj h1'
    exact wpAny_getItem_list pl.isList h0 (by omega) (by rw [hj]; simpa using ew) fin
  · have hj : (i + (its.toArray.size : Int)).toNat = j := by
      have h1' := h1
      rw [seqIndex_neg (by omega) h4] at h1'
      rw [List.size_toArray, ← hl]
      exact Option.some.inj h1'
    exact wpAny_getItem_list_neg pl.isList (by omega) (by rw [List.size_toArray] <;> omega) (by omega) (by rw [hj]; simpa using ew) fin
/-! ### loops, kept whole -/
section
variable {K : PySem.W.Frag} {g : TG} {tb : TS} {D : Ends} {σ : L2.St} {H : Hp} {a : Addr} {xs : List V} {lo : Int} {n : Nat}
theorem loop_list (Pv : Nat → L2.St → Hp → Prop) (h0 : Pv 0 σ H) (hl : ∀ i σ H, i ≤ xs.length → Pv i σ H → SqL K H a xs)
    (hs : ∀ i x σ H (N : L2.St → Hp → Prop), xs[i]? = some x → Pv i σ H → (∀ σ' H', Pv (i + 1) σ' H' → N σ' H') → g x σ H fun σ2 H2 => tb { D with nx := N, ct := N, bk := D.nx } σ2 H2) (hd : ∀ σ H, Pv xs.length σ H → D.nx σ H) : LoopK (Itl K a) g tb D σ H :=
  for_list Pv h0 hl (fun i x σ H e p => hs i x σ H _ e p fun _ _ z => z) hd
theorem loop_tup (Pv : Nat → L2.St → Hp → Prop) (h0 : Pv 0 σ H) (hl : ∀ i σ H, i ≤ xs.length → Pv i σ H → SqT K H a xs)
    (hs : ∀ i x σ H (N : L2.St → Hp → Prop), xs[i]? = some x → Pv i σ H → (∀ σ' H', Pv (i + 1) σ' H' → N σ' H') → g x σ H fun σ2 H2 => tb { D with nx := N, ct := N, bk := D.nx } σ2 H2) (hd : ∀ σ H, Pv xs.length σ H → D.nx σ H) : LoopK (Itt K a) g tb D σ H :=
  for_tup Pv h0 hl (fun i x σ H e p => hs i x σ H _ e p fun _ _ z => z) hd
theorem loop_range (Pv : Nat → L2.St → Hp → Prop) (h0 : Pv 0 σ H)
    (hs : ∀ i σ H (N : L2.St → Hp → Prop), i < n → Pv i σ H → (∀ σ' H', Pv (i + 1) σ' H' → N σ' H') → g (.int (lo + i)) σ H fun σ2 H2 => tb { D with nx := N, ct := N, bk := D.nx } σ2 H2) (hd : ∀ σ H, Pv n σ H → D.nx σ H) : LoopK (Itr lo n) g tb D σ H :=
  for_range Pv h0 (fun i σ H e p => hs i σ H _ e p fun _ _ z => z) hd
theorem loop_rangeC {c : Int} (Pv : Nat → L2.St → Hp → Prop) (h0 : Pv 0 σ H)
    (hs : ∀ i σ H (N : L2.St → Hp → Prop), i < n → Pv i σ H → (∀ σ' H', Pv (i + 1) σ' H' → N σ' H') → g (.int (lo + (i : Nat) * c)) σ H fun σ2 H2 => tb { D with nx := N, ct := N, bk := D.nx } σ2 H2) (hd : ∀ σ H, Pv n σ H → D.nx σ H) : LoopK (Itc lo c n) g tb D σ H :=
  for_rangeC Pv h0 (fun i σ H e p => hs i σ H _ e p fun _ _ z => z) hd
variable {tt : TT} {te : TE} {vs : List Nat} {Q : VK}
/-- what a turn of a comprehension does, N behind it -/
def TurnK (g : TG) (tt : TT) (te : TE) (vs : List Nat) (σ : L2.St) (p : Addr) (N : Hp → Prop) (x : V) (H : Hp) : Prop :=
  g x (wipe σ vs) H fun σ2 H2 => wipe σ2 vs = wipe σ vs ∧ tt σ2 H2 fun b H3 => if b = true then te σ2 H3 fun y H4 => AppK p y H4 N else N H3
theorem comp_gen {J : It} (n : Nat) (R : Nat → Addr → List V → Hp → Prop) (h0 : ∀ p, H p = none → R 0 p [] (upd H p (.lst [])))
    (hn : ∀ p acc H', R n p acc H' → J.stop n H' ∧ Q (.ref p) H')
    (hs : ∀ i p acc H', i < n → R i p acc H' → J.go i H' ∧ ∀ x H2, J.yld i H' x H2 → TurnK g tt te vs σ p (fun H3 => ∃ acc, R (i + 1) p acc H3) x H2) : LcK J g tt te vs σ H Q := by
  intro p hp
  refine ⟨fun i m H' => m = n - i ∧ i ≤ n ∧ ∃ acc, R i p acc H', ⟨n, rfl, Nat.zero_le _, [], h0 p hp⟩, ?_⟩
  rintro i m H' ⟨rfl, hi, acc, r⟩
  by_cases c : i < n
  · obtain ⟨r1, r2⟩ := hs i p acc H' c r
    exact Or.inr ⟨r1, fun H'' => ∃ acc, R (i + 1) p acc H'', fun H'' z => ⟨n - (i + 1), by omega, rfl, c, z⟩, fun x H2 y => r2 x H2 y⟩
  · have e : i = n := by omega
    subst e
    exact Or.inl (hn p acc H' r)
/-- over a list that stands -/
theorem comp_list (R : Nat → Addr → List V → Hp → Prop) (h0 : ∀ p, H p = none → R 0 p [] (upd H p (.lst []))) (hl : ∀ i p acc H', R i p acc H' → SqL K H' a xs)
    (hn : ∀ p acc H', R xs.length p acc H' → Q (.ref p) H') (hs : ∀ i p acc H' x (N : Hp → Prop), xs[i]? = some x → R i p acc H' → (∀ acc H3, R (i + 1) p acc H3 → N H3) → TurnK g tt te vs σ p N x H') : LcK (Itl K a) g tt te vs σ H Q := by
  refine comp_gen xs.length R h0 (fun p acc H' r => ⟨⟨xs, hl _ _ _ _ r, Nat.le_refl _⟩, hn p acc H' r⟩) fun i p acc H' hi r => ?_
  refine ⟨⟨xs, xs[i], hl _ _ _ _ r, List.getElem?_eq_getElem hi⟩, ?_⟩
  rintro x H2 ⟨rfl, hx⟩
  exact hs i p acc _ x _ (hx xs (hl _ _ _ _ r)) r fun acc H3 z => ⟨acc, z⟩
theorem comp_tup (R : Nat → Addr → List V → Hp → Prop) (h0 : ∀ p, H p = none → R 0 p [] (upd H p (.lst []))) (hl : ∀ i p acc H', R i p acc H' → SqT K H' a xs)
    (hn : ∀ p acc H', R xs.length p acc H' → Q (.ref p) H') (hs : ∀ i p acc H' x (N : Hp → Prop), xs[i]? = some x → R i p acc H' → (∀ acc H3, R (i + 1) p acc H3 → N H3) → TurnK g tt te vs σ p N x H') : LcK (Itt K a) g tt te vs σ H Q := by
  refine comp_gen xs.length R h0 (fun p acc H' r => ⟨⟨xs, hl _ _ _ _ r, Nat.le_refl _⟩, hn p acc H' r⟩) fun i p acc H' hi r => ?_
  refine ⟨⟨xs, xs[i], hl _ _ _ _ r, List.getElem?_eq_getElem hi⟩, ?_⟩
  rintro x H2 ⟨rfl, hx⟩
  exact hs i p acc _ x _ (hx xs (hl _ _ _ _ r)) r fun acc H3 z => ⟨acc, z⟩
theorem comp_range (R : Nat → Addr → List V → Hp → Prop) (h0 : ∀ p, H p = none → R 0 p [] (upd H p (.lst [])))
    (hn : ∀ p acc H', R n p acc H' → Q (.ref p) H') (hs : ∀ i p acc H' (N : Hp → Prop), i < n → R i p acc H' → (∀ acc H3, R (i + 1) p acc H3 → N H3) → TurnK g tt te vs σ p N (.int (lo + i)) H') : LcK (Itr lo n) g tt te vs σ H Q := by
  refine comp_gen n R h0 (fun p acc H' r => ⟨Nat.le_refl _, hn p acc H' r⟩) fun i p acc H' hi r => ⟨hi, ?_⟩
  rintro x H2 ⟨rfl, rfl⟩
  exact hs i p acc _ _ hi r fun acc H3 z => ⟨acc, z⟩
/-- over enumerate of a list that stands -/
theorem comp_enum (R : Nat → Addr → List V → Hp → Prop) (h0 : ∀ p, H p = none → R 0 p [] (upd H p (.lst []))) (hl : ∀ i p acc H', R i p acc H' → SqL K H' a xs)
    (hn : ∀ p acc H', R xs.length p acc H' → Q (.ref p) H')
    (hs : ∀ i p acc H' x (N : Hp → Prop), xs[i]? = some x → R i p acc H' → (∀ acc H3, R (i + 1) p acc H3 → N H3) → NewK (.tup [.int (i : Nat), x]) H' fun t H2 => TurnK g tt te vs σ p N (.ref t) H2) : LcK (Ite K a) g tt te vs σ H Q := by
  refine comp_gen xs.length R h0 (fun p acc H' r => ⟨⟨xs, hl _ _ _ _ r, Nat.le_refl _⟩, hn p acc H' r⟩) fun i p acc H' hi r => ?_
  refine ⟨⟨xs, xs[i], hl _ _ _ _ r, List.getElem?_eq_getElem hi⟩, ?_⟩
  rintro v H2 ⟨t, x, rfl, ht, rfl, hx⟩
  exact hs i p acc _ x _ (hx xs (hl _ _ _ _ r)) r (fun acc H3 z => ⟨acc, z⟩) t ht
end

/-! ### small facts -/
theorem NeD.of {K : PySem.W.Frag} {H : Hp} {x y : V} {d e : PyData} {Q : VK} (h1 : Dp K H x d) (h2 : Dp K H y e) (s1 : SeqAt.shaped d = true) (s2 : SeqAt.shaped e = true) (q : Q (.bl (!PyData.eqv d e)) H) : rNeD K x y H Q := ⟨d, e, h1, h2, s1, s2, q⟩
theorem EqD.of {K : PySem.W.Frag} {H : Hp} {x y : V} {d e : PyData} {Q : VK} (h1 : Dp K H x d) (h2 : Dp K H y e) (s1 : SeqAt.shaped d = true) (s2 : SeqAt.shaped e = true) (q : Q (.bl (PyData.eqv d e)) H) : rEqD K x y H Q := ⟨d, e, h1, h2, s1, s2, q⟩
theorem RepK.of {K : PySem.W.Frag} {H : Hp} {x : V} {d : PyData} {n k : Nat} {G : Str → Prop} (h : Dp K H x d) (w : Shw n k d) (h1 : n ≤ 16000000) (h2 : k ≤ 60) (q : G d.shown) : RepK K x H G := ⟨d, h, w.up h1 h2, q⟩
theorem RepK.int {K : PySem.W.Frag} {H : Hp} {i : Int} {G : Str → Prop} (k : Nat) (h : i.natAbs < 2 ^ k) (q : G (PyData.int i).shown) (h0 : 0 < k := by decide) (h1 : k ≤ 1920 := by decide) : RepK K (.int i) H G := RepK.of (Dp.int i) (Shw.int h0 h1 h) (by omega) (by decide) q
theorem RepK.bl {K : PySem.W.Frag} {H : Hp} {b : Bool} {G : Str → Prop} (q : G (PyData.bool b).shown) : RepK K (.bl b) H G := RepK.of (Dp.bl b) (Shw.bl b) (by decide) (by decide) q
theorem canLayAll_all : ∀ ds : List PyData, (∀ d ∈ ds, d.canLay0 = true) → PyData.canLayAll0 ds = true
  | [], _ => rfl
  | d :: r, h => by
    rw [PyData.canLayAll0, h d List.mem_cons_self, canLayAll_all r fun e he => h e (List.mem_cons_of_mem _ he)]; rfl
/-- data that == takes -/
structure Eqd (k : Nat) (d : PyData) : Prop where
  c : d.canLay0 = true
  p : d.depth ≤ k
theorem Eqd.lst {k : Nat} {ds : List PyData} (h : ∀ d ∈ ds, Eqd k d) : Eqd (k + 1) (.list ds) := ⟨by rw [PyData.canLay0]; exact canLayAll_all ds fun d hd => (h d hd).c, by
  simp only [PyData.depth]
  have := depthAll_le ds fun d hd => (h d hd).p
  omega⟩
theorem Eqd.tup {k : Nat} {ds : List PyData} (h : ∀ d ∈ ds, Eqd k d) : Eqd (k + 1) (.tuple ds) := ⟨by rw [PyData.canLay0]; exact canLayAll_all ds fun d hd => (h d hd).c, by
  simp only [PyData.depth]
  have := depthAll_le ds fun d hd => (h d hd).p
  omega⟩
theorem Eqd.int (i : Int) : Eqd 1 (.int i) := ⟨by rw [PyData.canLay0], by simp [PyData.depth]⟩
theorem Eqd.str (i : Str) (h : PyData.strOk i = true) : Eqd 1 (.str i) := ⟨by rw [PyData.canLay0]; exact h, by simp [PyData.depth]⟩
theorem Eqd.bl (i : Bool) : Eqd 1 (.bool i) := ⟨by rw [PyData.canLay0], by simp [PyData.depth]⟩
theorem Eqd.non : Eqd 1 .none := ⟨by rw [PyData.canLay0], by simp [PyData.depth]⟩
theorem Eqd.sh {k : Nat} {d : PyData} (h : Eqd k d) (hk : k ≤ 64) : SeqAt.shaped d = true := by
  unfold SeqAt.shaped
  rw [h.c, Bool.true_and]
  exact decide_eq_true (Nat.le_trans h.p hk)
theorem eqv_nil (ds : List PyData) : PyData.eqv (.list ds) (.list []) = ds.isEmpty := by
  cases ds with
  | nil => exact rfl
  | cons d r => exact rfl
theorem EqD.nil {K : PySem.W.Frag} {H : Hp} {a b : Addr} {xs : List V} {ds : List PyData} {Q : VK} {k : Nat} (h : SqL K H a xs) (e : DpAll K H xs ds) (g : ∀ d ∈ ds, Eqd k d) (hk : k ≤ 60) (h2 : SqL K H b []) (q : Q (.bl ds.isEmpty) H) : rEqD K (.ref a) (.ref b) H Q :=
  EqD.of (.lst h e) (.lst h2 .nil) ((Eqd.lst g).sh (by omega)) ((Eqd.lst (k := 1) (ds := []) (fun _ z => (List.not_mem_nil z).elim)).sh (by decide)) (by rw [eqv_nil]; exact q)
theorem NeD.nil {K : PySem.W.Frag} {H : Hp} {a b : Addr} {xs : List V} {ds : List PyData} {Q : VK} {k : Nat} (h : SqL K H a xs) (e : DpAll K H xs ds) (g : ∀ d ∈ ds, Eqd k d) (hk : k ≤ 60) (h2 : SqL K H b []) (q : Q (.bl (!ds.isEmpty)) H) : rNeD K (.ref a) (.ref b) H Q :=
  NeD.of (.lst h e) (.lst h2 .nil) ((Eqd.lst g).sh (by omega)) ((Eqd.lst (k := 1) (ds := []) (fun _ z => (List.not_mem_nil z).elim)).sh (by decide)) (by rw [eqv_nil]; exact q)
theorem tyL {K : PySem.W.Frag} {H : Hp} {p : Addr} {xs : List V} (h : SqL K H p xs) : tyV K "list" (.ref p) H := Or.inl ⟨rfl, _, h⟩
theorem tri_even (t : Int) : t * (t + 1) % 2 = 0 := by
  rw [Int.mul_emod]
  have h : t % 2 = 0 ∨ t % 2 = 1 := by omega
  rcases h with h | h
  · rw [h, Int.zero_mul]; rfl
  · have e : (t + 1) % 2 = 0 := by omega
    rw [e, Int.mul_zero]; rfl
theorem eqv_refl_nil : PyData.eqv (.list []) (.list []) = true := by first | rfl | simp [PyData.eqv, PyData.eqvAll] | decide +kernel
theorem sc_ii {i j : Int} : scal (.int i) (.int j) = true ↔ True := iff_true_intro rfl
theorem sc_ss {i j : Str} : scal (.str i) (.str j) = true ↔ True := iff_true_intro rfl
theorem sc_bb {i j : Bool} : scal (.bl i) (.bl j) = true ↔ True := iff_true_intro rfl
theorem sc_nn : scal .non .non = true ↔ True := iff_true_intro rfl
theorem sc_ns {j : Str} : scal .non (.str j) = true ↔ True := iff_true_intro rfl
theorem sc_sn {j : Str} : scal (.str j) .non = true ↔ True := iff_true_intro rfl
theorem sc_ni {j : Int} : scal .non (.int j) = true ↔ True := iff_true_intro rfl
theorem sc_in {j : Int} : scal (.int j) .non = true ↔ True := iff_true_intro rfl
theorem tri (t : Int) : (t + 1) * (t + 1 + 1) / 2 = t * (t + 1) / 2 + (t + 1) := by
  have e : (t + 1) * (t + 1 + 1) = t * (t + 1) + 2 * (t + 1) := by
    rw [Int.mul_add (t + 1) (t + 1) 1, Int.add_mul t 1 (t + 1)]
    omega
  rw [e]
  omega
theorem atI_in {α : Type} {xs : List α} {i : Int} (h0 : 0 ≤ i) (h : i < xs.length) : atI xs i = some (xs[i.toNat]'(by omega)) := by
  unfold atI ixN
  rw [if_pos h0, if_pos h]
  show xs[i.toNat]? = _
  exact List.getElem?_eq_getElem _
theorem atI_map {ns : List Int} {i : Int} (h0 : 0 ≤ i) (h : i < ns.length) : ∃ n, n ∈ ns ∧ atI (ns.map V.int) i = some (.int n) := by
  have h2 : i < ((ns.map V.int).length : Nat) := by rw [List.length_map]; exact h
  refine ⟨ns[i.toNat]'(by omega), List.getElem_mem _, ?_⟩
  rw [atI_in h0 h2, List.getElem_map]
theorem two_pow (n : Nat) : (2 : Int) ^ n = ((2 ^ n : Nat) : Int) := by
  rw [Int.natCast_pow]; rfl
theorem abs_lt {i : Int} {n : Nat} (h0 : 0 ≤ i) (h : i < 2 ^ n) : i.natAbs < 2 ^ n := by
  rw [two_pow] at h
  omega
theorem pow_bits {i : Int} {n m : Nat} (hn : 0 < n) (h0 : 0 ≤ i) (h : i < 2 ^ n) (hm : n * m ≤ 2 ^ 27) : 0 ≤ (m : Int) ∧ (Builtin.Int.intBits i : Int) * (m : Int) ≤ 2 ^ 27 := by
  have h2 := bits_le hn (abs_lt h0 h)
  refine ⟨by omega, ?_⟩
  have h3 : Builtin.Int.intBits i * m ≤ 2 ^ 27 := Nat.le_trans (Nat.mul_le_mul_right m h2) hm
  have h4 : ((Builtin.Int.intBits i * m : Nat) : Int) ≤ ((2 ^ 27 : Nat) : Int) := Int.ofNat_le.mpr h3
  rw [Int.natCast_mul] at h4
  exact h4
theorem mul_w {i j : Int} {n : Nat} (hn : 0 < n) (h0 : 0 ≤ i) (h : i < 2 ^ n) (h1 : 0 ≤ j) (h2 : j < 2 ^ n) (hm : n + n ≤ 1000000) : CMulW i j := wide_mul (a := n) (b := n) (abs_lt h0 h) (abs_lt h1 h2) hn hn hm
theorem div_w {i j : Int} {n : Nat} (hn : 0 < n) (h0 : 0 < j) (h : j < 2 ^ n) (hm : n ≤ 9000) : CDivW i j := wide_div h0 (b := n) (abs_lt (by omega) h) hn hm
end Vg


set_option Elab.async false
set_option linter.all false
set_option maxRecDepth 100000
set_option maxHeartbeats 2000000
namespace Vg
open PySem PySem.Spec PyProof.Rows L2

/-! ### data of any kind, dicts within -/
def keyD : Key → PyData
  | .inl i => .int i
  | .inr x => .str x
mutual
inductive Dq (K : PySem.W.Frag) (H : Hp) : V → PyData → Prop
  | non : Dq K H .non .none
  | bl (b : Bool) : Dq K H (.bl b) (.bool b)
  | int (i : Int) : Dq K H (.int i) (.int i)
  | str (x : Str) : Dq K H (.str x) (.str x)
  | lst {a : Addr} {xs : List V} {ds : List PyData} : SqL K H a xs → DqAll K H xs ds → Dq K H (.ref a) (.list ds)
  | tup {a : Addr} {xs : List V} {ds : List PyData} : SqT K H a xs → DqAll K H xs ds → Dq K H (.ref a) (.tuple ds)
  | dct {a : Addr} {kvs : List (Key × V)} {ps : List (PyData × PyData)} : H a = some (.dK kvs) → ps.map (·.1) = kvs.map (fun kv => keyD kv.1) → DqAll K H (kvs.map (·.2)) (ps.map (·.2)) → Dq K H (.ref a) (.dict ps)
inductive DqAll (K : PySem.W.Frag) (H : Hp) : List V → List PyData → Prop
  | nil : DqAll K H [] []
  | cons {v : V} {vs : List V} {d : PyData} {ds : List PyData} : Dq K H v d → DqAll K H vs ds → DqAll K H (v :: vs) (d :: ds)
end
/-- sys.modules stands -/
def SM (bs : Heap) : Prop := ∃ mm, bs.Ns sysModules mm
section
variable {X : Cx} {pins : List (Addr × Obj)} {σ : L2.St} {H : Hp} {s : Shared}
theorem SM.ne (m : SM X.base) (I : L2.Inv X pins σ H s) {a : Addr} {o : Obj} {its : Array Value} {n : Nat} (h : s.heap.get? a = some o) (hd : o.data = .seq its n) : sysModules ≠ a := by
  intro e
  obtain ⟨mm, ob, es, ep, h1, h2, _⟩ := m
  have h3 := I.bk _ _ h1
  rw [e, h] at h3
  cases h3
  rw [hd] at h2
  cases h2
theorem keys_reads {P : Program} {w : World} {h : Heap} : ∀ {es : List DictEntry} {vs : List (Key × Value)}, Pairs (mixKind P w) es vs → ReadsAll h (es.map (·.key)) (vs.map fun kv => keyD kv.1) []
  | _, _, .nil => .nil
  | _, _, .cons (e := e) (kv := kv) h1 h2 r => by
    have ih := keys_reads (h := h) r
    rcases keyIs_shape (show keyIs kv.1 e.key = true from h1) with ⟨i, t, e1, e2⟩ | ⟨x, t, e1, e2⟩
    · rw [List.map_cons, List.map_cons, e2, e1]
      exact ReadsAll.cons (Reads.int i t) ih
    · rw [List.map_cons, List.map_cons, e2, e1]
      exact ReadsAll.cons (Reads.str x t) ih
theorem vals_of_pairs {P : Program} {w : World} : ∀ {es : List DictEntry} {vs : List (Key × Value)} {kvs : List (Key × V)}, Pairs (mixKind P w) es vs → KV kvs vs → Vals (kvs.map (·.2)) (es.map (·.val)) ∧ kvs.map (fun kv => keyD kv.1) = vs.map (fun kv => keyD kv.1)
  | _, _, _, .nil, .nil => ⟨.nil, rfl⟩
  | _, _, _, .cons h1 h2 r, .cons p q => by
    obtain ⟨i1, i2⟩ := vals_of_pairs r q
    refine ⟨.cons (by show L2.RelV _ (DictEntry.val _); rw [h2]; exact p.2) i1, ?_⟩
    rw [List.map_cons, List.map_cons, i2, p.1]
theorem size_snd : ∀ ps : List (PyData × PyData), sizeOf (ps.map (·.2)) ≤ sizeOf ps
  | [] => Nat.le_refl _
  | (k, v) :: r => by
    have := size_snd r
    simp only [List.map_cons, List.cons.sizeOf_spec, Prod.mk.sizeOf_spec]
    omega
mutual
theorem Dq.reads (m : SM X.base) (I : L2.Inv X pins σ H s) : ∀ (d : PyData) (v : V) (u : Value), Dq X.K H v d → RelV v u → ∃ as, Reads s.heap u d as ∧ sysModules ∉ as
  | .none, _, _, h, r => by
    cases h
    cases r
    exact ⟨_, Reads.none, List.not_mem_nil⟩
  | .bool b, _, _, h, r => by
    cases h
    cases r
    exact ⟨_, Reads.bool b, List.not_mem_nil⟩
  | .int i, _, _, h, r => by
    cases h
    obtain ⟨t, rfl⟩ := r
    exact ⟨_, Reads.int i t, List.not_mem_nil⟩
  | .str x, _, _, h, r => by
    cases h
    obtain ⟨t, rfl⟩ := r
    exact ⟨_, Reads.str x t, List.not_mem_nil⟩
  | .list ds, _, _, h, r => by
    cases h with
    | lst hs ha =>
      cases r
      obtain ⟨its, rv, ⟨o, n, ho, hc, _, hd⟩, _⟩ := I.list hs
      obtain ⟨as, hr, hn⟩ := DqAll.reads m I ds _ its ha rv
      exact ⟨_, Reads.list ho hc hd hr, fun z => (List.mem_cons.mp z).elim (m.ne I ho hd) hn⟩
  | .tuple ds, _, _, h, r => by
    cases h with
    | tup hs ha =>
      cases r
      obtain ⟨its, rv, ⟨o, ho, hc, n, hd⟩, _⟩ := I.tuple hs
      obtain ⟨as, hr, hn⟩ := DqAll.reads m I ds _ its ha rv
      exact ⟨_, Reads.tuple ho hc hd hr, hn⟩
  | .dict ps, _, _, h, r => by
    cases h with
    | dct hd hk ha =>
      cases r
      obtain ⟨_, lo, vs, kv, o, es, ep, ho, ex, hdat, _, pr, _⟩ := I.hok _ _ hd
      obtain ⟨v1, v2⟩ := vals_of_pairs pr kv
      obtain ⟨as, hr, hn⟩ := DqAll.reads m I (ps.map (·.2)) _ _ ha v1
      have hkeys := keys_reads (h := s.heap) pr
      rw [← v2, ← hk] at hkeys
      refine ⟨_, Reads.dict ho ex.1 hdat hkeys hr, fun z => ?_⟩
      rcases List.mem_cons.mp z with z | z
      · exact (beq_eq_false_iff_ne.mp lo) z.symm
      · exact hn z
termination_by d => sizeOf d
decreasing_by
  all_goals first
  | (simp only [PyData.dict.sizeOf_spec]; have := size_snd ps; omega)
  | (simp only [PyData.list.sizeOf_spec]; omega)
  | (simp only [PyData.tuple.sizeOf_spec]; omega)
theorem DqAll.reads (m : SM X.base) (I : L2.Inv X pins σ H s) : ∀ (ds : List PyData) (vs : List V) (us : List Value), DqAll X.K H vs ds → Vals vs us → ∃ as, ReadsAll s.heap us ds as ∧ sysModules ∉ as
  | [], _, _, h, r => by
    cases h
    cases r
    exact ⟨_, ReadsAll.nil, List.not_mem_nil⟩
  | d :: ds, _, _, h, r => by
    cases h with
    | cons h1 h2 =>
      cases r with
      | cons r1 r2 =>
        obtain ⟨as, q1, n1⟩ := Dq.reads m I d _ _ h1 r1
        obtain ⟨bs, q2, n2⟩ := DqAll.reads m I ds _ _ h2 r2
        exact ⟨_, ReadsAll.cons q1 q2, fun z => (List.mem_append.mp z).elim n1 n2⟩
termination_by ds => sizeOf ds
decreasing_by all_goals (simp only [List.cons.sizeOf_spec]; omega)
end
end
mutual
theorem Dq.of {K : PySem.W.Frag} {H : Hp} : ∀ {v : V} {d : PyData}, Dp K H v d → Dq K H v d
  | _, _, .non => .non
  | _, _, .bl b => .bl b
  | _, _, .int i => .int i
  | _, _, .str x => .str x
  | _, _, .lst h a => .lst h (DqAll.of a)
  | _, _, .tup h a => .tup h (DqAll.of a)
theorem DqAll.of {K : PySem.W.Frag} {H : Hp} : ∀ {v : List V} {d : List PyData}, DpAll K H v d → DqAll K H v d
  | _, _, .nil => .nil
  | _, _, .cons h r => .cons (Dq.of h) (DqAll.of r)
end
mutual
theorem Dq.mono {K : PySem.W.Frag} {H H' : Hp} (s : Same H H') : ∀ {v : V} {d : PyData}, Dq K H v d → Dq K H' v d
  | _, _, .non => .non
  | _, _, .bl b => .bl b
  | _, _, .int i => .int i
  | _, _, .str x => .str x
  | _, _, .lst h a => .lst (s.seq h) (DqAll.mono s a)
  | _, _, .tup (a := p) (xs := xs) h a => .tup (by
      rcases h with (h | ⟨o, h⟩) | h
      · exact Or.inl (Or.inl (s _ _ h))
      · exact Or.inl (Or.inr ⟨o, s _ _ h⟩)
      · exact Or.inr h) (DqAll.mono s a)
  | _, _, .dct h k a => .dct (s _ _ h) k (DqAll.mono s a)
theorem DqAll.mono {K : PySem.W.Frag} {H H' : Hp} (s : Same H H') : ∀ {v : List V} {d : List PyData}, DqAll K H v d → DqAll K H' v d
  | _, _, .nil => .nil
  | _, _, .cons h r => .cons (Dq.mono s h) (DqAll.mono s r)
end
/-- as Shw, dicts within -/
structure Shq (n k : Nat) (d : PyData) : Prop where
  sh : d.showable = true
  dp : d.depth ≤ k
  sz : d.shown.length ≤ n
theorem Shw.q {n k : Nat} {d : PyData} (h : Shw n k d) : Shq n k d := ⟨h.sh, h.dp, h.sz⟩
theorem Shq.up {n k m j : Nat} {d : PyData} (h : Shq n k d) (h1 : n ≤ m) (h2 : k ≤ j) : Shq m j d := ⟨h.sh, Nat.le_trans h.dp h2, Nat.le_trans h.sz h1⟩
theorem Shq.lst {n k : Nat} {ds : List PyData} (h : ∀ d ∈ ds, Shq n k d) : Shq (ds.length * (n + 2) + 2) (k + 1) (.list ds) := by
  refine ⟨?_, ?_, ?_⟩
  · rw [PyData.showable]
    exact showableAll_all ds fun d hd => (h d hd).sh
  · simp only [PyData.depth]
    have := depthAll_le ds fun d hd => (h d hd).dp
    omega
  · rw [PyData.shown, shownAll_map]
    refine Nat.le_trans (listText_le _) ?_
    have := lt_one (n := n) (ds.map PyData.shown) (by
      intro t ht
      obtain ⟨d, hd, rfl⟩ := List.mem_map.mp ht
      exact (h d hd).sz)
    rw [List.length_map] at this
    omega
theorem Shq.tup {n k : Nat} {ds : List PyData} (h : ∀ d ∈ ds, Shq n k d) : Shq (ds.length * (n + 2) + 2) (k + 1) (.tuple ds) := by
  refine ⟨?_, ?_, ?_⟩
  · rw [PyData.showable]
    exact showableAll_all ds fun d hd => (h d hd).sh
  · simp only [PyData.depth]
    have := depthAll_le ds fun d hd => (h d hd).dp
    omega
  · rw [PyData.shown, shownAll_map]
    refine Nat.le_trans (fmt_text _) ?_
    have := lt_one (n := n) (ds.map PyData.shown) (by
      intro t ht
      obtain ⟨d, hd, rfl⟩ := List.mem_map.mp ht
      exact (h d hd).sz)
    rw [List.length_map] at this
    omega
/-! ### repr of these -/
def RepQ (K : PySem.W.Frag) (x : V) (H : Hp) (G : Str → Prop) : Prop := ∃ d, Dq K H x d ∧ Shq 16000000 60 d ∧ G d.shown
def rReprQ (K : PySem.W.Frag) : List V → Hp → VK → Prop := fun xs H Q => ∃ x, xs = [x] ∧ RepQ K x H fun t => Q (.str t) H
theorem x_reprQ {K : PySem.W.Frag} {x : V} {H : Hp} {Q : VK} : rReprQ K [x] H Q ↔ RepQ K x H fun t => Q (.str t) H := ⟨fun ⟨_, e, q⟩ => by cases e; exact q, fun q => ⟨x, rfl, q⟩⟩
theorem call_reprQ {X : Cx} {n : Nat} (g : X.A.guards = some []) (r : Room n X.A) (m : SM X.base) : CallR X (.builtin "repr") (rReprQ X.K) := by
  intro pins s σ H xs us Q I rv h
  obtain ⟨x, rfl, d, hd, sw, q⟩ := h
  obtain ⟨u, rfl, ru⟩ := vals1 rv
  have hz : d.shown.length ≤ sizeLine := Nat.le_trans sw.sz (by decide)
  have hu := r.units
  obtain ⟨as, rd, hno⟩ := Dq.reads m I _ _ _ hd ru
  have rest : ∀ a, u = Value.ref a → wpAny (model X.prog X.w) X.A (call (.builtin "repr") [u]) (EP X pins σ Q) X.xe s := by
    rintro a rfl
    refine repr_of_reads' rd sw.sh (fun _ => hno) g (by have := sw.dp; omega) (fun _ _ z => z) (fun h' u tk hk => ?_) hz
    exact ⟨.str _, H, I.call' (s' := { s with heap := h', toks := tk }) (ch := []) rfl (Un.kept hk) (I.hok.kept hk) I.bare (fun b z => (List.not_mem_nil z).elim), ⟨u, rfl⟩, q⟩
  cases hd with
  | non =>
    cases ru
    rw [PyData.shown] at q
    exact PySem.P.repr_of_none ⟨.str _, H, I.tok _, ⟨_, rfl⟩, q⟩
  | bl b =>
    cases ru
    rw [PyData.shown] at q
    exact PySem.P.repr_of_bool ⟨.str _, H, I.tok _, ⟨_, rfl⟩, q⟩
  | int i =>
    obtain ⟨t, rfl⟩ := ru
    have hs := sw.sh
    rw [PyData.showable] at hs
    rw [PyData.shown] at q
    exact PySem.P.repr_of_int (of_decide_eq_true hs) ⟨.str _, H, I.tok _, ⟨_, rfl⟩, q⟩
  | str y =>
    obtain ⟨t, rfl⟩ := ru
    rw [PyData.shown] at hz q
    exact PySem.P.repr_of_str ⟨.str _, H, I.tok _, ⟨_, rfl⟩, q⟩ hz
  | lst hs ha => exact rest _ ru
  | tup hs ha => exact rest _ ru
  | dct hs hk ha => exact rest _ ru
/-! ### == of two lists of other lengths; list.count of flat things -/
def LenNe (K : PySem.W.Frag) (a b : Addr) (H : Hp) : Prop := ∃ xs ys : List V, SqL K H a xs ∧ SqL K H b ys ∧ xs.length ≠ ys.length
def rEqL (K : PySem.W.Frag) : R2 := fun x y H Q => rEqD K x y H Q ∨ ∃ a b, x = .ref a ∧ y = .ref b ∧ LenNe K a b H ∧ Q (.bl false) H
theorem op_eqL {X : Cx} (hu : X.A.units + 64 < cLine) : OpR X (compareOp .Eq) (rEqL X.K) := by
  intro pins s σ H x y v u Q I rx ry h
  rcases h with h | ⟨a, b, rfl, rfl, ⟨xs, ys, h1, h2, ne⟩, q⟩
  · exact op_eqD hu pins s σ H x y v u Q I rx ry h
  · cases rx
    cases ry
    obtain ⟨i1, r1, p1, _⟩ := I.list h1
    obtain ⟨i2, r2, p2, _⟩ := I.list h2
    refine SeqAt.eq_list_lengthsAt p1.isList p2.isList ?_ (by omega) ⟨.bl _, H, I, rfl, q⟩
    rw [bne_iff_ne, List.size_toArray, List.size_toArray, ← r1.length, ← r2.length]
    exact ne
def rCnt (K : PySem.W.Frag) : V → List V → Hp → VK → Prop := fun x vs H Q => ∃ (p : Addr) (xs : List V) (y : V), x = .ref p ∧ vs = [y] ∧ SqL K H p xs ∧ flatV y = true ∧ xs.all flatV = true ∧ Q (.int (xs.countP fun z => eqV z y : Nat)) H
theorem countP_eqU {y : V} : ∀ {xs : List V} {us : List Value}, Vals xs us → xs.all flatV = true → us.countP (eqU y) = xs.countP fun z => eqV z y
  | _, _, .nil, _ => rfl
  | _, _, .cons r rr, h => by
    rw [List.all_cons, Bool.and_eq_true] at h
    rw [List.countP_cons, List.countP_cons, countP_eqU rr h.2, eqU_of r h.1]
theorem mt_count {X : Cx} : MtR X "list.count" (rCnt X.K) := by
  intro pins s σ H x xs v us Q I rx rxs h
  obtain ⟨p, zs, y, rfl, rfl, hs, fy, fz, q⟩ := h
  cases rx
  obtain ⟨u, rfl, ru⟩ := rxs.one
  obtain ⟨its, rv, ⟨⟨cls, dd, data, sl⟩, n, ho, hc, hdn, hd⟩, hlen⟩ := I.list hs
  simp only at hc hd
  subst hc hd
  refine call_meets PySem.F.slot_list_count ⟨_, ho, rfl⟩ PySem.F.entry_list_count (PySem.F.args_list_count_2 _ _)
    (SeqAt.list_countAt p its.toArray n dd sl u (eqU y)) ⟨ho, fun z hz => mem_eqAt ru fy rv fz z (by simpa using hz), ?_⟩
  refine ⟨.int (zs.countP fun z => eqV z y : Nat), H, I.tok _, ⟨s.toks, ?_⟩, q⟩
  show Value.int ((its.toArray.toList.countP (eqU y) : Nat) : Int) s.toks = _
  rw [show its.toArray.toList = its from rfl, countP_eqU rv fz]
/-! ### forms -/
theorem pe_low {X : Cx} {e : Expr} {t t' : TE} (h : PE X e t) (i : ∀ σ H Q, t' σ H Q → t σ H Q) : PE X e t' := ⟨fun pins s σ H Q I q => h.run pins s σ H Q I (i _ _ _ q)⟩
def CntK (K : PySem.W.Frag) (y : V) (p : Addr) (H : Hp) (G : Int → Prop) : Prop := ∃ xs, SqL K H p xs ∧ flatV y = true ∧ xs.all flatV = true ∧ G (xs.countP fun z => eqV z y : Nat)
def RvLK (K : PySem.W.Frag) (a : Addr) (H : Hp) (G : Addr → Hp → Prop) : Prop := ∃ xs, SqL K H a xs ∧ NewK (.lst xs.reverse) H G
def TupK (K : PySem.W.Frag) (a : Addr) (H : Hp) (G : Addr → Hp → Prop) : Prop := ∃ xs, SqL K H a xs ∧ NewK (.tup xs) H G
def rTupL (K : PySem.W.Frag) : List V → Hp → VK → Prop := fun xs H Q => ∃ p, xs = [.ref p] ∧ TupK K p H fun r H1 => Q (.ref r) H1
theorem cr_tupL {X : Cx} : CallR X (.type "tuple") (rTupL X.K) := CallR.as call_tuple_of fun _ _ _ ⟨p, e, ys, h, q⟩ => ⟨p, ys, e, Or.inl ⟨h, q⟩⟩
def tD1 (s : Str) (v : V) : TE := fun _ H Q => NewK (.dK [(.inr s, v)]) H fun p H1 => Q (.ref p) H1
section
variable {K : PySem.W.Frag} {H : Hp} {Q : VK} {σ : L2.St} {te : TE}
theorem x_cnt {p : Addr} {y : V} : rCnt K (.ref p) [y] H Q ↔ CntK K y p H fun n => Q (.int n) H := ⟨fun ⟨_, xs, _, e, e2, h, f1, f2, q⟩ => by cases e; cases e2; exact ⟨xs, h, f1, f2, q⟩, fun ⟨xs, h, f1, f2, q⟩ => ⟨p, xs, y, rfl, rfl, h, f1, f2, q⟩⟩
theorem e_revL : tRevL K te σ H Q ↔ te σ H fun x H1 => ∃ a, x = .ref a ∧ RvLK K a H1 fun p H2 => Q (.ref p) H2 := Iff.of_eq (congrArg (te σ H) (funext fun x => funext fun H1 => propext ⟨fun ⟨a, xs, e, h, q⟩ => ⟨a, e, xs, h, q⟩, fun ⟨a, e, xs, h, q⟩ => ⟨a, xs, e, h, q⟩⟩))
theorem x_tupL {p : Addr} : rTupL K [.ref p] H Q ↔ TupK K p H fun r H1 => Q (.ref r) H1 := ⟨fun ⟨_, e, q⟩ => by cases e; exact q, fun q => ⟨p, rfl, q⟩⟩
theorem e_dn : tDNewK σ H Q = NewK (.dK []) H fun p H2 => Q (.ref p) H2 := propext ⟨fun h => h, fun h => h⟩
theorem e_d1 {s : Str} {v : V} : tD1 s v σ H Q = NewK (.dK [(.inr s, v)]) H fun p H1 => Q (.ref p) H1 := propext ⟨fun h => h, fun h => h⟩
end
theorem upd_upd {H : Hp} {p : Addr} {o o' : HO} : upd (upd H p o) p o' = upd H p o' := by
  funext a
  by_cases c : a = p
  · rw [c, upd_same, upd_same]
  · rw [upd_ne c, upd_ne c, upd_ne c]
theorem pe_d1 {X : Cx} {pos : Pos} {k e : Expr} {s : Str} {v : V} (hk : PE X k (tC (.str s))) (he : PE X e (tC v)) : PE X (.Dict [some k] [e] pos) (tD1 s v) := by
  refine pe_low (pe_disp (pps_cons hk he pps_nil) rfl rfl (List.cons_ne_nil _ _) (by show 1 ≤ 15; decide)) fun σ H Q q p hp => ?_
  refine ⟨upd_same, [(.inr s, v)], rfl, (by show 1 ≤ 15; decide), ?_⟩
  have := q p hp
  rw [show mergeK [] [(Sum.inr s, v)] = [(Sum.inr s, v)] from rfl, upd_upd]
  exact this
section
variable {K : PySem.W.Frag} {H : Hp} {Q : VK}
theorem x_isI_list {x : Int} : rIs K [.int x, .ty "list"] H Q ↔ Q (.bl false) H := x_is (.base (.int x)) (fun _ => ty_int) (by decide +kernel)
theorem x_isI_str {x : Int} : rIs K [.int x, .ty "str"] H Q ↔ Q (.bl false) H := x_is (.base (.int x)) (fun _ => ty_int) (by decide +kernel)
theorem x_isI_dict {x : Int} : rIs K [.int x, .ty "dict"] H Q ↔ Q (.bl false) H := x_is (.base (.int x)) (fun _ => ty_int) (by decide +kernel)
theorem x_isI_tuple {x : Int} : rIs K [.int x, .ty "tuple"] H Q ↔ Q (.bl false) H := x_is (.base (.int x)) (fun _ => ty_int) (by decide +kernel)
theorem x_isB_list {x : Bool} : rIs K [.bl x, .ty "list"] H Q ↔ Q (.bl false) H := x_is (.base (.bl x)) (fun _ => ty_bl) (by decide +kernel)
theorem x_isB_str {x : Bool} : rIs K [.bl x, .ty "str"] H Q ↔ Q (.bl false) H := x_is (.base (.bl x)) (fun _ => ty_bl) (by decide +kernel)
theorem x_isB_dict {x : Bool} : rIs K [.bl x, .ty "dict"] H Q ↔ Q (.bl false) H := x_is (.base (.bl x)) (fun _ => ty_bl) (by decide +kernel)
theorem x_isB_tuple {x : Bool} : rIs K [.bl x, .ty "tuple"] H Q ↔ Q (.bl false) H := x_is (.base (.bl x)) (fun _ => ty_bl) (by decide +kernel)
theorem x_isN_list : rIs K [.non, .ty "list"] H Q ↔ Q (.bl false) H := x_is (.base .non) (fun _ => ty_non) (by decide +kernel)
theorem x_isN_str : rIs K [.non, .ty "str"] H Q ↔ Q (.bl false) H := x_is (.base .non) (fun _ => ty_non) (by decide +kernel)
theorem x_isN_dict : rIs K [.non, .ty "dict"] H Q ↔ Q (.bl false) H := x_is (.base .non) (fun _ => ty_non) (by decide +kernel)
theorem x_isN_tuple : rIs K [.non, .ty "tuple"] H Q ↔ Q (.bl false) H := x_is (.base .non) (fun _ => ty_non) (by decide +kernel)
theorem x_isS_list {x : Str} : rIs K [.str x, .ty "list"] H Q ↔ Q (.bl false) H := x_is (.base (.str x)) (fun _ => ty_str) (by decide +kernel)
theorem x_isS_dict {x : Str} : rIs K [.str x, .ty "dict"] H Q ↔ Q (.bl false) H := x_is (.base (.str x)) (fun _ => ty_str) (by decide +kernel)
theorem x_isS_tuple {x : Str} : rIs K [.str x, .ty "tuple"] H Q ↔ Q (.bl false) H := x_is (.base (.str x)) (fun _ => ty_str) (by decide +kernel)
theorem IsK.lstL {a : Addr} {n : String} {xs : List V} {b : Bool} {G : Bool → Prop} (h : SqL K H a xs) (k : kitB "list" n = some b) (q : G b) : IsK K a n H G := by
  rcases h with (h | ⟨o, h⟩) | ⟨o, its, m, h, hc, _⟩
  · exact ⟨_, b, .base (.lst h), k, q⟩
  · exact ⟨_, b, .base (.frz h), k, q⟩
  · exact ⟨_, b, .kList h hc, k, q⟩
theorem IsK.dK {a : Addr} {n : String} {kvs : List (Key × V)} {b : Bool} {G : Bool → Prop} (h : H a = some (.dK kvs)) (k : kitB "dict" n = some b) (q : G b) : IsK K a n H G := ⟨_, b, .base (.dK h), k, q⟩
theorem EqL0 {a b : Addr} {xs : List V} (h : SqL K H a xs) (h2 : SqL K H b []) (q : Q (.bl xs.isEmpty) H) : rEqL K (.ref a) (.ref b) H Q := by
  cases xs with
  | nil => exact Or.inl (EqD.nil (k := 1) h .nil (fun _ z => (List.not_mem_nil z).elim) (by decide) h2 q)
  | cons x r => exact Or.inr ⟨a, b, rfl, rfl, ⟨_, _, h, h2, by simp⟩, q⟩
end
/-! ### how long a list's text is -/
def Wt (ds : List PyData) : Nat := piled (ds.map PyData.shown)
theorem piled_app (a b : List Str) : piled (a ++ b) = piled a + piled b := by
  induction a with
  | nil => simp [piled]
  | cons x r ih => unfold piled at *; simp only [List.cons_append, List.map_cons, List.sum_cons] at *; omega
theorem Wt.nil : Wt [] = 0 := rfl
theorem Wt.cons (d : PyData) (ds : List PyData) : Wt (d :: ds) = d.shown.length + 2 + Wt ds := by unfold Wt piled; simp only [List.map_cons, List.sum_cons]
theorem Wt.app (a b : List PyData) : Wt (a ++ b) = Wt a + Wt b := by unfold Wt; rw [List.map_append, piled_app]
theorem Wt.take (ds : List PyData) (n : Nat) : Wt (ds.take n) ≤ Wt ds := by
  have := Wt.app (ds.take n) (ds.drop n)
  rw [List.take_append_drop] at this
  omega
theorem Wt.drop (ds : List PyData) (n : Nat) : Wt (ds.drop n) ≤ Wt ds := by
  have := Wt.app (ds.take n) (ds.drop n)
  rw [List.take_append_drop] at this
  omega
theorem Wt.rev (ds : List PyData) : Wt ds.reverse = Wt ds := by
  induction ds with
  | nil => rfl
  | cons d r ih => rw [List.reverse_cons, Wt.app, ih, Wt.cons, Wt.cons, Wt.nil]; omega
structure Shd (k : Nat) (d : PyData) : Prop where
  sh : d.showable = true
  dp : d.depth ≤ k
theorem Shd.lst {k : Nat} {ds : List PyData} (h : ∀ d ∈ ds, Shd k d) : Shq (Wt ds + 2) (k + 1) (.list ds) := by
  refine ⟨?_, ?_, ?_⟩
  · rw [PyData.showable]
    exact showableAll_all ds fun d hd => (h d hd).sh
  · simp only [PyData.depth]
    have := depthAll_le ds fun d hd => (h d hd).dp
    omega
  · rw [PyData.shown, shownAll_map]
    exact listText_le _
theorem Shd.tup {k : Nat} {ds : List PyData} (h : ∀ d ∈ ds, Shd k d) : Shq (Wt ds + 2) (k + 1) (.tuple ds) := by
  refine ⟨?_, ?_, ?_⟩
  · rw [PyData.showable]
    exact showableAll_all ds fun d hd => (h d hd).sh
  · simp only [PyData.depth]
    have := depthAll_le ds fun d hd => (h d hd).dp
    omega
  · rw [PyData.shown, shownAll_map]
    exact fmt_text _
theorem Shq.d {n k : Nat} {d : PyData} (h : Shq n k d) : Shd k d := ⟨h.sh, h.dp⟩
theorem Shd.up {k j : Nat} {d : PyData} (h : Shd k d) (h2 : k ≤ j) : Shd j d := ⟨h.sh, Nat.le_trans h.dp h2⟩
section
variable {K : PySem.W.Frag} {H : Hp}
theorem DqAll.app : ∀ {xs ys : List V} {ds es : List PyData}, DqAll K H xs ds → DqAll K H ys es → DqAll K H (xs ++ ys) (ds ++ es)
  | _, _, _, _, .nil, h => h
  | _, _, _, _, .cons h r, h2 => .cons h (DqAll.app r h2)
theorem DqAll.take : ∀ {xs : List V} {ds : List PyData} (n : Nat), DqAll K H xs ds → DqAll K H (xs.take n) (ds.take n)
  | _, _, 0, _ => .nil
  | _, _, n + 1, .nil => .nil
  | _, _, n + 1, .cons h r => .cons h (DqAll.take n r)
theorem DqAll.drop : ∀ {xs : List V} {ds : List PyData} (n : Nat), DqAll K H xs ds → DqAll K H (xs.drop n) (ds.drop n)
  | _, _, 0, h => h
  | _, _, n + 1, .nil => .nil
  | _, _, n + 1, .cons h r => DqAll.drop n r
theorem DqAll.rev : ∀ {xs : List V} {ds : List PyData}, DqAll K H xs ds → DqAll K H xs.reverse ds.reverse
  | _, _, .nil => .nil
  | _, _, .cons h r => by
    rw [List.reverse_cons, List.reverse_cons]
    exact (DqAll.rev r).app (.cons h .nil)
theorem DqAll.len : ∀ {xs : List V} {ds : List PyData}, DqAll K H xs ds → xs.length = ds.length
  | _, _, .nil => rfl
  | _, _, .cons h r => by rw [List.length_cons, List.length_cons, DqAll.len r]
theorem DqAll.at : ∀ {xs : List V} {ds : List PyData} {i : Nat} {x : V}, DqAll K H xs ds → xs[i]? = some x → ∃ d, ds[i]? = some d ∧ Dq K H x d
  | _, _, 0, _, .cons h r, e => by cases e; exact ⟨_, rfl, h⟩
  | _, _, i + 1, _, .cons h r, e => DqAll.at (i := i) r e
end
/-- all that is owned goes to the base -/
theorem Led.sinkAll {H : Hp} : ∀ {l : List (Addr × HO)} {B : Hp}, Led B H l → ∃ B', Same B B' ∧ (∀ e ∈ l, B' e.1 = some e.2) ∧ Led B' H []
  | [], B, L => ⟨B, Same.refl B, fun e he => (List.not_mem_nil he).elim, L⟩
  | (p, o) :: l, B, L => by
    obtain ⟨B1, s1, h1, L1⟩ := L.sink
    obtain ⟨B2, s2, h2, L2⟩ := Led.sinkAll L1
    refine ⟨B2, s1.trans s2, fun e he => ?_, L2⟩
    rcases List.mem_cons.mp he with z | z
    · rw [z]; exact s2 _ _ h1
    · exact h2 e z
/-! ### lists whose text is short -/
def DW (K : PySem.W.Frag) (H : Hp) (m W k : Nat) (xs : List V) : Prop := ∃ ds, DqAll K H xs ds ∧ Wt ds ≤ W ∧ (∀ d ∈ ds, Shd k d) ∧ xs.length ≤ m
section
variable {K : PySem.W.Frag} {H H' : Hp} {m W k m2 W2 k2 : Nat} {xs ys : List V}
theorem DW.mono (s : Same H H') (h : DW K H m W k xs) : DW K H' m W k xs := by
  obtain ⟨ds, h1, h2⟩ := h
  exact ⟨ds, h1.mono s, h2⟩
theorem DW.up (h : DW K H m W k xs) (h1 : m ≤ m2) (h2 : W ≤ W2) (h3 : k ≤ k2) : DW K H m2 W2 k2 xs := by
  obtain ⟨ds, q1, q2, q3, q4⟩ := h
  exact ⟨ds, q1, by omega, fun d hd => (q3 d hd).up h3, by omega⟩
theorem DW.nil : DW K H 0 0 k [] := ⟨[], .nil, Nat.le_refl _, fun d hd => (List.not_mem_nil hd).elim, Nat.le_refl _⟩
theorem DW.one {v : V} {d : PyData} {n : Nat} (h : Dq K H v d) (w : Shq n k d) : DW K H 1 (n + 2) k [v] :=
  ⟨[d], .cons h .nil, by rw [Wt.cons, Wt.nil]; have := w.sz; omega, fun e he => by rw [List.mem_singleton.mp he]; exact w.d, Nat.le_refl _⟩
theorem DW.app (h : DW K H m W k xs) (h2 : DW K H m2 W2 k ys) : DW K H (m + m2) (W + W2) k (xs ++ ys) := by
  obtain ⟨ds, q1, q2, q3, q4⟩ := h
  obtain ⟨es, r1, r2, r3, r4⟩ := h2
  exact ⟨ds ++ es, q1.app r1, by rw [Wt.app]; omega, fun d hd => (List.mem_append.mp hd).elim (q3 d) (r3 d), by rw [List.length_append]; omega⟩
theorem DW.rev (h : DW K H m W k xs) : DW K H m W k xs.reverse := by
  obtain ⟨ds, q1, q2, q3, q4⟩ := h
  exact ⟨ds.reverse, q1.rev, by rw [Wt.rev]; exact q2, fun d hd => q3 d (List.mem_reverse.mp hd), by rw [List.length_reverse]; exact q4⟩
theorem DW.cut {lo hi : Option Int} (h : DW K H m W k xs) : DW K H m W k (cutV xs lo hi) := by
  obtain ⟨ds, q1, q2, q3, q4⟩ := h
  unfold cutV
  refine ⟨_, (q1.drop _).take _, Nat.le_trans (Wt.take _ _) (Nat.le_trans (Wt.drop _ _) q2), fun d hd => q3 d (List.mem_of_mem_drop (List.mem_of_mem_take hd)), ?_⟩
  rw [List.length_take, List.length_drop]
  omega
theorem DW.at {i : Nat} {x : V} (h : DW K H m W k xs) (e : xs[i]? = some x) : ∃ d, Dq K H x d ∧ Shq W k d := by
  obtain ⟨ds, q1, q2, q3, q4⟩ := h
  obtain ⟨d, hd, r⟩ := q1.at e
  have hm := List.mem_of_getElem? hd
  refine ⟨d, r, (q3 d hm).sh, (q3 d hm).dp, ?_⟩
  have : ∀ es : List PyData, d ∈ es → d.shown.length ≤ Wt es := by
    intro es he
    induction es with
    | nil => cases he
    | cons e r ih =>
      rw [Wt.cons]
      rcases List.mem_cons.mp he with z | z
      · rw [z]; omega
      · have := ih z; omega
  exact Nat.le_trans (this ds hm) q2
theorem DW.lst {p : Addr} (h : DW K H m W k xs) (hp : SqL K H p xs) : ∃ d, Dq K H (.ref p) d ∧ Shq (W + 2) (k + 1) d := by
  obtain ⟨ds, q1, q2, q3, q4⟩ := h
  exact ⟨_, .lst hp q1, (Shd.lst q3).up (by omega) (Nat.le_refl _)⟩
theorem DW.tup {p : Addr} (h : DW K H m W k xs) (hp : SqT K H p xs) : ∃ d, Dq K H (.ref p) d ∧ Shq (W + 2) (k + 1) d := by
  obtain ⟨ds, q1, q2, q3, q4⟩ := h
  exact ⟨_, .tup hp q1, (Shd.tup q3).up (by omega) (Nat.le_refl _)⟩
def isS : V → Bool
  | .str _ => true
  | _ => false
theorem Dq.isStr {v : V} {d : PyData} {Q : VK} (h : Dq K H v d) (q : Q (.bl (isS v)) H) : rIs K [v, .ty "str"] H Q := by
  cases h with
  | non => exact x_isN_str.mpr q
  | bl b => exact x_isB_str.mpr q
  | int i => exact x_isI_str.mpr q
  | str s => exact x_is_ib.mpr q
  | lst h _ => exact x_isR.mpr (IsK.lstL h (show kitB _ "str" = some false by decide +kernel) q)
  | tup h _ =>
    rcases h with (h | ⟨o, h⟩) | ⟨o, its, n, h, hc, _⟩
    · exact x_isR.mpr ⟨_, _, .base (.tup h), (show kitB _ "str" = some false by decide +kernel), q⟩
    · exact x_isR.mpr ⟨_, _, .fTuple h, (show kitB _ "str" = some false by decide +kernel), q⟩
    · exact x_isR.mpr ⟨_, _, .kTuple h hc, (show kitB _ "str" = some false by decide +kernel), q⟩
  | dct h _ _ => exact x_isR.mpr (IsK.dK h (show kitB _ "str" = some false by decide +kernel) q)
end
end Vg


set_option Elab.async false
set_option linter.all false
set_option maxRecDepth 100000
set_option maxHeartbeats 4000000
namespace My
open PySem PySem.Spec PyProof.Rows L2 Vg
theorem sz_3 : 3 ≤ sizeLine ↔ True := iff_true_intro (by decide)
theorem sz_2 : 2 ≤ sizeLine ↔ True := iff_true_intro (by decide)
theorem sz_15 : 15 ≤ sizeLine ↔ True := iff_true_intro (by decide)
theorem sz_6 : 6 ≤ sizeLine ↔ True := iff_true_intro (by decide)
theorem sz_0 : 0 ≤ sizeLine ↔ True := iff_true_intro (by decide)
theorem sz_1 : 1 ≤ sizeLine ↔ True := iff_true_intro (by decide)
theorem sz_11 : 11 ≤ sizeLine ↔ True := iff_true_intro (by decide)
theorem cp_10_41 : CPow 10 41 ↔ True := iff_true_intro ⟨by decide, by decide, by decide⟩
theorem cp_10_40 : CPow 10 40 ↔ True := iff_true_intro ⟨by decide, by decide, by decide⟩
theorem sz_4 : 4 ≤ sizeLine ↔ True := iff_true_intro (by decide)
theorem cp_10_18 : CPow 10 18 ↔ True := iff_true_intro ⟨by decide, by decide, by decide⟩
theorem cp_10_38 : CPow 10 38 ↔ True := iff_true_intro ⟨by decide, by decide, by decide⟩
end My

open PySem PySem.Spec PyProof.Rows L2 Vg
set_option hygiene false in
local macro_rules | `(tactic| walk_at "vc") => `(tactic| try simp only [k_cx, k_cx2, x_isI_list, x_isI_str, x_isI_dict, x_isI_tuple, x_isB_list, x_isB_str, x_isB_dict, x_isB_tuple, x_isN_list, x_isN_str, x_isN_dict, x_isN_tuple, x_isS_list, x_isS_dict, x_isS_tuple, x_reprQ, x_cnt, e_revL, x_tupL, e_dn, e_d1, My.sz_3, My.sz_2, My.sz_15, My.sz_6, My.sz_0, My.sz_1, My.sz_11, My.cp_10_41, My.cp_10_40, My.sz_4, My.cp_10_18, My.cp_10_38, e_var, e_c, e_op, e_un, e_if, e_andV, e_orV, e_notV, e_lst, e_tup, e_CB, e_BM, e_BM0, e_G, e_chain, e_sl, e_part, e_nopart, a_nil, a_cons, t_B, t_test, t_and, t_or, t_not, t_yes,
  s_seq, s_next, s_break, s_cont, s_drop, s_ret, s_retN, s_ifS, s_asg, s_aug, s_par, Int.zero_add, g_name, g_tup, g_nil, g_cons, g_sub, i_list, i_tup, i_rng1, i_rng2, i_enum, s_for, e_lc, x_I, x_I0, x_U, x_eq, x_ne, x_ixL, x_ixT, x_setL, x_app, x_ext, x_cat, x_slL, x_in, x_repr, e_fld, s_fld, e_MG, e_KG, x_rpt, x_rem, x_min, e_lrg1, e_rg1, x_rev, s_augS, x_ip, i_rng3, x_isR, x_is_int, x_is_bool, x_is_bi, x_is_bb, x_is_ib, x_is_nb, x_is_ni, x_is_sb, x_is_si, x_len, x_mx, x_mn,
  wipe, sc_ii, sc_ss, sc_bb, sc_nn, sc_ns, sc_sn, sc_ni, sc_in, List.set_cons_zero, List.set_cons_succ, List.getElem?_cons_zero, List.getElem?_cons_succ, Option.some.injEq, exists_eq_left', exists_eq_left, exists_and_left, exists_and_right, V.int.injEq, V.bl.injEq, V.ref.injEq, V.str.injEq, List.cons.injEq, and_true, true_and, decide_eq_true_eq, List.append_nil, reduceCtorEq, and_assoc,
  L2.start, List.map_cons, List.map_nil, List.length_cons, List.length_nil, List.replicate, List.cons_append, List.nil_append, Nat.reduceAdd, Nat.reduceSub, Nat.zero_add, ipI, decide_true, decide_false, if_true, if_false, Bool.not_true, Bool.not_false, Bool.false_eq_true, Int.reduceToNat, Int.reducePow, Int.reduceAdd, Int.reduceSub, Int.reduceMul, Int.reduceNeg, List.length_map])
local macro_rules | `(tactic| walk_at "sd") => `(tactic| first | assumption | omega | decide | exact ⟨by decide, by decide, by decide⟩ | exact ⟨by decide, by decide⟩ | (unfold CMul; omega) | (unfold CDiv; omega) | (show (_ : Nat) ≤ sizeLine; decide) | rfl)
local macro_rules | `(tactic| walk_at "mem") => `(tactic| (repeat (first | exact List.Mem.head _ | apply List.Mem.tail)))
local macro_rules | `(tactic| walk_at "put") => `(tactic| (repeat (first | exact Put.hd | apply Put.tl)))
local macro_rules | `(tactic| walk_at "pick") => `(tactic| (repeat (first | exact Pick.hd | apply Pick.tl)))
local macro_rules | `(tactic| walk_at "sel") => `(tactic| first | exact Sel.all | exact Sel.nil | (refine Sel.cons (by walk_at "pick") ?_; walk_at "sel") | (refine Sel.skip ?_; walk_at "sel"))
local macro_rules | `(tactic| walk_at "ifs") => `(tactic| repeat (first | rw [if_pos (by omega)] | rw [if_neg (by omega)]))
local macro_rules | `(tactic| walk_at "sds") => `(tactic| repeat (with_reducible refine And.intro (by walk_at "sd") ?_))
namespace My
open PySem PySem.Spec PyProof.Rows L2 Vg
def topS (i : Nat) : Stmt := PySem.Challenge.pw_splitnames_k02_what_are_outcomes.main.body.getD i (.Pass ⟨0, 0, 0, 0⟩)
abbrev s_law_cup : Stmt := topS 4
theorem sc_law_cup : FnScope ["script", "k", "cell"] ["script", "k"] (defScope s_law_cup) := ⟨rfl, rfl, rfl, by decide +kernel, rfl, by decide +kernel, by decide +kernel⟩
abbrev s_law_sip : Stmt := topS 5
theorem sc_law_sip : FnScope ["cup", "many", "found", "mixed"] ["cup", "many"] (defScope s_law_sip) := ⟨rfl, rfl, rfl, by decide +kernel, rfl, by decide +kernel, by decide +kernel⟩
abbrev s_law_results : Stmt := topS 6
theorem sc_law_results : FnScope ["cup", "many", "style", "found", "turn", "one", "two"] ["cup", "many"] (defScope s_law_results) := ⟨rfl, rfl, rfl, by decide +kernel, rfl, by decide +kernel, by decide +kernel⟩
abbrev s_is_outcome : Stmt := topS 2
theorem sc_is_outcome : FnScope ["value", "item"] ["value"] (defScope s_is_outcome) := ⟨rfl, rfl, rfl, by decide +kernel, rfl, by decide +kernel, by decide +kernel⟩
abbrev s_law_bent : Stmt := topS 8
theorem sc_law_bent : FnScope ["cup", "found", "at", "odd", "one", "rows"] ["cup", "found"] (defScope s_law_bent) := ⟨rfl, rfl, rfl, by decide +kernel, rfl, by decide +kernel, by decide +kernel⟩
abbrev s_law_due : Stmt := topS 7
theorem sc_law_due : FnScope ["value", "one"] ["value"] (defScope s_law_due) := ⟨rfl, rfl, rfl, by decide +kernel, rfl, by decide +kernel, by decide +kernel⟩
abbrev s_law : Stmt := topS 9
theorem sc_law : FnScope ["script", "k", "cup", "turn", "many", "value", "again", "kept", "values"] ["script"] (defScope s_law) := ⟨rfl, rfl, rfl, by decide +kernel, rfl, by decide +kernel, by decide +kernel⟩
/-- where the top has laid what the text names -/
structure Ad where
  a_law_cup : Addr
  fd_law_cup : FuncData
  a_law_sip : Addr
  fd_law_sip : FuncData
  a_law_results : Addr
  fd_law_results : FuncData
  a_is_outcome : Addr
  fd_is_outcome : FuncData
  a_law_bent : Addr
  fd_law_bent : FuncData
  a_law_due : Addr
  fd_law_due : FuncData
  a_law : Addr
  fd_law : FuncData
structure Mo (K : PySem.W.Frag) (mg : Str → Option Value) (d : Ad) : Prop where
  F_law_cup : Fun K "_law_cup" "_law_cup" s_law_cup d.a_law_cup d.fd_law_cup
  b_law_cup : Binds K d.fd_law_cup ["script", "k"] []
  g_law_cup : mg "_law_cup" = some (.ref d.a_law_cup)
  F_law_sip : Fun K "_law_sip" "_law_sip" s_law_sip d.a_law_sip d.fd_law_sip
  b_law_sip : Binds K d.fd_law_sip ["cup", "many"] []
  g_law_sip : mg "_law_sip" = some (.ref d.a_law_sip)
  F_law_results : Fun K "_law_results" "_law_results" s_law_results d.a_law_results d.fd_law_results
  b_law_results : Binds K d.fd_law_results ["cup", "many"] []
  g_law_results : mg "_law_results" = some (.ref d.a_law_results)
  F_is_outcome : Fun K "is_outcome" "is_outcome" s_is_outcome d.a_is_outcome d.fd_is_outcome
  b_is_outcome : Binds K d.fd_is_outcome ["value"] []
  g_is_outcome : mg "is_outcome" = some (.ref d.a_is_outcome)
  F_law_bent : Fun K "_law_bent" "_law_bent" s_law_bent d.a_law_bent d.fd_law_bent
  b_law_bent : Binds K d.fd_law_bent ["cup", "found"] []
  g_law_bent : mg "_law_bent" = some (.ref d.a_law_bent)
  F_law_due : Fun K "_law_due" "_law_due" s_law_due d.a_law_due d.fd_law_due
  b_law_due : Binds K d.fd_law_due ["value"] []
  g_law_due : mg "_law_due" = some (.ref d.a_law_due)
  F_law : Fun K "law" "law" s_law d.a_law d.fd_law
  b_law : Binds K d.fd_law ["script"] []
  g_law : mg "law" = some (.ref d.a_law)
  n_isinstance : mg "isinstance" = none
  n_len : mg "len" = none
  n_list : mg "list" = none
  n_max : mg "max" = none
  n_min : mg "min" = none
  n_range : mg "range" = none
  n_repr : mg "repr" = none
  n_str : mg "str" = none
  n_tuple : mg "tuple" = none
  mg_RESULTS : ∃ a, mg "RESULTS" = some (.ref a) ∧ ∀ H, SqT K H a [.str "down", .str "right", .str "stop"]
/-- a drawer of numbers stands at u, besides l -/
def Urn (B H : Hp) (u : Addr) (l : List (Addr × HO)) (c : Nat) : Prop := ∃ x y z : Int, Led B H ((u, .lst [.int x, .int y, .int z]) :: l) ∧ 0 ≤ x ∧ 0 ≤ y ∧ y < 2 ^ 150 ∧ 0 ≤ z ∧ z ≤ (c : Int)
theorem Urn.led {B H : Hp} {u : Addr} {l : List (Addr × HO)} {c : Nat} (U : Urn B H u l c) : Led B H l := by
  obtain ⟨x, y, z, L, _⟩ := U
  exact L.drop (n := 1)
theorem Urn.map {B H B' H' : Hp} {u : Addr} {l l' : List (Addr × HO)} {c : Nat} (U : Urn B H u l c) (h : ∀ o, Led B H ((u, o) :: l) → Led B' H' ((u, o) :: l')) : Urn B' H' u l' c := by
  obtain ⟨x, y, z, L, r⟩ := U
  exact ⟨x, y, z, h _ L, r⟩
theorem Urn.up {B H : Hp} {u : Addr} {l : List (Addr × HO)} {c d : Nat} (U : Urn B H u l c) (h : c ≤ d) : Urn B H u l d := by
  obtain ⟨x, y, z, L, r1, r2, r3, r4, r5⟩ := U
  exact ⟨x, y, z, L, r1, r2, r3, r4, by omega⟩
theorem Urn.new {B H : Hp} {u : Addr} {l : List (Addr × HO)} {c : Nat} {o : HO} {G : Addr → Hp → Prop} (U : Urn B H u l c) (k : ∀ p H1, Urn B H1 u ((p, o) :: l) c → G p H1) : NewK o H G := fun p hp =>
  k p _ (U.map fun o L => (L.new hp).sel (.cons (.tl .hd) .all))
theorem Urn.sel {B H : Hp} {u : Addr} {l l' : List (Addr × HO)} {c : Nat} (U : Urn B H u l c) (h : Sel l l') : Urn B H u l' c := U.map fun o L => L.sel (.cons .hd h)
theorem Urn.put {B H : Hp} {u p : Addr} {o : HO} {l l' : List (Addr × HO)} {c : Nat} (U : Urn B H u l c) (h : Put l p o l') : Urn B (upd H p o) u l' c := U.map fun _ L => L.put (.tl h)
theorem Urn.catK {B H : Hp} {u p q : Addr} {l : List (Addr × HO)} {c : Nat} {xs ys : List V} {G : Addr → Hp → Prop} (U : Urn B H u l c) (h : (p, HO.lst xs) ∈ l) (h2 : (q, HO.lst ys) ∈ l) (a : xs.length + ys.length ≤ sizeLine)
    (k : ∀ r H1, Urn B H1 u ((r, .lst (xs ++ ys)) :: l) c → G r H1) : CatK p q H G := ⟨xs, ys, U.led.at h, U.led.at h2, a, U.new k⟩
theorem Urn.appK {B H : Hp} {u p : Addr} {l l' : List (Addr × HO)} {c : Nat} {xs : List V} {v : V} {G : Hp → Prop} (U : Urn B H u l c) (h : (p, HO.lst xs) ∈ l) (a : xs.length < sizeLine) (t : Put l p (.lst (xs ++ [v])) l')
    (k : ∀ H1, Urn B H1 u l' c → G H1) : AppK p v H G := ⟨xs, U.led.at h, a, k _ (U.put t)⟩
theorem Urn.setK {B H : Hp} {u p : Addr} {l l' : List (Addr × HO)} {c j : Nat} {i : Int} {xs : List V} {v : V} {G : Hp → Prop} (U : Urn B H u l c) (h : (p, HO.lst xs) ∈ l) (a : ixN xs.length i = some j) (t : Put l p (.lst (xs.set j v)) l')
    (k : ∀ H1, Urn B H1 u l' c → G H1) : SetK p i v H G := ⟨xs, j, U.led.at h, a, k _ (U.put t)⟩
theorem Urn.rptK {B H : Hp} {u a : Addr} {l : List (Addr × HO)} {c n : Nat} {v : V} {G : Addr → Hp → Prop} (U : Urn B H u l c) (h : (a, HO.lst [v]) ∈ l) (hn : n ≤ 100000) (k : ∀ p H1, Urn B H1 u ((p, .lst (List.replicate n v)) :: l) c → G p H1) : RptK a (n : Int) H G :=
  ⟨[v], U.led.at h, by omega, by omega, Nat.le_trans (m := 100000) (by rw [Int.toNat_natCast]; simpa using hn) (by decide), by rw [Int.toNat_natCast, flat_one]; exact U.new k⟩
theorem Urn.remK {B H : Hp} {u a : Addr} {l l' : List (Addr × HO)} {c : Nat} {n : Int} {ns : List Int} {G : Hp → Prop} (U : Urn B H u l c) (h : (a, HO.lst (ns.map V.int)) ∈ l) (hm : n ∈ ns) (t : Put l a (.lst ((ns.erase n).map V.int)) l') (k : ∀ H1, Urn B H1 u l' c → G H1) : RemK a n H G := by
  obtain ⟨j, h1, h2, h3⟩ := first_at hm
  exact ⟨ns, j, U.led.at h, h1, h2, by rw [h3]; exact k _ (U.put t)⟩
def res3 : List V := [.str "down", .str "right", .str "stop"]
def good (v : V) : Bool := isS v && inV v res3
def cnt (xs : List V) (s : Str) : Nat := xs.countP fun z => eqV z (.str s)
def outB (xs : List V) : Bool := xs.all good && (decide (cnt xs "stop" ≤ 1) && (decide (cnt xs "right" < xs.length) && decide (cnt xs "down" < xs.length)))
theorem good_flat {xs : List V} (h : xs.all good = true) : xs.all flatV = true := by
  rw [List.all_eq_true] at *
  intro x hx
  have := h x hx
  cases x <;> first | rfl | (exact absurd this (by unfold good isS; simp))
theorem cnt_le (xs : List V) (s : Str) : cnt xs s ≤ xs.length := List.countP_le_length
theorem in3 (s : Str) : inV (.str s) [.str "stop", .str "right", .str "down"] = inV (.str s) res3 := by
  unfold inV res3
  simp only [List.any_cons, List.any_nil, Bool.or_false]
  generalize eqV (V.str "stop") (V.str s) = a
  generalize eqV (V.str "right") (V.str s) = b
  generalize eqV (V.str "down") (V.str s) = c
  cases a <;> cases b <;> cases c <;> rfl
def NotL (K : PySem.W.Frag) (B : Hp) (v : V) : Prop := ∀ H, Same B H → ∀ Q : VK, Q (.bl false) H → rIs K [v, .ty "list"] H Q
/-- what is asked of is_outcome -/
def Vv (K : PySem.W.Frag) (H : Hp) (v : V) (b : Bool) : Prop := (∃ p xs ds, v = .ref p ∧ SqL K H p xs ∧ DqAll K H xs ds ∧ b = outB xs) ∨ (NotL K H v ∧ b = false)
theorem out_bad {xs : List V} {x : V} {i : Nat} (h : xs[i]? = some x) (g : good x = false) : outB xs = false := by
  have : xs.all good = false := by
    rw [List.all_eq_false]
    exact ⟨x, List.mem_of_getElem? h, by rw [g]; exact Bool.false_ne_true⟩
  unfold outB
  rw [this, Bool.false_and]
theorem all_step {xs : List V} {x : V} {i : Nat} (h : xs[i]? = some x) (a : (xs.take i).all good = true) (g : good x = true) : (xs.take (i + 1)).all good = true := by
  rw [List.take_add_one, h, List.all_append, a]
  show ([x].all good) = true
  rw [List.all_cons, g]
  rfl
theorem pickL {l : List V} {r : Int} (h0 : 0 ≤ r) (h : r < l.length) : ∃ x ∈ l, atI l r = some x := ⟨_, List.getElem_mem _, atI_in h0 h⟩
theorem pickG {l : List V} {r : Int} (a : l.all good = true) (h0 : 0 ≤ r) (h : r < l.length) : ∃ x, good x = true ∧ atI l r = some x := by
  obtain ⟨x, hx, e⟩ := pickL h0 h
  exact ⟨x, List.all_eq_true.mp a x hx, e⟩
inductive Vk (K : PySem.W.Frag) (B : Hp) (m W k : Nat) : V → Prop
  | lst {p : Addr} {xs : List V} : B p = some (.lst xs) → DW K B m W k xs → Vk K B m W k (.ref p)
  | oth {v : V} {d : PyData} : Dq K B v d → Shq (W + 2) (k + 1) d → NotL K B v → Vk K B m W k v
theorem Vk.rep {K : PySem.W.Frag} {B : Hp} {m W k : Nat} {v : V} (h : Vk K B m W k v) : ∃ d, Dq K B v d ∧ Shq (W + 2) (k + 1) d := by
  cases h with
  | lst h1 h2 => exact h2.lst (Or.inl (Or.inl h1))
  | oth h1 h2 _ => exact ⟨_, h1, h2⟩
theorem Vk.vv {K : PySem.W.Frag} {B : Hp} {m W k : Nat} {v : V} (h : Vk K B m W k v) : ∃ b, ∀ H, Same B H → Vv K H v b := by
  cases h with
  | lst h1 h2 =>
    obtain ⟨ds, q, _⟩ := h2
    exact ⟨_, fun H s => Or.inl ⟨_, _, _, rfl, s.seq (Or.inl (Or.inl h1)), q.mono s, rfl⟩⟩
  | oth h1 h2 h3 => exact ⟨false, fun H s => Or.inr ⟨fun H2 s2 => h3 H2 (s.trans s2), rfl⟩⟩
theorem good_dw {K : PySem.W.Frag} {H : Hp} : ∀ {xs : List V}, (∀ x ∈ xs, good x = true) → DW K H xs.length (9 * xs.length) 1 xs
  | [], _ => DW.nil
  | x :: r, h => by
    have ih := good_dw (K := K) (H := H) (xs := r) fun y hy => h y (List.mem_cons_of_mem _ hy)
    have hx := h x List.mem_cons_self
    have one : DW K H 1 9 1 [x] := by
      cases x with
      | str s =>
        have h3 : ∃ y ∈ res3, eqV y (V.str s) = true := by
          have : inV (V.str s) res3 = true := by simpa [good, isS] using hx
          unfold inV at this
          rwa [List.any_eq_true] at this
        have sh : ∀ y ∈ res3, ∀ t, y = V.str t → Shq 7 1 (PyData.str t) := by
          intro y hy t ht
          have : ∀ y ∈ res3, ∀ t, y = V.str t → ((PyData.str t).showable && decide ((PyData.str t).depth ≤ 1) && decide ((PyData.str t).shown.length ≤ 7)) = true := by
            intro y hy t ht
            simp only [res3, List.mem_cons, List.not_mem_nil, or_false] at hy
            rcases hy with rfl | rfl | rfl <;> (cases ht; decide +kernel)
          have h4 := this y hy t ht
          simp only [Bool.and_eq_true, decide_eq_true_eq] at h4
          exact ⟨h4.1.1, h4.1.2, h4.2⟩
        obtain ⟨y, hy, he⟩ := h3
        cases y with
        | str t =>
          have e : t = s := by simpa [eqV] using he
          subst e
          exact DW.one (.str t) (sh _ hy t rfl)
        | _ => simp [eqV] at he
      | _ => exact absurd hx (by simp [good, isS])
    have := one.app ih
    rw [List.length_cons]
    exact this.up (by omega) (by omega) (Nat.le_refl _)
theorem NotL.tup {K : PySem.W.Frag} {B : Hp} {p : Addr} {xs : List V} (h : B p = some (.tup xs)) : NotL K B (.ref p) := fun H s Q q => x_isR.mpr (IsK.tup (b := false) (s _ _ h) (by decide +kernel) q)
theorem NotL.dK {K : PySem.W.Frag} {B : Hp} {p : Addr} {xs : List (Key × V)} (h : B p = some (.dK xs)) : NotL K B (.ref p) := fun H s Q q => x_isR.mpr (IsK.dK (b := false) (s _ _ h) (by decide +kernel) q)
theorem NotL.str {K : PySem.W.Frag} {B : Hp} {t : Str} : NotL K B (.str t) := fun H s Q q => x_isS_list.mpr q
theorem NotL.int {K : PySem.W.Frag} {B : Hp} {t : Int} : NotL K B (.int t) := fun H s Q q => x_isI_list.mpr q
theorem NotL.non {K : PySem.W.Frag} {B : Hp} : NotL K B .non := fun H s Q q => x_isN_list.mpr q
theorem Led.sinkTail {H : Hp} {u : Addr} {o : HO} : ∀ {l : List (Addr × HO)} {B : Hp}, Led B H ((u, o) :: l) → ∃ B', Same B B' ∧ (∀ e ∈ l, B' e.1 = some e.2) ∧ Led B' H [(u, o)]
  | [], B, L => ⟨B, Same.refl B, fun e he => (List.not_mem_nil he).elim, L⟩
  | (p, o1) :: l, B, L => by
    obtain ⟨B1, s1, h1, L1⟩ := (L.sel (l' := (p, o1) :: (u, o) :: l) (.cons (.tl .hd) (.cons .hd .all))).sink
    obtain ⟨B2, s2, h2, L2⟩ := Led.sinkTail L1
    refine ⟨B2, s1.trans s2, fun e he => ?_, L2⟩
    rcases List.mem_cons.mp he with z | z
    · rw [z]; exact s2 _ _ h1
    · exact h2 e z
theorem Urn.sinkAll {B H : Hp} {u : Addr} {l : List (Addr × HO)} {c : Nat} (U : Urn B H u l c) : ∃ B', Same B B' ∧ (∀ e ∈ l, B' e.1 = some e.2) ∧ Urn B' H u [] c := by
  obtain ⟨x, y, z, L, r⟩ := U
  obtain ⟨B', s, h, L2⟩ := Led.sinkTail L
  exact ⟨B', s, h, x, y, z, L2, r⟩
theorem shq_of {d : PyData} {n k : Nat} (h : (d.showable && decide (d.depth ≤ k) && decide (d.shown.length ≤ n)) = true) : Shq n k d := by
  simp only [Bool.and_eq_true, decide_eq_true_eq] at h
  exact ⟨h.1.1, h.1.2, h.2⟩
def oddL (o1 o2 o3 : Addr) : List V := [.str "stop", .str "right", .str "down", .str "up", .str "", .str "Stop", .str "stop ", .non, .int 0, .bl true, .ref o1, .ref o2, .ref o3, .str "s", .str "rightdown"]
theorem odd_ok {K : PySem.W.Frag} {H : Hp} {o1 o2 o3 : Addr} (h1 : H o1 = some (.lst [.str "stop"])) (h2 : H o2 = some (.tup [.str "stop"])) (h3 : H o3 = some (.dK [])) : ∀ x ∈ oddL o1 o2 o3, ∃ d, Dq K H x d ∧ Shq 40 2 d := by
  have one : DqAll K H [.str "stop"] [.str "stop"] := .cons (.str _) .nil
  have sh : ∀ d ∈ [PyData.str "stop", .str "right", .str "down", .str "up", .str "", .str "Stop", .str "stop ", .none, .int 0, .bool true, .list [.str "stop"], .tuple [.str "stop"], .dict [], .str "s", .str "rightdown"], Shq 40 2 d := by
    intro d hd
    have h := List.all_eq_true.mp (show ([PyData.str "stop", .str "right", .str "down", .str "up", .str "", .str "Stop", .str "stop ", .none, .int 0, .bool true, .list [.str "stop"], .tuple [.str "stop"], .dict [], .str "s", .str "rightdown"].all fun d => d.showable && decide (d.depth ≤ 2) && decide (d.shown.length ≤ 40)) = true by decide +kernel) d hd
    simp only [Bool.and_eq_true, decide_eq_true_eq] at h
    exact ⟨h.1.1, h.1.2, h.2⟩
  have all : DqAll K H (oddL o1 o2 o3) [PyData.str "stop", .str "right", .str "down", .str "up", .str "", .str "Stop", .str "stop ", .none, .int 0, .bool true, .list [.str "stop"], .tuple [.str "stop"], .dict [], .str "s", .str "rightdown"] :=
    .cons (.str _) <| .cons (.str _) <| .cons (.str _) <| .cons (.str _) <| .cons (.str _) <| .cons (.str _) <| .cons (.str _) <| .cons .non <| .cons (.int _) <| .cons (.bl _) <|
      .cons (.lst (Or.inl (Or.inl h1)) one) <| .cons (.tup (Or.inl (Or.inl h2)) one) <| .cons (.dct (ps := []) h3 rfl .nil) <| .cons (.str _) <| .cons (.str _) .nil
  intro x hx
  obtain ⟨i, hi, e⟩ := List.mem_iff_getElem.mp hx
  obtain ⟨d, hd, r⟩ := all.at (i := i) (by rw [List.getElem?_eq_getElem hi, e])
  exact ⟨d, r, sh d (List.mem_of_getElem? hd)⟩
theorem cutV_le (xs : List V) (lo hi : Option Int) : (cutV xs lo hi).length ≤ xs.length := by
  unfold cutV
  rw [List.length_take, List.length_drop]
  omega
section
variable {P : Program} {w : World} {K : PySem.W.Frag} {mg : Str → Option Value} {bs : Heap} {d : Ad}
def sp_law_cup (K : PySem.W.Frag) : Sp := fun vs H Q _ => ∃ (a : Addr) (ns : List Int) (k : Int), vs = [.ref a, .int k] ∧ SqL K H a (ns.map V.int) ∧ 0 ≤ k ∧ k < 1000 ∧ ∀ p H', Urn H H' p [] 0 → Q (.ref p) H'
theorem ok_law_cup (m : Mo K mg d) (sm : SM bs) : Fg P w K mg bs CX0 1 d.a_law_cup d.fd_law_cup ["script", "k"] (sp_law_cup K) := by
  refine ok (n := 0) m.F_law_cup sc_law_cup (fun vs H Q E h => ?_) (fun cdv A fr s H vs Q E hg hr h => ?_)
  · obtain ⟨a, ns, k, rfl, hS, h0, h1, q⟩ := h
    rfl
  · obtain ⟨a, ns, k, rfl, hS, h0, h1, q⟩ := h
    refine ⟨_, (pss_cons (ps_asg pe_int (pg_name (i := 2) sc_law_cup.nd rfl (.inl rfl)))
      (pss_cons (ps_if (pt_cmpR op_lt (pv 1) (pe_callB cr_len (by rfl) m.n_len (by decide +kernel) (pa_cons (pv 0) pa_nil)) (nomark _))
      (pss_one (ps_asg (pe_ix ix_list (pv 0) (pv 1) (fun _ _ => rfl)) (pg_name (i := 2) sc_law_cup.nd rfl (.inl rfl))))
      pss_nil)
      (pss_one (ps_ret (pe_lst (pa_cons (pe_callB (cr_max2 rfl) (by rfl) m.n_max (by decide +kernel) (pa_cons pe_int (pa_cons (pe_op op_sub (pv 2) (pe_op op_pow pe_int pe_int)) pa_nil))) (pa_cons (pe_op op_add (pe_op op_add (pe_op op_mod (pv 2) (pe_op op_add (pe_op op_pow pe_int pe_int) pe_int)) (pe_op op_mul pe_int (pv 1))) pe_int) (pa_cons pe_int pa_nil)))))))), ?_⟩
    walk_at "vc"
    refine LenK.ofL hS ?_
    walk_at "vc"
    split
    · obtain ⟨n, _, hn⟩ := atI_map h0 ‹_›
      refine IxLK.of hS hn ?_
      walk_at "vc"
      walk_at "sds"
      exact NewK.of (Led.nil H) fun p H1 L => q p H1 ⟨_, _, _, L, by omega, by omega, by omega, by omega, by omega⟩
    · walk_at "sds"
      exact NewK.of (Led.nil H) fun p H1 L => q p H1 ⟨_, _, _, L, by omega, by omega, by omega, by omega, by omega⟩
def sp_law_sip (K : PySem.W.Frag) : Sp := fun vs H Q _ => ∃ (B : Hp) (u : Addr) (l : List (Addr × HO)) (c : Nat) (n : Int), vs = [.ref u, .int n] ∧ Urn B H u l c ∧ c < 1000000 ∧ 0 < n ∧ n < 1073741824 ∧
  ∀ H' r, Urn B H' u l (c + 1) → 0 ≤ r → r < n → Q (.int r) H'
theorem sip_go {K : PySem.W.Frag} {B H : Hp} {u : Addr} {l : List (Addr × HO)} {c : Nat} {n : Int} {Q : VK} {E : XK} (U : Urn B H u l c) (hc : c < 1000000) (h0 : 0 < n) (h1 : n < 1073741824) (k : ∀ H' r, Urn B H' u l (c + 1) → 0 ≤ r → r < n → Q (.int r) H') : sp_law_sip K [.ref u, .int n] H Q E :=
  ⟨B, u, l, c, n, rfl, U, hc, h0, h1, k⟩
theorem ok_law_sip (m : Mo K mg d) (sm : SM bs) : Fg P w K mg bs CX0 1 d.a_law_sip d.fd_law_sip ["cup", "many"] (sp_law_sip K) := by
  refine ok (n := 0) m.F_law_sip sc_law_sip (fun vs H Q E h => ?_) (fun cdv A fr s H vs Q E hg hr h => ?_)
  · obtain ⟨B, u, l, c, n, rfl, ⟨x, y, z, L, hx, hy, hy2, hz, hz2⟩, hc, hn, hn2, q⟩ := h
    rfl
  · obtain ⟨B, u, l, c, n, rfl, ⟨x, y, z, L, hx, hy, hy2, hz, hz2⟩, hc, hn, hn2, q⟩ := h
    refine ⟨_, (pss_cons (ps_if (pt_cmpR op_gt (pe_ix ix_list (pv 0) pe_int (fun _ _ => rfl)) pe_int (nomark _))
      (pss_cons (ps_asg (pe_op op_mod (pe_ix ix_list (pv 0) pe_int (fun _ _ => rfl)) (pv 1)) (pg_name (i := 2) sc_law_sip.nd rfl (.inl rfl)))
      (pss_cons (ps_asg (pe_op op_fdiv (pe_ix ix_list (pv 0) pe_int (fun _ _ => rfl)) (pv 1)) (pg_sub (pv 0) pe_int set_list))
      (pss_one (ps_ret (pv 2)))))
      pss_nil)
      (pss_cons (ps_asg (pe_op op_add (pe_ix ix_list (pv 0) pe_int (fun _ _ => rfl)) pe_int) (pg_sub (pv 0) pe_int set_list))
      (pss_cons (ps_asg (pe_op op_mod (pe_op op_powW (pe_op op_add (pe_ix ix_list (pv 0) pe_int (fun _ _ => rfl)) (pe_op op_mul pe_int (pe_ix ix_list (pv 0) pe_int (fun _ _ => rfl)))) pe_int) (pe_op op_add (pe_op op_pow pe_int pe_int) pe_int)) (pg_name (i := 3) sc_law_sip.nd rfl (.inl rfl)))
      (pss_cons (ps_asg (pe_op op_mod (pe_op op_powW (pe_op op_add (pv 3) (pe_op op_mul pe_int (pe_ix ix_list (pv 0) pe_int (fun _ _ => rfl)))) pe_int) (pe_op op_add (pe_op op_pow pe_int pe_int) pe_int)) (pg_name (i := 3) sc_law_sip.nd rfl (.inl rfl)))
      (pss_one (ps_ret (pe_op op_mod (pe_op op_fdiv (pv 3) pe_int) (pv 1)))))))), ?_⟩
    walk_at "vc"
    refine IxLK.of (L.lstAt (by walk_at "mem")) rfl ?_
    walk_at "vc"
    split
    · refine IxLK.of (L.lstAt (by walk_at "mem")) rfl ?_
      walk_at "vc"
      refine ⟨hn, IxLK.of (L.lstAt (by walk_at "mem")) rfl ?_⟩
      walk_at "vc"
      refine ⟨by first | exact ⟨hn, hn2⟩ | exact div_w (n := 200) (by decide) hn (by omega) (by decide), SetK.of (j := 0) L (by walk_at "mem") rfl (by walk_at "put") fun H1 L1 => ?_⟩
      exact q _ _ ⟨_, _, _, L1, Int.ediv_nonneg hx (by omega), hy, hy2, hz, by omega⟩ (Int.emod_nonneg _ (by omega)) (Int.emod_lt_of_pos _ hn)
    · refine IxLK.of (L.lstAt (by walk_at "mem")) rfl ?_
      walk_at "vc"
      refine SetK.of (j := 2) L (by walk_at "mem") rfl (by walk_at "put") fun H1 L1 => ?_
      refine IxLK.of (L1.lstAt (by walk_at "mem")) rfl ?_
      refine IxLK.of (L1.lstAt (by walk_at "mem")) rfl ?_
      walk_at "vc"
      walk_at "sds"
      refine ⟨(pow_bits (n := 151) (m := 3) (by decide) (by omega) (by omega) (by decide)).2, ?_⟩
      have w0 := Int.emod_nonneg ((y + 49979693 * (z + 1)) ^ 3) (show (100000000000000000000000000000000000000109 : Int) ≠ 0 by decide)
      have w1 := Int.emod_lt_of_pos ((y + 49979693 * (z + 1)) ^ 3) (show (0 : Int) < 100000000000000000000000000000000000000109 by decide)
      generalize (y + 49979693 * (z + 1)) ^ 3 % 100000000000000000000000000000000000000109 = a at *
      walk_at "sds"
      refine IxLK.of (L1.lstAt (by walk_at "mem")) rfl ?_
      walk_at "vc"
      walk_at "sds"
      refine ⟨(pow_bits (n := 151) (m := 3) (by decide) (by omega) (by omega) (by decide)).2, ?_⟩
      walk_at "sds"
      exact q _ _ ⟨_, _, _, L1, hx, hy, hy2, by omega, by omega⟩ (Int.emod_nonneg _ (by omega)) (Int.emod_lt_of_pos _ hn)
def sp_law_results (K : PySem.W.Frag) : Sp := fun vs H Q _ => ∃ (B : Hp) (u : Addr) (c n : Nat), vs = [.ref u, .int (n : Int)] ∧ Urn B H u [] c ∧ c < 900000 ∧ n ≤ 2000 ∧
  ∀ f xs H', xs.length = n → (∀ x ∈ xs, good x = true) → Urn B H' u [(f, .lst xs)] (c + 2 * n + 5) → Q (.ref f) H'
theorem ok_law_results (m : Mo K mg d) (sm : SM bs) (G_law_sip : Fg P w K mg bs CX0 1 d.a_law_sip d.fd_law_sip ["cup", "many"] (sp_law_sip K)) : Fg P w K mg bs CX0 2 d.a_law_results d.fd_law_results ["cup", "many"] (sp_law_results K) := by
  refine ok (n := 1) m.F_law_results sc_law_results (fun vs H Q E h => ?_) (fun cdv A fr s H vs Q E hg hr h => ?_)
  · obtain ⟨B, u, c, n, rfl, U, hc, hn, q⟩ := h
    rfl
  · obtain ⟨B, u, c, n, rfl, U, hc, hn, q⟩ := h
    refine ⟨_, (pss_cons (ps_par (i := 2) (j := 3) (by rfl) sc_law_results.nd rfl rfl (by decide) rfl rfl (pa_cons (pg_call G_law_sip hg (hr.mono (by decide)) (by rfl) m.g_law_sip m.F_law_sip.kp m.b_law_sip .nil (fun _ => passG) (pa_cons (pv 0) (pa_cons pe_int pa_nil))) (pa_cons (pe_lst pa_nil) pa_nil)) (by rfl))
      (pss_cons (ps_for PassesOwn.never rfl (pi_range1 (by rfl) m.n_range (pa_cons (pv 1) pa_nil)) (pg_name (i := 4) sc_law_results.nd rfl (.inl rfl))
      (pss_cons (ps_asg (pe_ix ix_list (pe_lst (pa_cons pe_str (pa_cons pe_str (pa_cons pe_str pa_nil)))) (pg_call G_law_sip hg (hr.mono (by decide)) (by rfl) m.g_law_sip m.F_law_sip.kp m.b_law_sip .nil (fun _ => passG) (pa_cons (pv 0) (pa_cons pe_int pa_nil))) (fun _ _ => rfl)) (pg_name (i := 5) sc_law_results.nd rfl (.inl rfl)))
      (pss_cons (ps_asg (pe_ix ix_list (pe_lst (pa_cons pe_str (pa_cons pe_str pa_nil))) (pg_call G_law_sip hg (hr.mono (by decide)) (by rfl) m.g_law_sip m.F_law_sip.kp m.b_law_sip .nil (fun _ => passG) (pa_cons (pv 0) (pa_cons pe_int pa_nil))) (fun _ _ => rfl)) (pg_name (i := 6) sc_law_results.nd rfl (.inl rfl)))
      (pss_one (ps_expr (pe_bm PySem.F.plainAttrs_list PySem.F.slot_list_append PySem.F.type_list_append mt_append (pv 3) (pa_cons (pe_ix ix_list (pe_lst (pa_cons (pv 5) (pa_cons (pv 6) (pa_cons pe_str (pa_cons pe_str pa_nil))))) (pv 2) (fun _ _ => rfl)) pa_nil)))))))
      (pss_cons (ps_if (PW.pt (pw_and (pt_cmpR op_gt (pv 1) pe_int (nomark _)) (pw_and (pt_cmpR op_gt (pv 2) pe_int (nomark _)) (pw_and1 (pt_cmpR op_eq (pg_call G_law_sip hg (hr.mono (by decide)) (by rfl) m.g_law_sip m.F_law_sip.kp m.b_law_sip .nil (fun _ => passG) (pa_cons (pv 0) (pa_cons pe_int pa_nil))) pe_int (nomark _))))))
      (pss_one (ps_asg (pe_ix ix_list (pe_lst (pa_cons pe_str (pa_cons pe_str (pa_cons pe_str pa_nil)))) (pg_call G_law_sip hg (hr.mono (by decide)) (by rfl) m.g_law_sip m.F_law_sip.kp m.b_law_sip .nil (fun _ => passG) (pa_cons (pv 0) (pa_cons pe_int pa_nil))) (fun _ _ => rfl)) (pg_sub (pv 3) (pg_call G_law_sip hg (hr.mono (by decide)) (by rfl) m.g_law_sip m.F_law_sip.kp m.b_law_sip .nil (fun _ => passG) (pa_cons (pv 0) (pa_cons (pv 1) pa_nil))) set_list)))
      pss_nil)
      (pss_one (ps_ret (pv 3)))))), ?_⟩
    walk_at "vc"
    refine sip_go U (by omega) (by omega) (by omega) fun H1 st U s1 s2 => ?_
    walk_at "vc"
    refine U.new fun f H2 U => ?_
    walk_at "vc"
    refine ⟨by omega, by omega, ?_⟩
    refine loop_range (fun i σ H' => ∃ xs y4 y5 y6, σ = [some (.ref u), some (.int n), some (.int st), some (.ref f), y4, y5, y6] ∧ xs.length = i ∧ (∀ x ∈ xs, good x = true) ∧ Urn B H' u [(f, .lst xs)] (c + 1 + 2 * i)) ⟨[], _, _, _, rfl, rfl, fun x hx => (List.not_mem_nil hx).elim, U.up (by omega)⟩ (fun i σ H3 N hi h hN => ?_) (fun σ H3 h => ?_)
    · obtain ⟨xs, y4, y5, y6, rfl, hl, hg, U⟩ := h
      have hi : i < n := by omega
      walk_at "vc"
      refine U.new fun p1 H4 U => ?_
      refine sip_go U (by omega) (by omega) (by omega) fun H5 r1 U a1 b1 => ?_
      obtain ⟨x1, g1, e1⟩ := pickG (l := [.str "stop", .str "right", .str "down"]) (by decide +kernel) a1 (by simpa using b1)
      walk_at "vc"
      refine IxLK.of (U.led.lstAt (by walk_at "mem")) e1 ?_
      refine U.new fun p2 H6 U => ?_
      refine sip_go U (by omega) (by omega) (by omega) fun H7 r2 U a2 b2 => ?_
      obtain ⟨x2, g2, e2⟩ := pickG (l := [.str "right", .str "down"]) (by decide +kernel) a2 (by simpa using b2)
      walk_at "vc"
      refine IxLK.of (U.led.lstAt (by walk_at "mem")) e2 ?_
      refine ⟨tyL (U.led.lstAt (by walk_at "mem")), ?_⟩
      refine U.new fun p3 H8 U => ?_
      have hall : [x1, x2, .str "right", .str "down"].all good = true := by
        rw [List.all_cons, List.all_cons, g1, g2]
        decide +kernel
      obtain ⟨x3, g3, e3⟩ := pickG hall s1 (by simpa using s2)
      walk_at "vc"
      refine IxLK.of (U.led.lstAt (by walk_at "mem")) e3 ?_
      refine U.appK (by walk_at "mem") (Nat.lt_of_lt_of_le (m := 3000) (by omega) (by decide)) (by walk_at "put") fun H9 U => ?_
      refine hN _ _ ⟨_, _, _, _, rfl, ?_, ?_, (U.sel (by walk_at "sel")).up (by omega)⟩
      · rw [List.length_append, hl]; rfl
      · intro x hx
        rcases List.mem_append.mp hx with z | z
        · exact hg x z
        · rw [List.mem_singleton.mp z]; exact g3
    · obtain ⟨xs, y4, y5, y6, rfl, hl, hg, U⟩ := h
      have hl : xs.length = n := by omega
      walk_at "vc"
      split
      · split
        · refine sip_go U (by omega) (by omega) (by omega) fun H4 r0 U a0 b0 => ?_
          walk_at "vc"
          split
          · refine U.new fun p1 H5 U => ?_
            refine sip_go U (by omega) (by omega) (by omega) fun H6 r1 U a1 b1 => ?_
            obtain ⟨x1, g1, e1⟩ := pickG (l := [.str "stop", .str "right", .str "down"]) (by decide +kernel) a1 (by simpa using b1)
            walk_at "vc"
            refine IxLK.of (U.led.lstAt (by walk_at "mem")) e1 ?_
            refine sip_go U (by omega) (by omega) (by omega) fun H7 r2 U a2 b2 => ?_
            walk_at "vc"
            refine U.setK (j := r2.toNat) (by walk_at "mem") (by unfold ixN; rw [if_pos a2, if_pos (by omega)]) (by walk_at "put") fun H8 U => ?_
            refine q _ _ _ ?_ ?_ ((U.sel (by walk_at "sel")).up (by omega))
            · rw [List.length_set]; exact hl
            · intro x hx
              rcases List.mem_or_eq_of_mem_set hx with z | z
              · exact hg x z
              · rw [z]; exact g1
          · exact q _ _ _ hl hg ((U.sel (by walk_at "sel")).up (by omega))
        · exact q _ _ _ hl hg ((U.sel (by walk_at "sel")).up (by omega))
      · exact q _ _ _ hl hg ((U.sel (by walk_at "sel")).up (by omega))
def sp_is_outcome (K : PySem.W.Frag) : Sp := fun vs H Q _ => ∃ v b, vs = [v] ∧ Vv K H v b ∧ ∀ H', Same H H' → Q (.bl b) H'
theorem ok_is_outcome (m : Mo K mg d) (sm : SM bs) : Fg P w K mg bs CX0 1 d.a_is_outcome d.fd_is_outcome ["value"] (sp_is_outcome K) := by
  obtain ⟨t_RESULTS, h_RESULTS, q_RESULTS⟩ := m.mg_RESULTS
  refine ok (n := 0) m.F_is_outcome sc_is_outcome (fun vs H Q E h => ?_) (fun cdv A fr s H vs Q E hg hr h => ?_)
  · obtain ⟨v, b, rfl, hv, q⟩ := h
    rfl
  · obtain ⟨v, b, rfl, hv, q⟩ := h
    refine ⟨_, (pss_cons (ps_if (pt_not (pt_val (pe_callB cr_is (by rfl) m.n_isinstance (by decide +kernel) (pa_cons (pv 0) (pa_cons (pe_bltn (v := .ty "list") (by rfl) m.n_list (by decide +kernel) rfl) pa_nil)))))
      (pss_one (ps_ret pe_bl))
      pss_nil)
      (pss_cons (ps_for PassesOwn.never rfl (pi_list (pv 0)) (pg_name (i := 1) sc_is_outcome.nd rfl (.inl rfl))
      (pss_one (ps_if (PW.pt (pw_or (pt_not (pt_val (pe_callB cr_is (by rfl) m.n_isinstance (by decide +kernel) (pa_cons (pv 1) (pa_cons (pe_bltn (v := .ty "str") (by rfl) m.n_str (by decide +kernel) rfl) pa_nil))))) (pw_or1 (pt_cmpR op_notIn_seq (pv 1) (pe_glob (v := .ref t_RESULTS) rfl h_RESULTS rfl) rfl))))
      (pss_one (ps_ret pe_bl))
      pss_nil)))
      (pss_cons (ps_if (pt_cmpR op_gt (pe_bm PySem.F.plainAttrs_list PySem.F.slot_list_count PySem.F.type_list_count mt_count (pv 0) (pa_cons pe_str pa_nil)) pe_int (nomark _))
      (pss_one (ps_ret pe_bl))
      pss_nil)
      (pss_one (ps_ret (pe_and (pe_cmpR op_lt (pe_bm PySem.F.plainAttrs_list PySem.F.slot_list_count PySem.F.type_list_count mt_count (pv 0) (pa_cons pe_str pa_nil)) (pe_callB cr_len (by rfl) m.n_len (by decide +kernel) (pa_cons (pv 0) pa_nil)) (nomark _)) (pe_one (pe_cmpR op_lt (pe_bm PySem.F.plainAttrs_list PySem.F.slot_list_count PySem.F.type_list_count mt_count (pv 0) (pa_cons pe_str pa_nil)) (pe_callB cr_len (by rfl) m.n_len (by decide +kernel) (pa_cons (pv 0) pa_nil)) (nomark _))))))))), ?_⟩
    walk_at "vc"
    rcases hv with ⟨p, xs, ds, rfl, hS, hD, rfl⟩ | ⟨hn, rfl⟩
    · walk_at "vc"
      refine IsK.lstL (b := true) hS (by decide +kernel) ?_
      walk_at "vc"
      refine ⟨⟨xs, hS⟩, ?_⟩
      refine loop_list (xs := xs) (fun i σ H' => H' = H ∧ (∃ y, σ = [some (.ref p), y]) ∧ (xs.take i).all good = true) ⟨rfl, ⟨_, rfl⟩, rfl⟩ (fun i σ H' _ h => by rw [h.1]; exact hS) (fun i x σ H' N hx h hN => ?_) (fun σ H' h => ?_)
      · obtain ⟨rfl, ⟨y, rfl⟩, hg⟩ := h
        obtain ⟨dx, _, hd⟩ := hD.at hx
        walk_at "vc"
        refine hd.isStr ?_
        walk_at "vc"
        cases x with
        | str s =>
          walk_at "vc"
          rw [show isS (V.str s) = true from rfl]
          walk_at "vc"
          refine ⟨res3, Or.inr (q_RESULTS _), rfl, rfl, ?_⟩
          walk_at "vc"
          cases hg2 : inV (V.str s) res3 with
          | true =>
            walk_at "vc"
            exact hN _ _ ⟨rfl, ⟨_, rfl⟩, all_step hx hg (by unfold good; rw [hg2]; rfl)⟩
          | false =>
            walk_at "vc"
            have := q _ (Same.refl _)
            rw [out_bad hx (by unfold good; rw [hg2]; rfl)] at this
            exact this
        | _ =>
          have := q _ (Same.refl _)
          rw [out_bad hx (by rfl)] at this
          exact this
      · obtain ⟨rfl, ⟨y, rfl⟩, hg⟩ := h
        rw [List.take_of_length_le (Nat.le_refl _)] at hg
        walk_at "vc"
        refine ⟨tyL hS, xs, hS, rfl, good_flat hg, ?_⟩
        walk_at "vc"
        have hq := q _ (Same.refl _)
        unfold outB at hq
        rw [hg, Bool.true_and] at hq
        split
        · rename_i c
          rw [decide_eq_false (by unfold cnt; omega), Bool.false_and] at hq
          exact hq
        · rename_i c
          rw [decide_eq_true (by unfold cnt; omega), Bool.true_and] at hq
          refine ⟨tyL hS, xs, hS, rfl, good_flat hg, ?_⟩
          walk_at "vc"
          refine LenK.ofL hS ?_
          walk_at "vc"
          split
          · rename_i c2
            rw [decide_eq_true (by unfold cnt; omega), Bool.true_and] at hq
            refine ⟨tyL hS, xs, hS, rfl, good_flat hg, LenK.ofL hS ?_⟩
            have e : (decide ((List.countP (fun z => eqV z (V.str (Str.ofString "down"))) xs : Int) < (xs.length : Int))) = decide (cnt xs "down" < xs.length) := by
              unfold cnt
              simp only [Int.ofNat_lt]
            rw [e]
            exact hq
          · rename_i c2
            rw [decide_eq_false (by unfold cnt; omega), Bool.false_and] at hq
            exact hq
    · walk_at "vc"
      refine hn H (Same.refl H) _ ?_
      walk_at "vc"
      exact q _ (Same.refl H)
def sp_law_bent (K : PySem.W.Frag) : Sp := fun vs H Q _ => ∃ (B : Hp) (u f : Addr) (xs : List V) (c M W k : Nat), vs = [.ref u, .ref f] ∧ Urn B H u [] c ∧ c < 900000 ∧ B f = some (.lst xs) ∧ DW K B M W k xs ∧ M ≤ 10000 ∧ 2 ≤ k ∧
  ∀ B' v H', Same B B' → Urn B' H' u [] (c + 4) → Vk K B' (2 * M + 20) (2 * W + 60) (k + 1) v → Q v H'
theorem ok_law_bent (m : Mo K mg d) (sm : SM bs) (G_law_sip : Fg P w K mg bs CX0 1 d.a_law_sip d.fd_law_sip ["cup", "many"] (sp_law_sip K)) : Fg P w K mg bs CX0 2 d.a_law_bent d.fd_law_bent ["cup", "found"] (sp_law_bent K) := by
  refine ok (n := 1) m.F_law_bent sc_law_bent (fun vs H Q E h => ?_) (fun cdv A fr s H vs Q E hg hr h => ?_)
  · obtain ⟨B, u, f, xs, c, M, W, k, rfl, U, hc, hf, hD, hM, hk, q⟩ := h
    rfl
  · obtain ⟨B, u, f, xs, c, M, W, k, rfl, U, hc, hf, hD, hM, hk, q⟩ := h
    refine ⟨_, (pss_cons (ps_asg (pg_call G_law_sip hg (hr.mono (by decide)) (by rfl) m.g_law_sip m.F_law_sip.kp m.b_law_sip .nil (fun _ => passG) (pa_cons (pv 0) (pa_cons (pe_op op_add (pe_callB cr_len (by rfl) m.n_len (by decide +kernel) (pa_cons (pv 1) pa_nil)) pe_int) pa_nil))) (pg_name (i := 2) sc_law_bent.nd rfl (.inl rfl)))
      (pss_cons (ps_asg (pe_lst (pa_cons pe_str (pa_cons pe_str (pa_cons pe_str (pa_cons pe_str (pa_cons pe_str (pa_cons pe_str (pa_cons pe_str (pa_cons pe_non (pa_cons pe_int (pa_cons pe_bl (pa_cons (pe_lst (pa_cons pe_str pa_nil)) (pa_cons (pe_tup (pa_cons pe_str pa_nil)) (pa_cons pe_dnewK (pa_cons pe_str (pa_cons pe_str pa_nil)))))))))))))))) (pg_name (i := 3) sc_law_bent.nd rfl (.inl rfl)))
      (pss_cons (ps_asg (pe_ix ix_list (pv 3) (pg_call G_law_sip hg (hr.mono (by decide)) (by rfl) m.g_law_sip m.F_law_sip.kp m.b_law_sip .nil (fun _ => passG) (pa_cons (pv 0) (pa_cons pe_int pa_nil))) (fun _ _ => rfl)) (pg_name (i := 4) sc_law_bent.nd rfl (.inl rfl)))
      (pss_cons (ps_asg (pe_lst (pa_cons (pe_op op_cat (pe_op op_cat (pe_slice sl_list (pv 1) po_none (po_some (pv 2))) (pe_lst (pa_cons (pv 4) pa_nil))) (pe_slice sl_list (pv 1) (po_some (pv 2)) po_none)) (pa_cons (pe_op op_cat (pe_op op_cat (pe_slice sl_list (pv 1) po_none (po_some (pv 2))) (pe_lst (pa_cons (pv 4) pa_nil))) (pe_slice sl_list (pv 1) (po_some (pe_op op_add (pv 2) pe_int)) po_none)) (pa_cons (pe_op op_cat (pe_slice sl_list (pv 1) po_none (po_some (pv 2))) (pe_slice sl_list (pv 1) (po_some (pe_op op_add (pv 2) pe_int)) po_none)) pa_nil)))) (pg_name (i := 5) sc_law_bent.nd rfl (.inl rfl)))
      (pss_cons (ps_asg (pe_op op_cat (pv 5) (pe_lst (pa_cons (pe_op op_cat (pv 1) (pv 1)) (pa_cons (pe_callTy cr_tupL (by rfl) m.n_tuple (by decide +kernel) (pa_cons (pv 1) pa_nil)) (pa_cons (pe_revL (pv 1)) (pa_cons pe_str (pa_cons (pe_lst (pa_cons (pv 1) pa_nil)) (pa_cons pe_non (pa_cons pe_dnewK (pa_cons pe_int (pa_cons (pe_lst pa_nil) (pa_cons (pe_d1 pe_str pe_int) (pa_cons (pe_lst (pa_cons pe_str pa_nil)) pa_nil))))))))))))) (pg_name (i := 5) sc_law_bent.nd rfl (.inl rfl)))
      (pss_one (ps_ret (pe_ix ix_list (pv 5) (pe_ix ix_list (pe_lst (pa_cons pe_int (pa_cons pe_int (pa_cons pe_int (pa_cons (pg_call G_law_sip hg (hr.mono (by decide)) (by rfl) m.g_law_sip m.F_law_sip.kp m.b_law_sip .nil (fun _ => passG) (pa_cons (pv 0) (pa_cons pe_int pa_nil))) pa_nil))))) (pg_call G_law_sip hg (hr.mono (by decide)) (by rfl) m.g_law_sip m.F_law_sip.kp m.b_law_sip .nil (fun _ => passG) (pa_cons (pv 0) (pa_cons pe_int pa_nil))) (fun _ _ => rfl)) (fun _ _ => rfl))))))))), ?_⟩
    walk_at "vc"
    have hS : SqL K B f xs := Or.inl (Or.inl hf)
    have hlen : xs.length ≤ M := by obtain ⟨_, _, _, _, h⟩ := hD; exact h
    have big : ∀ n : Nat, n ≤ 60000 → n ≤ sizeLine := fun n hn => Nat.le_trans hn (by decide)
    refine LenK.ofL (U.led.seq hS) ?_
    refine sip_go U (by omega) (by omega) (by omega) fun H1 at1 U s1 s2 => ?_
    walk_at "vc"
    refine U.new fun o1 H2 U => ?_
    refine U.new fun o2 H2 U => ?_
    refine U.new fun o3 H2 U => ?_
    refine U.new fun o4 H2 U => ?_
    refine sip_go U (by omega) (by omega) (by omega) fun H3 r1 U a1 b1 => ?_
    obtain ⟨one, hone, e1⟩ := pickL (l := oddL o1 o2 o3) a1 (by simpa [oddL] using b1)
    walk_at "vc"
    refine IxLK.of (U.led.lstAt (by walk_at "mem")) e1 ?_
    have hlA := cutV_le xs none (some at1)
    have hlB := cutV_le xs (some at1) none
    have hlC := cutV_le xs (some (at1 + 1)) none
    have dA := hD.cut (lo := none) (hi := some at1)
    have dB := hD.cut (lo := some at1) (hi := none)
    have dC := hD.cut (lo := some (at1 + 1)) (hi := none)
    have U := U.sel (l' := [(o1, HO.lst [.str "stop"]), (o2, HO.tup [.str "stop"]), (o3, HO.dK [])]) (by walk_at "sel")
    refine ⟨xs, U.led.seq hS, U.new fun p1 H U => ?_⟩
    refine U.new fun p2 H U => ?_
    refine U.catK (by walk_at "mem") (by walk_at "mem") (big _ (by simp only [List.length_append, List.length_cons, List.length_nil]; omega)) fun p3 H U => ?_
    refine ⟨xs, U.led.seq hS, U.new fun p4 H U => ?_⟩
    refine U.catK (by walk_at "mem") (by walk_at "mem") (big _ (by simp only [List.length_append, List.length_cons, List.length_nil]; omega)) fun q1 H U => ?_
    refine ⟨xs, U.led.seq hS, U.new fun p5 H U => ?_⟩
    refine U.new fun p6 H U => ?_
    refine U.catK (by walk_at "mem") (by walk_at "mem") (big _ (by simp only [List.length_append, List.length_cons, List.length_nil]; omega)) fun p7 H U => ?_
    refine ⟨xs, U.led.seq hS, U.new fun p8 H U => ?_⟩
    refine U.catK (by walk_at "mem") (by walk_at "mem") (big _ (by simp only [List.length_append, List.length_cons, List.length_nil]; omega)) fun q2 H U => ?_
    refine ⟨xs, U.led.seq hS, U.new fun p9 H U => ?_⟩
    refine ⟨xs, U.led.seq hS, U.new fun p10 H U => ?_⟩
    refine U.catK (by walk_at "mem") (by walk_at "mem") (big _ (by omega)) fun q3 H U => ?_
    refine U.new fun p11 H U => ?_
    refine ⟨xs, xs, U.led.sm _ _ hf, U.led.sm _ _ hf, big _ (by omega), U.new fun q4 H U => ?_⟩
    refine ⟨xs, U.led.seq hS, U.new fun q5 H U => ?_⟩
    refine ⟨xs, U.led.seq hS, U.new fun q6 H U => ?_⟩
    refine U.new fun q7 H U => ?_
    refine U.new fun q8 H U => ?_
    refine U.new fun q9 H U => ?_
    refine U.new fun q10 H U => ?_
    refine U.new fun q11 H U => ?_
    refine U.new fun p12 H U => ?_
    refine U.catK (by walk_at "mem") (by walk_at "mem") (big _ (by show 14 ≤ 60000; decide)) fun p13 H U => ?_
    walk_at "vc"
    refine sip_go U (by omega) (by omega) (by omega) fun H r2 U a2 b2 => ?_
    walk_at "vc"
    refine U.new fun p14 H U => ?_
    refine sip_go U (by omega) (by omega) (by omega) fun H r3 U a3 b3 => ?_
    obtain ⟨j, hj, e3⟩ := atI_map (ns := [0, 1, 2, r2]) a3 (by simpa using b3)
    have j0 : 0 ≤ j ∧ j < 14 := by
      simp only [List.mem_cons, List.not_mem_nil, or_false] at hj
      omega
    walk_at "vc"
    refine IxLK.of (U.led.lstAt (by walk_at "mem")) e3 ?_
    walk_at "vc"
    obtain ⟨v, hv, ev⟩ := pickL (l := [.ref q1, .ref q2, .ref q3, .ref q4, .ref q5, .ref q6, .str "stop", .ref q7, .non, .ref q8, .int 0, .ref q9, .ref q10, .ref q11]) j0.1 (by simpa using j0.2)
    refine IxLK.of (U.led.lstAt (by walk_at "mem")) ev ?_
    obtain ⟨B', sB, hB, U⟩ := U.sinkAll
    refine q B' v _ sB (U.up (by omega)) ?_
    obtain ⟨dx, hdx, wdx⟩ := odd_ok (K := K) (hB (o1, _) (by walk_at "mem")) (hB (o2, _) (by walk_at "mem")) (hB (o3, _) (by walk_at "mem")) one hone
    have d1 := DW.one hdx (wdx.up (Nat.le_refl _) hk)
    have dA := dA.mono sB
    have dB := dB.mono sB
    have dC := dC.mono sB
    have hD := hD.mono sB
    simp only [List.mem_cons, List.not_mem_nil, or_false] at hv
    rcases hv with rfl | rfl | rfl | rfl | rfl | rfl | rfl | rfl | rfl | rfl | rfl | rfl | rfl | rfl
    · exact .lst (hB (q1, _) (by walk_at "mem")) (((dA.app d1).app dB).up (by omega) (by omega) (by omega))
    · exact .lst (hB (q2, _) (by walk_at "mem")) (((dA.app d1).app dC).up (by omega) (by omega) (by omega))
    · exact .lst (hB (q3, _) (by walk_at "mem")) ((dA.app dC).up (by omega) (by omega) (by omega))
    · exact .lst (hB (q4, _) (by walk_at "mem")) ((hD.app hD).up (by omega) (by omega) (by omega))
    · obtain ⟨d5, h5, w5⟩ := hD.tup (p := q5) (Or.inl (Or.inl (hB (q5, _) (by walk_at "mem"))))
      exact .oth h5 (w5.up (by omega) (by omega)) (.tup (hB (q5, _) (by walk_at "mem")))
    · exact .lst (hB (q6, _) (by walk_at "mem")) (hD.rev.up (by omega) (by omega) (by omega))
    · exact .oth (.str _) ((shq_of (n := 40) (k := 2) (by decide +kernel)).up (by omega) (by omega)) .str
    · obtain ⟨d7, h7, w7⟩ := hD.lst (p := f) (Or.inl (Or.inl (sB _ _ hf)))
      exact .lst (hB (q7, _) (by walk_at "mem")) ((DW.one h7 w7).up (by omega) (by omega) (by omega))
    · exact .oth .non ((shq_of (n := 40) (k := 2) (by decide +kernel)).up (by omega) (by omega)) .non
    · exact .oth (.dct (ps := []) (hB (q8, _) (by walk_at "mem")) rfl .nil) ((shq_of (n := 40) (k := 2) (by decide +kernel)).up (by omega) (by omega)) (.dK (hB (q8, _) (by walk_at "mem")))
    · exact .oth (.int _) ((shq_of (n := 40) (k := 2) (by decide +kernel)).up (by omega) (by omega)) .int
    · exact .lst (hB (q9, _) (by walk_at "mem")) (DW.nil.up (by omega) (by omega) (Nat.le_refl _))
    · exact .oth (.dct (ps := [(.str "stop", .int 0)]) (hB (q10, _) (by walk_at "mem")) rfl (.cons (.int 0) .nil)) ((shq_of (n := 40) (k := 2) (by decide +kernel)).up (by omega) (by omega)) (.dK (hB (q10, _) (by walk_at "mem")))
    · exact .lst (hB (q11, _) (by walk_at "mem")) ((DW.one (.str _) ((shq_of (n := 40) (k := 2) (by decide +kernel)).up (m := 40) (j := k + 1) (by omega) (by omega))).up (by omega) (by omega) (Nat.le_refl _))
def sp_law_due (K : PySem.W.Frag) : Sp := fun vs H Q _ => ∃ v b, vs = [v] ∧ Vv K H v b ∧ ∀ H', Same H H' → Q (.bl b) H'
theorem ok_law_due (m : Mo K mg d) (sm : SM bs) : Fg P w K mg bs CX0 1 d.a_law_due d.fd_law_due ["value"] (sp_law_due K) := by
  refine ok (n := 0) m.F_law_due sc_law_due (fun vs H Q E h => ?_) (fun cdv A fr s H vs Q E hg hr h => ?_)
  · obtain ⟨v, b, rfl, hv, q⟩ := h
    rfl
  · obtain ⟨v, b, rfl, hv, q⟩ := h
    refine ⟨_, (pss_cons (ps_if (PW.pt (pw_or (pt_not (pt_val (pe_callB cr_is (by rfl) m.n_isinstance (by decide +kernel) (pa_cons (pv 0) (pa_cons (pe_bltn (v := .ty "list") (by rfl) m.n_list (by decide +kernel) rfl) pa_nil))))) (pw_or1 (pt_cmpR (op_eqL hr.units) (pv 0) (pe_lst pa_nil) (nomark _)))))
      (pss_one (ps_ret pe_bl))
      pss_nil)
      (pss_cons (ps_for PassesOwn.never rfl (pi_list (pv 0)) (pg_name (i := 1) sc_law_due.nd rfl (.inl rfl))
      (pss_one (ps_if (PW.pt (pw_or (pt_not (pt_val (pe_callB cr_is (by rfl) m.n_isinstance (by decide +kernel) (pa_cons (pv 1) (pa_cons (pe_bltn (v := .ty "str") (by rfl) m.n_str (by decide +kernel) rfl) pa_nil))))) (pw_or1 (pt_cmpR op_notIn_seq (pv 1) (pe_lst (pa_cons pe_str (pa_cons pe_str (pa_cons pe_str pa_nil)))) rfl))))
      (pss_one (ps_ret pe_bl))
      pss_nil)))
      (pss_one (ps_ret (pe_and (pe_cmpR op_lt (pe_bm PySem.F.plainAttrs_list PySem.F.slot_list_count PySem.F.type_list_count mt_count (pv 0) (pa_cons pe_str pa_nil)) pe_int (nomark _)) (pe_one (pe_cmpR op_notIn_seq (pe_callB cr_len (by rfl) m.n_len (by decide +kernel) (pa_cons (pv 0) pa_nil)) (pe_tup (pa_cons (pe_bm PySem.F.plainAttrs_list PySem.F.slot_list_count PySem.F.type_list_count mt_count (pv 0) (pa_cons pe_str pa_nil)) (pa_cons (pe_bm PySem.F.plainAttrs_list PySem.F.slot_list_count PySem.F.type_list_count mt_count (pv 0) (pa_cons pe_str pa_nil)) pa_nil))) rfl))))))), ?_⟩
    walk_at "vc"
    rcases hv with ⟨p, xs, ds, rfl, hS, hD, rfl⟩ | ⟨hn, rfl⟩
    · walk_at "vc"
      refine IsK.lstL (b := true) hS (by decide +kernel) ?_
      walk_at "vc"
      refine NewK.of (Led.nil H) fun p1 H1 L => ?_
      refine EqL0 (L.seq hS) (L.lstAt (by walk_at "mem")) ?_
      walk_at "vc"
      by_cases hz : xs = []
      · subst hz
        exact q _ L.sm
      · rw [show xs.isEmpty = false by cases xs with | nil => exact absurd rfl hz | cons _ _ => rfl]
        walk_at "vc"
        refine ⟨⟨xs, L.seq hS⟩, ?_⟩
        refine loop_list (xs := xs) (fun i σ H' => Same H H' ∧ (∃ y, σ = [some (.ref p), y]) ∧ (xs.take i).all good = true) ⟨L.sm, ⟨_, rfl⟩, rfl⟩ (fun i σ H' _ h => h.1.seq hS) (fun i x σ H' N hx h hN => ?_) (fun σ H' h => ?_)
        · obtain ⟨sm1, ⟨y, rfl⟩, hg⟩ := h
          obtain ⟨dx, _, hd⟩ := hD.at hx
          walk_at "vc"
          refine (hd.mono sm1).isStr ?_
          walk_at "vc"
          cases x with
          | str s =>
            rw [show isS (V.str s) = true from rfl]
            walk_at "vc"
            refine NewK.of (Led.nil H') fun p2 H2 L2 => ?_
            refine ⟨_, Or.inl (L2.lstAt (by walk_at "mem")), rfl, rfl, ?_⟩
            rw [in3]
            walk_at "vc"
            cases hg2 : inV (V.str s) res3 with
            | true =>
              walk_at "vc"
              exact hN _ _ ⟨sm1.trans L2.sm, ⟨_, rfl⟩, all_step hx hg (by unfold good; rw [hg2]; rfl)⟩
            | false =>
              walk_at "vc"
              have := q _ (sm1.trans L2.sm)
              rw [out_bad hx (by unfold good; rw [hg2]; rfl)] at this
              exact this
          | _ =>
            have := q _ sm1
            rw [out_bad hx (by rfl)] at this
            exact this
        · obtain ⟨sm1, ⟨y, rfl⟩, hg⟩ := h
          rw [List.take_of_length_le (Nat.le_refl _)] at hg
          walk_at "vc"
          refine ⟨tyL (sm1.seq hS), xs, sm1.seq hS, rfl, good_flat hg, ?_⟩
          walk_at "vc"
          have hq := fun H2 s2 => q H2 s2
          unfold outB at hq
          rw [hg, Bool.true_and] at hq
          split
          · rename_i c
            rw [decide_eq_true (by unfold cnt; omega), Bool.true_and] at hq
            refine LenK.ofL (sm1.seq hS) ⟨tyL (sm1.seq hS), xs, sm1.seq hS, rfl, good_flat hg, tyL (sm1.seq hS), xs, sm1.seq hS, rfl, good_flat hg, ?_⟩
            refine NewK.of (Led.nil H') fun p2 H2 L2 => ?_
            refine ⟨_, Or.inr (L2.tupAt (by walk_at "mem")), rfl, rfl, ?_⟩
            have h1 := cnt_le xs "right"
            have h2 := cnt_le xs "down"
            have hf := hq H2 (sm1.trans L2.sm)
            have e : inV (.int xs.length) [.int (cnt xs "right"), .int (cnt xs "down")] = !(decide (cnt xs "right" < xs.length) && decide (cnt xs "down" < xs.length)) := by
              unfold inV
              simp only [List.any_cons, List.any_nil, Bool.or_false, eqV]
              generalize cnt xs "right" = a at *
              generalize cnt xs "down" = b at *
              by_cases a1 : a < xs.length
              · by_cases b1 : b < xs.length
                · rw [decide_eq_true a1, decide_eq_true b1, beq_false_of_ne (by omega), beq_false_of_ne (by omega)]; rfl
                · rw [decide_eq_false b1, beq_false_of_ne (a := (a : Int)) (by omega), show b = xs.length by omega]; simp
              · rw [decide_eq_false a1, show a = xs.length by omega]; simp
            unfold cnt at e
            unfold cnt at hf
            rw [if_pos rfl, e, Bool.not_not]
            exact hf
          · rename_i c
            have hf := hq H' sm1
            rw [decide_eq_false (by unfold cnt; omega), Bool.false_and] at hf
            exact hf
    · walk_at "vc"
      refine hn H (Same.refl H) _ ?_
      walk_at "vc"
      exact q _ (Same.refl H)
def mB : Nat → Nat
  | 0 => 500
  | n + 1 => 2 * mB n + 20
def wB : Nat → Nat
  | 0 => 4500
  | n + 1 => 2 * wB n + 60
theorem mB_le : ∀ j, j < 3 → mB j ≤ 10000 ∧ wB j ≤ 20000
  | 0, _ => by decide
  | 1, _ => by decide
  | 2, _ => by decide
theorem shB (b : Bool) : Shq 16000000 60 (.bool b) := (shq_of (n := 40) (k := 2) (by cases b <;> decide +kernel)).up (by decide) (by decide)
def sp_law (K : PySem.W.Frag) : Sp := fun vs H Q _ => ∃ (a : Addr) (ns : List Int), vs = [.ref a] ∧ SqL K H a (ns.map V.int) ∧ ns.length ≤ 63 ∧ ∀ H', Q (.bl true) H'
set_option hygiene false in
local macro_rules | `(tactic| walk_at "k02rest") => `(tactic| (
  refine ⟨B0, u, _, n, rfl, U, by omega, by omega, fun f xs H7 hxl hxg U => ?_⟩
  obtain ⟨B, sB, hB, U⟩ := U.sinkAll
  have hv : Vk K B 500 4500 2 (.ref f) := .lst (hB (f, _) List.mem_cons_self) ((good_dw hxg).up (by omega) (by omega) (by decide))
  walk_at "vc"
  refine ⟨by omega, by omega, ?_⟩
  refine loop_range (fun r σ H' => ∃ B v y6 y7, σ = [some (.ref a), some (.int i), some (.ref u), some (.int j), some (.int n), some v, y6, y7, none] ∧ Same H4 B ∧ Urn B H' u [] (1020 * j + 1007 + 4 * r) ∧ Vk K B (mB r) (wB r) (r + 2) v) ⟨B, _, _, _, rfl, sB0.trans sB, U.up (by omega), hv⟩ (fun r σ H8 N3 hr3 h hN3 => ?_) (fun σ H8 h => ?_)
  · obtain ⟨B, v, y6, y7, rfl, sB, U, hv⟩ := h
    have hr3 : r < 3 := by omega
    obtain ⟨bm, bw⟩ := mB_le r hr3
    obtain ⟨dv, hdv, wdv⟩ := hv.rep
    obtain ⟨b, hb⟩ := hv.vv
    walk_at "vc"
    refine ⟨dv, hdv.mono U.led.sm, wdv.up (by omega) (by omega), ?_⟩
    refine ⟨v, b, rfl, hb _ U.led.sm, fun H9 s9 => ?_⟩
    have U := U.map (l' := []) fun o L => L.same s9
    walk_at "vc"
    refine ⟨_, .bl b, shB b, ?_⟩
    refine ⟨v, b, rfl, hb _ U.led.sm, fun H10 s10 => ?_⟩
    have U := U.map (l' := []) fun o L => L.same s10
    walk_at "vc"
    refine ⟨_, .bl b, shB b, ?_⟩
    walk_at "vc"
    refine ⟨dv, hdv.mono U.led.sm, wdv.up (by omega) (by omega), ?_⟩
    simp only [decide_true, Bool.not_true, Bool.false_eq_true, if_false]
    cases hv with
    | lst h1 h2 =>
      refine x_isR.mpr (IsK.lst (b := true) (U.led.sm _ _ h1) (by decide +kernel) ?_)
      walk_at "vc"
      refine ⟨B, u, _, _, _, mB r, wB r, r + 2, rfl, U, by omega, h1, h2, bm, by omega, fun B2 v2 H11 sB2 U hv2 => ?_⟩
      exact hN3 _ _ ⟨B2, v2, _, _, rfl, sB.trans sB2, U.up (by omega), hv2⟩
    | oth h1 h2 h3 =>
      refine h3 _ U.led.sm _ ?_
      walk_at "vc"
      exact hN3 _ _ ⟨B, _, _, _, rfl, sB, U.up (by omega), .oth h1 (h2.up (by show wB r + 2 ≤ 2 * wB r + 60 + 2; omega) (by omega)) h3⟩
  · obtain ⟨B, v, y6, y7, rfl, sB, U, hv⟩ := h
    exact hN2 _ _ ⟨B, _, _, _, _, _, rfl, sB, U.up (by omega)⟩))
theorem ok_law (m : Mo K mg d) (sm : SM bs) (G_law_cup : Fg P w K mg bs CX0 1 d.a_law_cup d.fd_law_cup ["script", "k"] (sp_law_cup K)) (G_law_sip : Fg P w K mg bs CX0 1 d.a_law_sip d.fd_law_sip ["cup", "many"] (sp_law_sip K)) (G_law_results : Fg P w K mg bs CX0 2 d.a_law_results d.fd_law_results ["cup", "many"] (sp_law_results K)) (G_is_outcome : Fg P w K mg bs CX0 1 d.a_is_outcome d.fd_is_outcome ["value"] (sp_is_outcome K)) (G_law_bent : Fg P w K mg bs CX0 2 d.a_law_bent d.fd_law_bent ["cup", "found"] (sp_law_bent K)) (G_law_due : Fg P w K mg bs CX0 1 d.a_law_due d.fd_law_due ["value"] (sp_law_due K)) : Fg P w K mg bs CX0 3 d.a_law d.fd_law ["script"] (sp_law K) := by
  refine ok (n := 2) m.F_law sc_law (fun vs H Q E h => ?_) (fun cdv A fr s H vs Q E hg hr h => ?_)
  · obtain ⟨a, ns, rfl, hS, hl, fin⟩ := h
    rfl
  · obtain ⟨a, ns, rfl, hS, hl, fin⟩ := h
    refine ⟨_, (pss_cons (ps_for PassesOwn.never rfl (pi_range1 (by rfl) m.n_range (pa_cons (pe_callB (cr_max2 rfl) (by rfl) m.n_max (by decide +kernel) (pa_cons pe_int (pa_cons (pe_callB (cr_min2 rfl) (by rfl) m.n_min (by decide +kernel) (pa_cons pe_int (pa_cons (pe_callB cr_len (by rfl) m.n_len (by decide +kernel) (pa_cons (pv 0) pa_nil)) pa_nil))) pa_nil))) pa_nil)) (pg_name (i := 1) sc_law.nd rfl (.inl rfl))
      (pss_cons (ps_asg (pg_call G_law_cup hg (hr.mono (by decide)) (by rfl) m.g_law_cup m.F_law_cup.kp m.b_law_cup .nil (fun _ => passG) (pa_cons (pv 0) (pa_cons (pv 1) pa_nil))) (pg_name (i := 2) sc_law.nd rfl (.inl rfl)))
      (pss_cons (ps_for PassesOwn.never rfl (pi_range1 (by rfl) m.n_range (pa_cons pe_int pa_nil)) (pg_name (i := 3) sc_law.nd rfl (.inl rfl))
      (pss_cons (ps_asg (pe_ifExp (PW.pt (pw_and (pt_cmpR op_eq (pe_op op_add (pv 1) (pv 3)) pe_int (nomark _)) (pw_and1 (pt_cmpR op_eq (pg_call G_law_sip hg (hr.mono (by decide)) (by rfl) m.g_law_sip m.F_law_sip.kp m.b_law_sip .nil (fun _ => passG) (pa_cons (pv 2) (pa_cons pe_int pa_nil))) pe_int (nomark _))))) (pe_ix ix_list (pe_lst (pa_cons pe_int (pa_cons pe_int pa_nil))) (pg_call G_law_sip hg (hr.mono (by decide)) (by rfl) m.g_law_sip m.F_law_sip.kp m.b_law_sip .nil (fun _ => passG) (pa_cons (pv 2) (pa_cons pe_int pa_nil))) (fun _ _ => rfl)) (pg_call G_law_sip hg (hr.mono (by decide)) (by rfl) m.g_law_sip m.F_law_sip.kp m.b_law_sip .nil (fun _ => passG) (pa_cons (pv 2) (pa_cons pe_int pa_nil)))) (pg_name (i := 4) sc_law.nd rfl (.inl rfl)))
      (pss_cons (ps_asg (pg_call G_law_results hg (hr.mono (by decide)) (by rfl) m.g_law_results m.F_law_results.kp m.b_law_results .nil (fun _ => passG) (pa_cons (pv 2) (pa_cons (pv 4) pa_nil))) (pg_name (i := 5) sc_law.nd rfl (.inl rfl)))
      (pss_one (ps_for PassesOwn.never rfl (pi_range1 (by rfl) m.n_range (pa_cons pe_int pa_nil)) (pg_name (i := 6) sc_law.nd rfl (.inl rfl))
      (pss_cons (ps_asg (pe_callB (call_reprQ hg hr sm) (by rfl) m.n_repr (by decide +kernel) (pa_cons (pv 5) pa_nil)) (pg_name (i := 7) sc_law.nd rfl (.inl rfl)))
      (pss_cons (ps_if (PW.pt (pw_or (pt_cmpR op_ne (pe_callB (call_reprQ hg hr sm) (by rfl) m.n_repr (by decide +kernel) (pa_cons (pg_call G_is_outcome hg (hr.mono (by decide)) (by rfl) m.g_is_outcome m.F_is_outcome.kp m.b_is_outcome .nil (fun _ => passG) (pa_cons (pv 5) pa_nil)) pa_nil)) (pe_callB (call_reprQ hg hr sm) (by rfl) m.n_repr (by decide +kernel) (pa_cons (pg_call G_law_due hg (hr.mono (by decide)) (by rfl) m.g_law_due m.F_law_due.kp m.b_law_due .nil (fun _ => passG) (pa_cons (pv 5) pa_nil)) pa_nil)) (nomark _)) (pw_or1 (pt_cmpR op_ne (pe_callB (call_reprQ hg hr sm) (by rfl) m.n_repr (by decide +kernel) (pa_cons (pv 5) pa_nil)) (pv 7) (nomark _)))))
      (pss_one (ps_ret pe_bl))
      pss_nil)
      (pss_one (ps_asg (pe_ifExp (pt_val (pe_callB cr_is (by rfl) m.n_isinstance (by decide +kernel) (pa_cons (pv 5) (pa_cons (pe_bltn (v := .ty "list") (by rfl) m.n_list (by decide +kernel) rfl) pa_nil)))) (pg_call G_law_bent hg (hr.mono (by decide)) (by rfl) m.g_law_bent m.F_law_bent.kp m.b_law_bent .nil (fun _ => passG) (pa_cons (pv 2) (pa_cons (pv 5) pa_nil))) (pv 5)) (pg_name (i := 5) sc_law.nd rfl (.inl rfl)))))))))))
      (pss_one (ps_if (PW.pt (pw_and (pt_cmpR op_eq (pv 1) pe_int (nomark _)) (pw_and1 (pt_cmpR op_eq (pg_call G_law_sip hg (hr.mono (by decide)) (by rfl) m.g_law_sip m.F_law_sip.kp m.b_law_sip .nil (fun _ => passG) (pa_cons (pv 2) (pa_cons pe_int pa_nil))) pe_int (nomark _)))))
      (pss_cons (ps_asg (pg_call G_law_results hg (hr.mono (by decide)) (by rfl) m.g_law_results m.F_law_results.kp m.b_law_results .nil (fun _ => passG) (pa_cons (pv 2) (pa_cons pe_int pa_nil))) (pg_name (i := 5) sc_law.nd rfl (.inl rfl)))
      (pss_one (ps_if (pt_cmpR op_ne (pe_callB (call_reprQ hg hr sm) (by rfl) m.n_repr (by decide +kernel) (pa_cons (pg_call G_is_outcome hg (hr.mono (by decide)) (by rfl) m.g_is_outcome m.F_is_outcome.kp m.b_is_outcome .nil (fun _ => passG) (pa_cons (pv 5) pa_nil)) pa_nil)) (pe_callB (call_reprQ hg hr sm) (by rfl) m.n_repr (by decide +kernel) (pa_cons (pg_call G_law_due hg (hr.mono (by decide)) (by rfl) m.g_law_due m.F_law_due.kp m.b_law_due .nil (fun _ => passG) (pa_cons (pv 5) pa_nil)) pa_nil)) (nomark _))
      (pss_one (ps_ret pe_bl))
      pss_nil)))
      pss_nil)))))
      (pss_cons (ps_asg (pe_lst (pa_cons (pe_lst (pa_cons pe_str pa_nil)) (pa_cons (pe_lst (pa_cons pe_str pa_nil)) (pa_cons (pe_lst (pa_cons pe_str pa_nil)) (pa_cons (pe_lst (pa_cons pe_str (pa_cons pe_str pa_nil))) (pa_cons (pe_lst (pa_cons pe_str (pa_cons pe_str pa_nil))) (pa_cons (pe_lst pa_nil) pa_nil))))))) (pg_name (i := 8) sc_law.nd rfl (.inl rfl)))
      (pss_one (ps_ret (pe_cmpR (op_eqL hr.units) (pe_lc (own := [("value", 5)]) (by rfl) sc_law.nd (pi_list (pv 8)) (blkOk_by (own := [("value", 5)]) (N := ["script", "k", "cup", "turn", "many", "value", "again", "kept", "values"]) (sc := defScope s_law) (by decide +kernel)) (fun _ _ _ _ _ => by exact (pg_name (i := 5) sc_law.nd rfl (.inl rfl))) (fun _ _ _ _ _ => by exact pts_nil) (fun _ _ _ _ _ => by exact (pg_call G_is_outcome hg (hr.mono (by decide)) (by rfl) m.g_is_outcome m.F_is_outcome.kp m.b_is_outcome .nil (fun _ => passG) (pa_cons (pv 5) pa_nil)))) (pe_lst (pa_cons pe_bl (pa_cons pe_bl (pa_cons pe_bl (pa_cons pe_bl (pa_cons pe_bl (pa_cons pe_bl pa_nil))))))) (nomark _)))))), ?_⟩
    walk_at "vc"
    refine LenK.ofL hS ?_
    walk_at "vc"
    refine ⟨by omega, by omega, ?_⟩
    refine loop_range (fun i σ H' => ∃ y1 y2 y3 y4 y5 y6 y7, σ = [some (.ref a), y1, y2, y3, y4, y5, y6, y7, none] ∧ Same H H') ⟨_, _, _, _, _, _, _, rfl, Same.refl H⟩ (fun i σ H4 N hi h hN => ?_) (fun σ H4 h => ?_)
    · obtain ⟨y1, y2, y3, y4, y5, y6, y7, rfl, sH4⟩ := h
      walk_at "vc"
      refine ⟨a, ns, (i : Int), rfl, sH4.seq hS, by omega, by omega, fun u H5 U => ?_⟩
      walk_at "vc"
      refine ⟨by omega, by omega, ?_⟩
      refine loop_range (fun j σ H' => ∃ B y3 y4 y5 y6 y7, σ = [some (.ref a), some (.int i), some (.ref u), y3, y4, y5, y6, y7, none] ∧ Same H4 B ∧ Urn B H' u [] (1020 * j)) ⟨_, _, _, _, _, _, rfl, Same.refl H4, U⟩ (fun j σ H6 N2 hj h hN2 => ?_) (fun σ H6 h => ?_)
      · obtain ⟨B0, y3, y4, y5, y6, y7, rfl, sB0, U⟩ := h
        walk_at "vc"
        split
        · refine sip_go U (by omega) (by omega) (by omega) fun H7 r0 U a0 b0 => ?_
          walk_at "vc"
          split
          · refine U.new fun p1 H8 U => ?_
            refine sip_go U (by omega) (by omega) (by omega) fun H9 r1 U a1 b1 => ?_
            obtain ⟨x1, hx1, e1⟩ := atI_map (ns := [300, 499]) a1 (by simpa using b1)
            walk_at "vc"
            refine IxLK.of (U.led.lstAt (by walk_at "mem")) e1 ?_
            obtain ⟨n, hn, rfl⟩ : ∃ n : Nat, n ≤ 499 ∧ x1 = (n : Int) := by
              simp only [List.mem_cons, List.not_mem_nil, or_false] at hx1
              exact ⟨x1.toNat, by omega, by omega⟩
            have U : Urn B0 H9 u [] (1020 * j + 2) := (U.sel (by walk_at "sel")).up (by omega)
            walk_at "k02rest"
          · refine sip_go U (by omega) (by omega) (by omega) fun H8 x1 U a1 b1 => ?_
            obtain ⟨n, hn, rfl⟩ : ∃ n : Nat, n ≤ 499 ∧ x1 = (n : Int) := ⟨x1.toNat, by omega, by omega⟩
            have U : Urn B0 H8 u [] (1020 * j + 2) := U.up (by omega)
            walk_at "k02rest"
        · refine sip_go U (by omega) (by omega) (by omega) fun H8 x1 U a1 b1 => ?_
          obtain ⟨n, hn, rfl⟩ : ∃ n : Nat, n ≤ 499 ∧ x1 = (n : Int) := ⟨x1.toNat, by omega, by omega⟩
          have U : Urn B0 H8 u [] (1020 * j + 2) := U.up (by omega)
          walk_at "k02rest"
      · obtain ⟨B0, y3, y4, y5, y6, y7, rfl, sB0, U⟩ := h
        have done : ∀ (H' : Hp) (B : Hp) (y3 y4 y5 y6 y7 : Option V) (c : Nat), Same H4 B → Urn B H' u [] c → N [some (.ref a), some (.int i), some (.ref u), y3, y4, y5, y6, y7, none] H' := fun H' B y3 y4 y5 y6 y7 c s U => hN _ _ ⟨_, _, _, _, _, _, _, rfl, sH4.trans (s.trans U.led.sm)⟩
        walk_at "vc"
        split
        · refine sip_go U (by omega) (by omega) (by omega) fun H7 r0 U a0 b0 => ?_
          walk_at "vc"
          split
          · refine ⟨B0, u, _, 2000, rfl, U, by omega, by omega, fun f xs H7 hxl hxg U => ?_⟩
            obtain ⟨B, sB, hB, U⟩ := U.sinkAll
            have hv : Vk K B 2000 18000 2 (.ref f) := .lst (hB (f, _) List.mem_cons_self) ((good_dw hxg).up (by omega) (by omega) (by decide))
            obtain ⟨b, hb⟩ := hv.vv
            walk_at "vc"
            refine ⟨.ref f, b, rfl, hb _ U.led.sm, fun H9 s9 => ?_⟩
            have U := U.map (l' := []) fun o L => L.same s9
            walk_at "vc"
            refine ⟨_, .bl b, shB b, ?_⟩
            refine ⟨.ref f, b, rfl, hb _ U.led.sm, fun H10 s10 => ?_⟩
            have U := U.map (l' := []) fun o L => L.same s10
            walk_at "vc"
            refine ⟨_, .bl b, shB b, ?_⟩
            walk_at "vc"
            exact done _ _ _ _ _ _ _ _ (sB0.trans sB) U
          · exact done _ _ _ _ _ _ _ _ sB0 U
        · exact done _ _ _ _ _ _ _ _ sB0 U
    · obtain ⟨y1, y2, y3, y4, y5, y6, y7, rfl, sH4⟩ := h
      walk_at "vc"
      refine NewK.of (Led.nil H4) fun p1 H5 L => ?_
      refine NewK.of L fun p2 H5 L => ?_
      refine NewK.of L fun p3 H5 L => ?_
      refine NewK.of L fun p4 H5 L => ?_
      refine NewK.of L fun p5 H5 L => ?_
      refine NewK.of L fun p6 H5 L => ?_
      refine NewK.of L fun p7 H5 L => ?_
      refine ⟨⟨_, L.lstAt (by walk_at "mem")⟩, ?_⟩
      refine comp_list (xs := [.ref p1, .ref p2, .ref p3, .ref p4, .ref p5, .ref p6]) (fun j z acc H' => acc = [V.bl true, .bl false, .bl false, .bl true, .bl false, .bl false].take j ∧ Led H4 H' [(z, .lst acc), (p7, .lst [.ref p1, .ref p2, .ref p3, .ref p4, .ref p5, .ref p6]), (p6, .lst []), (p5, .lst [.str "stop", .str "stop"]), (p4, .lst [.str "right", .str "down"]), (p3, .lst [.str "down"]), (p2, .lst [.str "right"]), (p1, .lst [.str "stop"])]) (fun z hz => ⟨rfl, L.new hz⟩) (fun j z acc H' h => h.2.lstAt (by walk_at "mem")) ?_ ?_
      · rintro z acc H6 ⟨rfl, L⟩
        walk_at "vc"
        refine NewK.of L fun p8 H7 L => ?_
        have dd : DpAll K H7 [V.bl true, .bl false, .bl false, .bl true, .bl false, .bl false] [.bool true, .bool false, .bool false, .bool true, .bool false, .bool false] := .cons (.bl _) (.cons (.bl _) (.cons (.bl _) (.cons (.bl _) (.cons (.bl _) (.cons (.bl _) .nil)))))
        refine Or.inl (EqD.of (.lst (L.lstAt (by walk_at "mem")) dd) (.lst (L.lstAt (by walk_at "mem")) dd) (by decide +kernel) (by decide +kernel) ?_)
        rw [show PyData.eqv (.list [.bool true, .bool false, .bool false, .bool true, .bool false, .bool false]) (.list [.bool true, .bool false, .bool false, .bool true, .bool false, .bool false]) = true by decide +kernel]
        exact fin _
      · rintro j z acc H6 x N2 hx ⟨rfl, L⟩ hN2
        obtain ⟨p, xs, ds, rfl, hm, hd, hr⟩ : ∃ p xs ds, x = V.ref p ∧ SqL K H6 p xs ∧ DqAll K H6 xs ds ∧ [V.bl true, .bl false, .bl false, .bl true, .bl false, .bl false][j]? = some (.bl (outB xs)) := by
          match j, hx with
          | 0, hx => cases hx; exact ⟨_, [.str "stop"], _, rfl, L.lstAt (by walk_at "mem"), .cons (.str _) .nil, by decide +kernel⟩
          | 1, hx => cases hx; exact ⟨_, [.str "right"], _, rfl, L.lstAt (by walk_at "mem"), .cons (.str _) .nil, by decide +kernel⟩
          | 2, hx => cases hx; exact ⟨_, [.str "down"], _, rfl, L.lstAt (by walk_at "mem"), .cons (.str _) .nil, by decide +kernel⟩
          | 3, hx => cases hx; exact ⟨_, [.str "right", .str "down"], _, rfl, L.lstAt (by walk_at "mem"), .cons (.str _) (.cons (.str _) .nil), by decide +kernel⟩
          | 4, hx => cases hx; exact ⟨_, [.str "stop", .str "stop"], _, rfl, L.lstAt (by walk_at "mem"), .cons (.str _) (.cons (.str _) .nil), by decide +kernel⟩
          | 5, hx => cases hx; exact ⟨_, [], _, rfl, L.lstAt (by walk_at "mem"), .nil, by decide +kernel⟩
          | _ + 6, hx => cases hx
        have hj : j < 6 := (List.getElem?_eq_some_iff.mp hx).1
        unfold TurnK
        walk_at "vc"
        refine ⟨.ref p, _, rfl, Or.inl ⟨p, xs, ds, rfl, hm, hd, rfl⟩, fun H7 s7 => ?_⟩
        have L := L.same s7
        walk_at "vc"
        refine AppK.of L (by walk_at "mem") (Nat.lt_of_le_of_lt (m := 6) (by rw [List.length_take]; show min j 6 ≤ 6; omega) (by decide)) (by walk_at "put") fun H8 L => hN2 _ _ ⟨by rw [List.take_add_one, hr]; rfl, L⟩
theorem law_end {K : PySem.W.Frag} {H : Hp} {a : Addr} {ns : List Int} (hl : ns.length ≤ 63) (hb : ∀ z ∈ ns, Builtin.Int.intBits z ≤ 1048576) (hS : SqL K H a (ns.map V.int)) : sp_law K [.ref a] H (fun v _ => v = .bl true) fun _ _ _ => False := ⟨a, ns, rfl, hS, hl, fun _ => rfl⟩
end
theorem all_mk {q : Program} (hq : PyProof.Rows.importsNone q = true) {l : PySem.W.OpenLaw} {w : World} {K : PySem.W.Frag} {h : Heap} {mg : Str → Option Value} {fa : Addr} (X : K.In h) (G : h.Ns mainGlobals mg) (hfa : mg "law" = some (.ref fa))
    {f0 f1 f2 f3 f4 f5 f6 : Addr} {od0 an0 od1 an1 od2 an2 od3 an3 od4 an4 od5 an5 od6 an6 : Option Addr} {sl0 sl1 sl2 sl3 sl4 sl5 sl6 : Array (Option Value)} {oc0 kV0 dc0 pm0 cd0 ct0 oc1 kV1 dc1 pm1 cd1 ct1 oc2 kV2 dc2 pm2 cd2 ct2 oc3 kV3 dc3 pm3 cd3 ct3 oc4 kV4 dc4 pm4 cd4 ct4 oc5 kV5 dc5 pm5 cd5 ct5 oc6 kV6 dc6 pm6 cd6 ct6 : Value}
    (a0 : PySem.W.nsIn K mainGlobals "_law_cup" = some (some (.ref f0)))
    (l0 : K.lookup f0 = some ⟨oc0, od0, .func (PySem.W.fnOf "_law_cup" "_law_cup" (defArgs s_law_cup) (defBody s_law_cup) (defScope s_law_cup) .none kV0 dc0 pm0 an0 cd0 ct0), sl0⟩)
    (c0 : PySem.W.codeIn K cd0 "_law_cup" = true)
    (k0 : PySem.W.keepIn K (.ref f0) = true)
    (a1 : PySem.W.nsIn K mainGlobals "_law_sip" = some (some (.ref f1)))
    (l1 : K.lookup f1 = some ⟨oc1, od1, .func (PySem.W.fnOf "_law_sip" "_law_sip" (defArgs s_law_sip) (defBody s_law_sip) (defScope s_law_sip) .none kV1 dc1 pm1 an1 cd1 ct1), sl1⟩)
    (c1 : PySem.W.codeIn K cd1 "_law_sip" = true)
    (k1 : PySem.W.keepIn K (.ref f1) = true)
    (a2 : PySem.W.nsIn K mainGlobals "_law_results" = some (some (.ref f2)))
    (l2 : K.lookup f2 = some ⟨oc2, od2, .func (PySem.W.fnOf "_law_results" "_law_results" (defArgs s_law_results) (defBody s_law_results) (defScope s_law_results) .none kV2 dc2 pm2 an2 cd2 ct2), sl2⟩)
    (c2 : PySem.W.codeIn K cd2 "_law_results" = true)
    (k2 : PySem.W.keepIn K (.ref f2) = true)
    (a3 : PySem.W.nsIn K mainGlobals "is_outcome" = some (some (.ref f3)))
    (l3 : K.lookup f3 = some ⟨oc3, od3, .func (PySem.W.fnOf "is_outcome" "is_outcome" (defArgs s_is_outcome) (defBody s_is_outcome) (defScope s_is_outcome) .none kV3 dc3 pm3 an3 cd3 ct3), sl3⟩)
    (c3 : PySem.W.codeIn K cd3 "is_outcome" = true)
    (k3 : PySem.W.keepIn K (.ref f3) = true)
    (a4 : PySem.W.nsIn K mainGlobals "_law_bent" = some (some (.ref f4)))
    (l4 : K.lookup f4 = some ⟨oc4, od4, .func (PySem.W.fnOf "_law_bent" "_law_bent" (defArgs s_law_bent) (defBody s_law_bent) (defScope s_law_bent) .none kV4 dc4 pm4 an4 cd4 ct4), sl4⟩)
    (c4 : PySem.W.codeIn K cd4 "_law_bent" = true)
    (k4 : PySem.W.keepIn K (.ref f4) = true)
    (a5 : PySem.W.nsIn K mainGlobals "_law_due" = some (some (.ref f5)))
    (l5 : K.lookup f5 = some ⟨oc5, od5, .func (PySem.W.fnOf "_law_due" "_law_due" (defArgs s_law_due) (defBody s_law_due) (defScope s_law_due) .none kV5 dc5 pm5 an5 cd5 ct5), sl5⟩)
    (c5 : PySem.W.codeIn K cd5 "_law_due" = true)
    (k5 : PySem.W.keepIn K (.ref f5) = true)
    (a6 : PySem.W.nsIn K mainGlobals "law" = some (some (.ref f6)))
    (l6 : K.lookup f6 = some ⟨oc6, od6, .func (PySem.W.fnOf "law" "law" (defArgs s_law) (defBody s_law) (defScope s_law) .none kV6 dc6 pm6 an6 cd6 ct6), sl6⟩)
    (c6 : PySem.W.codeIn K cd6 "law" = true)
    (k6 : PySem.W.keepIn K (.ref f6) = true)
    (z_isinstance : PySem.W.nsIn K mainGlobals "isinstance" = some none)
    (z_len : PySem.W.nsIn K mainGlobals "len" = some none)
    (z_list : PySem.W.nsIn K mainGlobals "list" = some none)
    (z_max : PySem.W.nsIn K mainGlobals "max" = some none)
    (z_min : PySem.W.nsIn K mainGlobals "min" = some none)
    (z_range : PySem.W.nsIn K mainGlobals "range" = some none)
    (z_repr : PySem.W.nsIn K mainGlobals "repr" = some none)
    (z_str : PySem.W.nsIn K mainGlobals "str" = some none)
    (z_tuple : PySem.W.nsIn K mainGlobals "tuple" = some none)
    {ka0 : Addr} {kd0 : Option Addr} {kn0 : Nat} {kl0 : Array (Option Value)} {ks0_0 ks0_1 ks0_2 : Tok}
    (q0 : PySem.W.nsIn K mainGlobals "RESULTS" = some (some (.ref ka0)))
    (u0 : K.lookup ka0 = some ⟨.type "tuple", kd0, .seq #[.str "down" ks0_0, .str "right" ks0_1, .str "stop" ks0_2] kn0, kl0⟩) :
    ∃ fd : FuncData, (∀ (s : Shared) (v : Value), BindsTo s fd ⟨[v], []⟩ [("script", v)]) ∧ ∀ bs : Heap, K.In bs → bs.Ns mainGlobals mg → (PyProof.Rows.importsNone q = true → ∃ mm, bs.Ns sysModules mm) → Fg l.prog w K mg bs CX0 3 fa fd ["script"] (sp_law K) := by
  have e := hfa.symm.trans (PySem.W.mg_of X G a6)
  cases e
  have F0 := fun_mk (st := s_law_cup) l0 c0 k0
  have b0 := F0.binds (ps := ["script", "k"]) fun _ _ _ _ _ _ us hl => match us, hl with | [_, _], _ => rfl
  have F1 := fun_mk (st := s_law_sip) l1 c1 k1
  have b1 := F1.binds (ps := ["cup", "many"]) fun _ _ _ _ _ _ us hl => match us, hl with | [_, _], _ => rfl
  have F2 := fun_mk (st := s_law_results) l2 c2 k2
  have b2 := F2.binds (ps := ["cup", "many"]) fun _ _ _ _ _ _ us hl => match us, hl with | [_, _], _ => rfl
  have F3 := fun_mk (st := s_is_outcome) l3 c3 k3
  have b3 := F3.binds (ps := ["value"]) fun _ _ _ _ _ _ us hl => match us, hl with | [_], _ => rfl
  have F4 := fun_mk (st := s_law_bent) l4 c4 k4
  have b4 := F4.binds (ps := ["cup", "found"]) fun _ _ _ _ _ _ us hl => match us, hl with | [_, _], _ => rfl
  have F5 := fun_mk (st := s_law_due) l5 c5 k5
  have b5 := F5.binds (ps := ["value"]) fun _ _ _ _ _ _ us hl => match us, hl with | [_], _ => rfl
  have F6 := fun_mk (st := s_law) l6 c6 k6
  have b6 := F6.binds (ps := ["script"]) fun _ _ _ _ _ _ us hl => match us, hl with | [_], _ => rfl
  have m : Mo K mg ⟨f0, (PySem.W.fnOf "_law_cup" "_law_cup" (defArgs s_law_cup) (defBody s_law_cup) (defScope s_law_cup) .none kV0 dc0 pm0 an0 cd0 ct0), f1, (PySem.W.fnOf "_law_sip" "_law_sip" (defArgs s_law_sip) (defBody s_law_sip) (defScope s_law_sip) .none kV1 dc1 pm1 an1 cd1 ct1), f2, (PySem.W.fnOf "_law_results" "_law_results" (defArgs s_law_results) (defBody s_law_results) (defScope s_law_results) .none kV2 dc2 pm2 an2 cd2 ct2), f3, (PySem.W.fnOf "is_outcome" "is_outcome" (defArgs s_is_outcome) (defBody s_is_outcome) (defScope s_is_outcome) .none kV3 dc3 pm3 an3 cd3 ct3), f4, (PySem.W.fnOf "_law_bent" "_law_bent" (defArgs s_law_bent) (defBody s_law_bent) (defScope s_law_bent) .none kV4 dc4 pm4 an4 cd4 ct4), f5, (PySem.W.fnOf "_law_due" "_law_due" (defArgs s_law_due) (defBody s_law_due) (defScope s_law_due) .none kV5 dc5 pm5 an5 cd5 ct5), fa, (PySem.W.fnOf "law" "law" (defArgs s_law) (defBody s_law) (defScope s_law) .none kV6 dc6 pm6 an6 cd6 ct6)⟩ := by
    constructor
    · exact F0
    · exact b0
    · exact PySem.W.mg_of X G a0
    · exact F1
    · exact b1
    · exact PySem.W.mg_of X G a1
    · exact F2
    · exact b2
    · exact PySem.W.mg_of X G a2
    · exact F3
    · exact b3
    · exact PySem.W.mg_of X G a3
    · exact F4
    · exact b4
    · exact PySem.W.mg_of X G a4
    · exact F5
    · exact b5
    · exact PySem.W.mg_of X G a5
    · exact F6
    · exact b6
    · exact PySem.W.mg_of X G a6
    · exact PySem.W.mg_none_of X G z_isinstance
    · exact PySem.W.mg_none_of X G z_len
    · exact PySem.W.mg_none_of X G z_list
    · exact PySem.W.mg_none_of X G z_max
    · exact PySem.W.mg_none_of X G z_min
    · exact PySem.W.mg_none_of X G z_range
    · exact PySem.W.mg_none_of X G z_repr
    · exact PySem.W.mg_none_of X G z_str
    · exact PySem.W.mg_none_of X G z_tuple
    · exact ⟨_, PySem.W.mg_of X G q0, fun H => Or.inr ⟨_, _, _, u0, rfl, rfl, (by show 3 ≤ sizeLine; decide), (.cons ⟨_, rfl⟩ (.cons ⟨_, rfl⟩ (.cons ⟨_, rfl⟩ .nil)))⟩⟩
  refine ⟨(PySem.W.fnOf "law" "law" (defArgs s_law) (defBody s_law) (defScope s_law) .none kV6 dc6 pm6 an6 cd6 ct6), fun s v => .of_eq rfl, fun bs _ _ smq => ?_⟩
  have G_law_cup := ok_law_cup (P := l.prog) (w := w) (bs := bs) m (smq hq) 
  have G_law_sip := ok_law_sip (P := l.prog) (w := w) (bs := bs) m (smq hq) 
  have G_law_results := ok_law_results (P := l.prog) (w := w) (bs := bs) m (smq hq) G_law_sip
  have G_is_outcome := ok_is_outcome (P := l.prog) (w := w) (bs := bs) m (smq hq) 
  have G_law_bent := ok_law_bent (P := l.prog) (w := w) (bs := bs) m (smq hq) G_law_sip
  have G_law_due := ok_law_due (P := l.prog) (w := w) (bs := bs) m (smq hq) 
  have G_law := ok_law (P := l.prog) (w := w) (bs := bs) m (smq hq) G_law_cup G_law_sip G_law_results G_is_outcome G_law_bent G_law_due
  exact G_law
end My
open PySem PySem.W PyProof.Rows
set_option maxHeartbeats 0 in
theorem PySem.Challenge.cw_splitnames_k02_what_are_outcomes_holds : PySem.Challenge.rw_splitnames_k02_what_are_outcomes.Holds := by
  w_on; o_law; k_head; (case hw => w_witness2)
  k_fill
  refine Vg.walk_q (l := PySem.Challenge.rw_splitnames_k02_what_are_outcomes) (n := 63) (k := 3) (x := "script") (C := fun _ => L2.CX0) (sp := fun w => My.sp_law _) rfl (by decide) rfl ⟨rfl, by decide, by decide⟩ (fun w h Y => PySem.W.kIn_of Y) ?F (fun _ _ a ns hl hb _ hS => My.law_end hl hb hS) (fun _ _ _ _ _ h => h)
  case F =>
    intro w mg fa h KX G hmg
    refine' My.all_mk (by decide +kernel) KX G hmg ?a0 ?l0 ?c0 ?k0 ?a1 ?l1 ?c1 ?k1 ?a2 ?l2 ?c2 ?k2 ?a3 ?l3 ?c3 ?k3 ?a4 ?l4 ?c4 ?k4 ?a5 ?l5 ?c5 ?k5 ?a6 ?l6 ?c6 ?k6 ?z_isinstance ?z_len ?z_list ?z_max ?z_min ?z_range ?z_repr ?z_str ?z_tuple ?q0 ?u0
    (case a0 => k_is)
    (case l0 => k_is)
    (case c0 => k_is)
    (case k0 => k_is)
    (case a1 => k_is)
    (case l1 => k_is)
    (case c1 => k_is)
    (case k1 => k_is)
    (case a2 => k_is)
    (case l2 => k_is)
    (case c2 => k_is)
    (case k2 => k_is)
    (case a3 => k_is)
    (case l3 => k_is)
    (case c3 => k_is)
    (case k3 => k_is)
    (case a4 => k_is)
    (case l4 => k_is)
    (case c4 => k_is)
    (case k4 => k_is)
    (case a5 => k_is)
    (case l5 => k_is)
    (case c5 => k_is)
    (case k5 => k_is)
    (case a6 => k_is)
    (case l6 => k_is)
    (case c6 => k_is)
    (case k6 => k_is)
    (case z_isinstance => k_is)
    (case z_len => k_is)
    (case z_list => k_is)
    (case z_max => k_is)
    (case z_min => k_is)
    (case z_range => k_is)
    (case z_repr => k_is)
    (case z_str => k_is)
    (case z_tuple => k_is)
    (case q0 => k_is)
    (case u0 => k_is)

