import PyProof.Rows.All
import Wide.All
import OpenK.AllK
import Wide.FinOn
import PyProof.ReprRoads
import HandS.ForMost
import HandS.ForExc
import HandS.Wide
import HandS.EndBits
import HandS.FStrTup
import HandS.Flow
import HandS.IsInst
import HandS.SetFor
import HandS.Conv
import PySem.Challenge.RW_splitnames_k08_names_of_cells
set_option Elab.async false
set_option linter.all false
set_option maxRecDepth 100000
set_option maxHeartbeats 2000000
namespace Vg
open PySem PySem.Spec PyProof.Rows L2

/-- a def's promise where no repr is under way around the call -/
structure Fg (P : Program) (w : World) (K : PySem.W.Frag) (mg : Str → Option Value) (bs : Heap) (C : CXT) (n : Nat) (f : Addr) (fd : FuncData) (ps : List Str) (sp : Sp) : Prop where
  ar : ∀ vs H Q E, sp vs H Q E → vs.length = ps.length
  go : ∀ (A : Around) (fr : List Env) (s : Shared) (H : Hp) (gs : Args) (us : List Value) (vs : List V) (Q : VK) (E : XK), A.guards = some [] → Room n A → Env0 P w K mg bs A fr s H →
    BindsTo s fd gs (ps.zip us) → Vals vs us → sp vs H Q E → codeAny (model P w) A (.call (.ref f) gs) (CR C fr P w H s Q E) s

section
variable {P : Program} {w : World} {K : PySem.W.Frag} {mg : Str → Option Value} {bs : Heap} {C : CXT} {n : Nat} {f : Addr} {fd : FuncData} {ps : List Str} {sp : Sp}
theorem Fg.up {m : Nat} (F : Fg P w K mg bs C n f fd ps sp) (h : n ≤ m) : Fg P w K mg bs C m f fd ps sp :=
  ⟨F.ar, fun A fr s H gs us vs Q E g r => F.go A fr s H gs us vs Q E g (r.mono h)⟩
theorem Fg.weaker {sq : Sp} (F : Fg P w K mg bs C n f fd ps sp) (h : ∀ vs H Q E, sq vs H Q E → sp vs H Q E) : Fg P w K mg bs C n f fd ps sq :=
  ⟨fun vs H Q E q => F.ar vs H Q E (h _ _ _ _ q), fun A fr s H gs us vs Q E g r e b v q => F.go A fr s H gs us vs Q E g r e b v (h _ _ _ _ q)⟩

/-- from a body's reading -/
theorem Fg.mk' {N : List Str} {nm qual : Str} {pr : Arguments} {body : List Stmt} {sc : Scope} {dV kV doc pm cdv ct oc : Value} {an od : Option Addr} {osl : Array (Option Value)}
    (lk : K.lookup f = some ⟨oc, od, .func (PySem.W.fnOf nm qual pr body sc dV kV doc pm an cdv ct), osl⟩) (hc : PySem.W.codeIn K cdv qual = true) (S : FnScope N ps sc)
    (ar : ∀ vs H Q E, sp vs H Q E → vs.length = ps.length)
    (hb : ∀ (A : Around) (fr : List Env) (s : Shared) (H : Hp) (vs : List V) (Q : VK) (E : XK), A.guards = some [] → Room n (A.deeper (envOfC qual sc s.heap.objs.size f cdv)) → sp vs H Q E →
      ∃ t, PSs (cxOf C P w K mg bs N qual sc f cdv A fr s H E) body t ∧ t { nx := fun _ H' => Q .non H', rt := Q } (start N vs) H) :
    Fg P w K mg bs C (n + 1) f (PySem.W.fnOf nm qual pr body sc dV kV doc pm an cdv ct) ps sp := by
  refine ⟨ar, fun A fr s H gs us vs Q E hg rm e0 bd rv q => ?_⟩
  have ln := ar _ _ _ _ q
  have kx : K.In s.heap := e0.mod.kin.keeps (fun b o z => (e0.bs b o z).1)
  have nl : s.heap.NoLimit := e0.mod.nolimit.keeps (fun b o z => (e0.bs b o z).1)
  have kd : ∀ y ∈ ps.zip us, sc.names.lookup y.1 = some .local ∨ (sc.names.lookup y.1 = some .cell ∧ ((cellsFrom (s.heap.objs.size + 1) sc.names []).lookup y.1).isSome = true) := by
    rintro ⟨y, v⟩ hy
    cases S.par y (List.of_mem_zip hy).1 with
    | inl z => exact Or.inl z
    | inr z => exact Or.inr ⟨z, PySem.W.cellsFrom_some _ _ _ (Or.inl z)⟩
  refine codeAny_call_function rm.depth (kx _ _ lk) rfl S.co S.gen rfl (PySem.W.codeRec_of kx hc) (bd _ _ _ _ ?_)
  refine wpAny_newFunctionEnv_cells S.kind kd fun en he s1 x => ?_
  subst he
  refine ⟨nl.keeps x.toInCall.keep, codeAny_func ?_⟩
  obtain ⟨t, ht, hq⟩ := hb A fr s H vs Q E hg (rm.deeper _) q
  have I : Inv (cxOf C P w K mg bs N qual sc f cdv A fr s H E) [] (start N vs) H s1 := inv_start S rm.hd e0 ln rv x
  refine wpAny_mono (ht.run [] s1 (start N vs) H _ I hq) (fun fl s' z => ?_) fun e s' z => z
  cases fl with
  | ret u =>
    obtain ⟨v, σ', H', J, r, q'⟩ := z
    exact ⟨v, H', J.os, J.bare, J.base, J.hok, r, q'⟩
  | next =>
    obtain ⟨σ', H', J, q'⟩ := z
    exact ⟨V.non, H', J.os, J.bare, J.base, J.hok, rfl, q'⟩
  | brk => exact z.elim fun _ z => z.elim fun _ z => z.2.elim
  | cont => exact z.elim fun _ z => z.elim fun _ z => z.2.elim
/-- a def of the text; the body may raise -/
theorem okX {N : List Str} {x qual : Str} {st : Stmt} (F : Fun K x qual st f fd) (S : FnScope N ps (defScope st)) (ar : ∀ vs H Q E, sp vs H Q E → vs.length = ps.length)
    (hb : ∀ (cdv : Value) (A : Around) (fr : List Env) (s : Shared) (H : Hp) (vs : List V) (Q : VK) (E : XK), A.guards = some [] → Room n (A.deeper (envOfC qual (defScope st) s.heap.objs.size f cdv)) → sp vs H Q E →
      ∃ t, PSs (cxOf C P w K mg bs N qual (defScope st) f cdv A fr s H E) (defBody st) t ∧ t { nx := fun _ H' => Q .non H', rt := Q } (start N vs) H) : Fg P w K mg bs C (n + 1) f fd ps sp := by
  obtain ⟨oc, od, kV, doc, pm, an, cdv, ct, osl, rfl, lk, hc⟩ := F.ex
  exact Fg.mk' lk hc S ar fun A fr s H vs Q E => hb cdv A fr s H vs Q E
/-- a def of the text that lets nothing out -/
theorem ok {N : List Str} {x qual : Str} {st : Stmt} (F : Fun K x qual st f fd) (S : FnScope N ps (defScope st)) (ar : ∀ vs H Q E, sp vs H Q E → vs.length = ps.length)
    (hb : ∀ (cdv : Value) (A : Around) (fr : List Env) (s : Shared) (H : Hp) (vs : List V) (Q : VK) (E : XK), A.guards = some [] → Room n (A.deeper (envOfC qual (defScope st) s.heap.objs.size f cdv)) → sp vs H Q E →
      ∃ t, PSs (cxOf CX0 P w K mg bs N qual (defScope st) f cdv A fr s H E).nox (defBody st) t ∧ t { nx := fun _ H' => Q .non H', rt := Q } (start N vs) H) : Fg P w K mg bs CX0 (n + 1) f fd ps sp := by
  obtain ⟨oc, od, kV, doc, pm, an, cdv, ct, osl, rfl, lk, hc⟩ := F.ex
  refine Fg.mk' lk hc S ar fun A fr s H vs Q E g r q => ?_
  obtain ⟨t, h1, h2⟩ := hb cdv A fr s H vs Q E g r q
  exact ⟨t, h1.nox, h2⟩
end

section
variable {X : Cx} {C : CXT} {n : Nat} {f : Addr} {fd : FuncData} {ps : List Str} {sp : Sp} {dvs : List V} {ds : List Value} {E : XK} {x m : Str} {p pos apos : Pos} {e o : Expr} {es : List Expr} {ta : TE} {t : TA}
theorem goS {pins : List (Addr × Obj)} {σ : L2.St} {H : Hp} {s : Shared} {Q : VK} {us : List Value} {vs : List V} (F : Fg X.prog X.w X.K X.mg X.base C n f fd ps sp) (g : X.A.guards = some []) (r : Room n X.A)
    (b : Binds X.K fd ps ds) (d : Vals dvs ds) {E : XK} (hx : PassesAt C X σ E) (I : Inv X pins σ H s) (v : Vals vs us) (h : sp (vs ++ dvs) H Q E) : wpAny (model X.prog X.w) X.A (call (.ref f) us) (EP X pins σ Q) X.xe s := by
  have v2 : Vals (vs ++ dvs) (us ++ ds) := v.append d
  have hl : (us ++ ds).length = ps.length := v2.length ▸ F.ar _ _ _ _ h
  refine wpAny_call (codeAny_mono (F.go X.A X.stack s H ⟨us, []⟩ (us ++ ds) (vs ++ dvs) Q E g r I.env0 (b s us I.kIn hl) v2 h) fun z s' hz => ?_)
  match z, hz with
  | .error e, hz => exact hx pins H s e s' I hz
  | .ok (.ret u), hz => exact I.after hz
/-- f(..) -/
def tG (sp : Sp) (dvs : List V) (E : L2.St → XK) (t : TA) : TE := fun σ H Q => t σ H fun vs H1 => sp (vs ++ dvs) H1 Q (E σ)
def tMG (C : Addr) (m : Str) (sp : Sp) (dvs : List V) (E : L2.St → XK) (ta : TE) (t : TA) : TE := fun σ H Q => ta σ H fun x H1 => ∃ a dx fs, x = .ref a ∧ H1 a = some (.ins C dx fs) ∧ fs.lookup m = none ∧
  t σ H1 fun vs H2 => sp (x :: (vs ++ dvs)) H2 Q (E σ)
theorem passG {X : Cx} {σ : L2.St} : PassesAt CX0 X σ E0 := fun _ _ _ _ _ _ h => h.elim
theorem pg_call {E : L2.St → XK} (F : Fg X.prog X.w X.K X.mg X.base C n f fd ps sp) (g : X.A.guards = some []) (r : Room n X.A) (hg : Gl X x) (hm : X.mg x = some (.ref f)) (hk : PySem.W.keepIn X.K (.ref f) = true)
    (b : Binds X.K fd ps ds) (d : Vals dvs ds) (hx : ∀ σ, PassesAt C X σ (E σ)) (ha : PA X (e :: es) t) (hdb : (x == ("__debug__" : Str)) = false := by decide)
    (he : starEach (e :: es) X.env = (false, eval e X.env) :: starEach es X.env := by rfl) (hp : (backTo pos (starEach es X.env)).any (·.1) = false := by rfl) :
    PE X (.Call (.Name x p) (e :: es) [] pos) (tG sp dvs E t) := by
  refine ⟨fun pins s σ H Q I h => ?_⟩
  refine wpAny_Call_Name_kw (ld_glob I hg hm (PySem.W.callWith_K (h₀ := X.base) I.ok.mod.kin hk (thn (ha.run pos pins s σ H _ I h) ?_) he hp) hdb)
  rintro us s1 ⟨vs, H1, J, v, q⟩
  exact ⟨J.kIn, goS F g r b d (hx σ) J v q⟩
theorem pg_call0 {E : L2.St → XK} (F : Fg X.prog X.w X.K X.mg X.base C n f fd ps sp) (g : X.A.guards = some []) (r : Room n X.A) (hg : Gl X x) (hm : X.mg x = some (.ref f)) (hk : PySem.W.keepIn X.K (.ref f) = true)
    (b : Binds X.K fd ps ds) (d : Vals dvs ds) (hx : ∀ σ, PassesAt C X σ (E σ)) (hdb : (x == ("__debug__" : Str)) = false := by decide) : PE X (.Call (.Name x p) [] [] pos) (tG sp dvs E tNil) := by
  refine ⟨fun pins s σ H Q I h => ?_⟩
  exact wpAny_Call_Name_kw (ld_glob I hg hm (PySem.W.callWith_K0 I.kIn hk (goS (us := []) F g r b d (hx σ) I .nil h)) hdb)
theorem pg_meth {Cl : Addr} {E : L2.St → XK} {pl : Sem Bool} (he : PE X o ta) (c : Cls X.K Cl) (hm : Meth X.K Cl m f) (F : Fg X.prog X.w X.K X.mg X.base C n f fd ps sp) (g : X.A.guards = some []) (r : Room n X.A)
    (b : Binds X.K fd ps ds) (d : Vals dvs ds) (hx : ∀ σ, PassesAt C X σ (E σ)) (ha : PA X (e :: es) t)
    (hst : starEach (e :: es) X.env = (false, eval e X.env) :: starEach es X.env := by rfl) (hp : (backTo pos (starEach es X.env)).any (·.1) = false := by rfl)
    (ht : eval (.Call (.Attribute o m apos) (e :: es) [] pos) X.env = (do
      let ov ← eval o X.env
      standAt apos.atName
      let (f, first) ← holding [ov] (getMethod ov m pl)
      callWith pos f first (backTo pos (starEach (e :: es) X.env)) (backToKw pos (keywordEach [] X.env))) := by rfl) :
    PE X (.Call (.Attribute o m apos) (e :: es) [] pos) (tMG Cl m sp dvs E ta t) := by
  refine ⟨fun pins s σ H Q I h => ?_⟩
  refine PySem.W.methodCall_KW (pl := pl) (thn (he.run pins s σ H _ I h) ?_) ht
  rintro u s1 ⟨y, H1, J, ry, a, dx, fs, ey, ea, l, q⟩
  subst ey
  obtain rfl : u = Value.ref a := ry
  refine getmeth_ok J ea c hm l (PySem.W.callWith_K (first := [.ref a]) (h₀ := X.base) I.ok.mod.kin hm.kp (thn (ha.run pos pins s1 σ H1 _ J q) ?_) hst hp)
  rintro us s2 ⟨vs, H2, J2, v, q2⟩
  exact ⟨J2.kIn, goS (us := .ref a :: us) (vs := .ref a :: vs) F g r b d (hx σ) J2 (.cons rfl v) q2⟩
theorem pg_meth0 {Cl : Addr} {E : L2.St → XK} {pl : Sem Bool} (he : PE X o ta) (c : Cls X.K Cl) (hm : Meth X.K Cl m f) (F : Fg X.prog X.w X.K X.mg X.base C n f fd ps sp) (g : X.A.guards = some []) (r : Room n X.A)
    (b : Binds X.K fd ps ds) (d : Vals dvs ds) (hx : ∀ σ, PassesAt C X σ (E σ))
    (ht : eval (.Call (.Attribute o m apos) [] [] pos) X.env = (do
      let ov ← eval o X.env
      standAt apos.atName
      let (f, first) ← holding [ov] (getMethod ov m pl)
      callWith pos f first (backTo pos (starEach [] X.env)) (backToKw pos (keywordEach [] X.env))) := by rfl) :
    PE X (.Call (.Attribute o m apos) [] [] pos) (tMG Cl m sp dvs E ta tNil) := by
  refine ⟨fun pins s σ H Q I h => ?_⟩
  refine PySem.W.methodCall_KW (pl := pl) (thn (he.run pins s σ H _ I h) ?_) ht
  rintro u s1 ⟨y, H1, J, ry, a, dx, fs, ey, ea, l, q⟩
  subst ey
  obtain rfl : u = Value.ref a := ry
  exact getmeth_ok J ea c hm l (PySem.W.callWith_K0 (first := [.ref a]) J.kIn hm.kp (goS (us := [.ref a]) (vs := [.ref a]) F g r b d (hx σ) J (.cons rfl .nil) q))
theorem make_guards {A : Around} {D : Addr} {us : List Value} {kw : List (Str × Value)} (g : A.guards = some []) : (A.under (.builtin "type.__call__" ⟨.ref D :: us, kw⟩)).guards = some [] := by
  first
  | exact g
  | (have h : (Code.builtin "type.__call__" ⟨.ref D :: us, kw⟩).guards = [] := by
       first | rfl | simp [Code.guards, Code.isGuard, guardIds]
     show pushGuards _ A.guards = _
     rw [h, g]; rfl)
/-- C(..) -/
def tKG (Cl : Addr) (sp : Sp) (dvs : List V) (E : L2.St → XK) (t : TA) : TE := fun σ H Q => t σ H fun vs H1 => ∀ x dx, H1 x = none → H1 dx = none → dx ≠ x →
  sp (.ref x :: (vs ++ dvs)) (upd (upd H1 dx (.own x)) x (.ins Cl dx [])) (fun v H2 => v = .non ∧ Q (.ref x) H2) (E σ)
theorem goK {Cl : Addr} {pins : List (Addr × Obj)} {σ : L2.St} {H : Hp} {s : Shared} {Q : VK} {us : List Value} {vs : List V} {E : XK} (M : Mk X.K Cl f) (F : Fg X.prog X.w X.K X.mg X.base C n f fd ps sp) (g : X.A.guards = some [])
    (r : Room (n + 1) X.A) (b : Binds X.K fd ps ds) (d : Vals dvs ds) (hx : PassesAt C X σ E) (I : Inv X pins σ H s) (v : Vals vs us)
    (h : ∀ x dx, H x = none → H dx = none → dx ≠ x → sp (.ref x :: (vs ++ dvs)) (upd (upd H dx (.own x)) x (.ins Cl dx [])) (fun v H2 => v = .non ∧ Q (.ref x) H2) E) :
    wpAny (model X.prog X.w) X.A (call (.ref Cl) us) (EP X pins σ Q) X.xe s := by
  have q := h (s.heap.objs.size + 1) s.heap.objs.size (I.hok.fresh (Nat.le_succ _)) (I.hok.fresh (Nat.le_refl _)) (Nat.ne_of_lt (Nat.lt_succ_self _))
  have J := Inv.made (C := Cl) I
  have v2 : Vals (V.ref (s.heap.objs.size + 1) :: (vs ++ dvs)) (Value.ref (s.heap.objs.size + 1) :: (us ++ ds)) := .cons rfl (v.append d)
  have hl : (Value.ref (s.heap.objs.size + 1) :: us ++ ds).length = ps.length := (v2.length.symm.trans (F.ar _ _ _ _ q) : _)
  refine wpAny_call (make_map (f := f) I.kIn M.makes M.init (beq_iff_eq.mp M.fn) (codeAny_mono (F.go _ X.stack _ _ ⟨Value.ref (s.heap.objs.size + 1) :: us, []⟩ (Value.ref (s.heap.objs.size + 1) :: (us ++ ds)) _ _ E
    (make_guards g) (r.make Cl us []) (J.env0.make Cl us []) (b _ (Value.ref (s.heap.objs.size + 1) :: us) J.kIn hl) v2 q) fun z s' hz => ?_))
  match z, hz with
  | .error e, hz => exact hx pins _ _ e s' J hz
  | .ok (.ret u), hz =>
    obtain ⟨y, H', J3, ry, ey, q3⟩ := J.after hz
    subst ey
    exact ⟨ry, ⟨V.ref (s.heap.objs.size + 1), H', J3, rfl, q3⟩⟩
theorem pg_make {Cl : Addr} {E : L2.St → XK} (M : Mk X.K Cl f) (F : Fg X.prog X.w X.K X.mg X.base C n f fd ps sp) (g : X.A.guards = some []) (r : Room (n + 1) X.A) (hg : Gl X x) (hm : X.mg x = some (.ref Cl))
    (b : Binds X.K fd ps ds) (d : Vals dvs ds) (hx : ∀ σ, PassesAt C X σ (E σ)) (ha : PA X (e :: es) t) (hdb : (x == ("__debug__" : Str)) = false := by decide)
    (he : starEach (e :: es) X.env = (false, eval e X.env) :: starEach es X.env := by rfl) (hp : (backTo pos (starEach es X.env)).any (·.1) = false := by rfl) :
    PE X (.Call (.Name x p) (e :: es) [] pos) (tKG Cl sp dvs E t) := by
  refine ⟨fun pins s σ H Q I h => ?_⟩
  refine wpAny_Call_Name_kw (ld_glob I hg hm (PySem.W.callWith_K (h₀ := X.base) I.ok.mod.kin M.kp (thn (ha.run pos pins s σ H _ I h) ?_) he hp) hdb)
  rintro us s1 ⟨vs, H1, J, v, q⟩
  exact ⟨J.kIn, goK M F g r b d (hx σ) J v q⟩
theorem pg_make0 {Cl : Addr} {E : L2.St → XK} (M : Mk X.K Cl f) (F : Fg X.prog X.w X.K X.mg X.base C n f fd ps sp) (g : X.A.guards = some []) (r : Room (n + 1) X.A) (hg : Gl X x) (hm : X.mg x = some (.ref Cl))
    (b : Binds X.K fd ps ds) (d : Vals dvs ds) (hx : ∀ σ, PassesAt C X σ (E σ)) (hdb : (x == ("__debug__" : Str)) = false := by decide) : PE X (.Call (.Name x p) [] [] pos) (tKG Cl sp dvs E tNil) := by
  refine ⟨fun pins s σ H Q I h => ?_⟩
  exact wpAny_Call_Name_kw (ld_glob I hg hm (PySem.W.callWith_K0 I.kIn M.kp (goK (us := []) M F g r b d (hx σ) I .nil h)) hdb)
end

/-! ### the law's own call -/
section
variable {P : Program} {w : World} {K : PySem.W.Frag} {mg mb : Str → Option Value} {C : CXT} {n : Nat} {fa a : Addr} {fd : FuncData} {x : Str} {sp : Sp} {s1 : Shared} {us : List Value} {ns : List Int}
/-- from an abstract heap that tracks the script at most -/
theorem law_from (H : Hp) (KX : K.In s1.heap) (n1 : s1.heap.Ns mainGlobals mg) (n2 : s1.heap.Ns builtinsNs mb) (n3 : ∀ x : Str, x ≠ "__name__" → mb x = bootBuiltins x) (n4 : s1.heap.NoLimit) (n5 : s1.gens = #[])
    (ha : s1.heap.get? a = some { cls := .type "list", data := .seq us.toArray }) (hr : Room n callerA)
    (F : ∀ bs : Heap, K.In bs → bs.Ns mainGlobals mg → (s1.heap.NoSeer → ∃ mm, bs.Ns sysModules mm) → Fg P w K mg bs C n fa fd [x] sp) (hb : ∀ (s : Shared) (u : Value), BindsTo s fd ⟨[u], []⟩ [(x, u)])
    (hO : Only H) (hok : HOk P w H s1.heap) (hA : ∀ b, H b ≠ none → b = a ∧ K.lookup a = none) (q : sp [.ref a] H (fun v _ => v = .bl true) fun _ _ _ => False)
    (hC : ∀ e s', C [] H s1 (fun _ _ _ => False) e s' → False) :
    codeAny (model P w) callerA (.call (.ref fa) ⟨[.ref a], []⟩) (fun r s' => r = .ok (.ret (.bool true)) ∧ OldK s1.heap s'.heap ∧ s'.os = s1.os ∧ AllBare s'.gens) s1 := by
  have nf : ∀ {b : Addr}, b ≠ a → H b = none := fun {b} hb => Classical.byContradiction fun z => hb (hA b z).1
  have und : ∀ {b : Addr} {o : Obj}, s1.heap.get? b = some o → H b = none → (hidT s1.heap H).get? b = some o := fun z1 z2 => hidT_get z1 z2
  have nd : ∀ {b : Addr} {o : Obj} {es : Array DictEntry} {ep : Nat}, s1.heap.get? b = some o → o.data = .dict es ep → H b = none := by
    intro b o es ep z1 z2
    refine nf fun e => ?_
    subst e
    rw [ha] at z1
    cases z1
    exact absurd z2 (by intro z; cases z)
  have nsH : ∀ {b : Addr} {m : Str → Option Value}, s1.heap.Ns b m → (hidT s1.heap H).Ns b m := fun ⟨o, es, ep, z1, z2, r⟩ => ⟨o, es, ep, und z1 (nd z1 z2), z2, r⟩
  have kH : K.In (hidT s1.heap H) := by
    intro b o z
    refine und (KX b o z) (Classical.byContradiction fun c => ?_)
    obtain ⟨e, l⟩ := hA b c
    rw [e, l] at z
    cases z
  have md : Mod K mg (hidT s1.heap H) := ⟨kH, nsH n1, ⟨mb, nsH n2, n3⟩, n4.elim fun mc z => ⟨mc, nsH z.1, z.2⟩⟩
  have e0 : Env0 P w K mg (hidT s1.heap H) callerA [] s1 H := ⟨rfl, md, fun b o z => of_hidT z, Nat.le_of_eq (hidT_size _ _), trivial, fun b z => (List.not_mem_nil z).elim, hok, AllBare.of_eq n5⟩
  refine codeAny_mono ((F _ kH (nsH n1) fun z => z.mods.elim fun mm h => ⟨mm, nsH h.1⟩).go callerA [] s1 H ⟨[.ref a], []⟩ [.ref a] [.ref a] _ _ rfl hr e0 (hb s1 (.ref a)) (.cons rfl .nil) q) fun r s' z => ?_
  match r, z with
  | .error e, z => exact (hC e s' z).elim
  | .ok (.ret u), ⟨v, H', o1, o2, un, hok', rv, ev⟩ =>
    have ev' : v = .bl true := ev
    subst ev'
    obtain rfl : u = Value.bool true := rv
    refine ⟨rfl, OldK.of_keep fun b o z => ?_, o1, o2⟩
    rcases hO b with c | ⟨ob, xs, c⟩
    · exact un.keep b o z c (fun y => (List.not_mem_nil y).elim) (fun y => (List.not_mem_nil y).elim)
    · obtain ⟨z1, _⟩ := hok b _ c
      obtain ⟨z2, _⟩ := hok' b _ (un.frzs b ob _ c)
      rw [z] at z1
      cases z1
      exact z2
theorem law_go (KX : K.In s1.heap) (n1 : s1.heap.Ns mainGlobals mg) (n2 : s1.heap.Ns builtinsNs mb) (n3 : ∀ x : Str, x ≠ "__name__" → mb x = bootBuiltins x) (n4 : s1.heap.NoLimit) (n5 : s1.gens = #[])
    (ha : s1.heap.get? a = some { cls := .type "list", data := .seq us.toArray }) (hi : IntsAre us ns) (hl : ns.length ≤ sizeLine) (hr : Room n callerA)
    (F : ∀ bs : Heap, K.In bs → bs.Ns mainGlobals mg → (s1.heap.NoSeer → ∃ mm, bs.Ns sysModules mm) → Fg P w K mg bs C n fa fd [x] sp) (hb : ∀ (s : Shared) (u : Value), BindsTo s fd ⟨[u], []⟩ [(x, u)])
    (q : ∀ H : Hp, Only H → SqL K H a (ns.map V.int) → sp [.ref a] H (fun v _ => v = .bl true) fun _ _ _ => False) (hC : ∀ H e s', C [] H s1 (fun _ _ _ => False) e s' → False) :
    codeAny (model P w) callerA (.call (.ref fa) ⟨[.ref a], []⟩) (fun r s' => r = .ok (.ret (.bool true)) ∧ OldK s1.heap s'.heap ∧ s'.os = s1.os ∧ AllBare s'.gens) s1 := by
  have lu := hi.length
  cases hk : K.lookup a with
  | some o =>
    have e := KX a o hk
    rw [ha] at e
    cases e
    have hO : Only (fun _ => none) := fun _ => Or.inl rfl
    refine law_from (fun _ => none) KX n1 n2 n3 n4 n5 ha hr F hb hO (fun b u z => (by cases z)) (fun b z => absurd rfl z) (q _ hO (Or.inr ⟨_, us.toArray, _, hk, rfl, rfl, rfl, ?_, ?_⟩)) fun e s' => hC _ e s'
    · rw [List.size_toArray, lu]
      exact hl
    · exact vals_ints hi
  | none =>
    let H0 : Hp := fun b => if b = a then some (.frz { cls := .type "list", data := .seq us.toArray } (.lst (ns.map V.int))) else none
    have h1 : H0 a = some (.frz { cls := .type "list", data := .seq us.toArray } (.lst (ns.map V.int))) := if_pos rfl
    have h2 : ∀ {b : Addr}, b ≠ a → H0 b = none := fun z => if_neg z
    have hO : Only H0 := fun b => by
      by_cases c : b = a
      · subst c
        exact Or.inr ⟨_, _, h1⟩
      · exact Or.inl (h2 c)
    refine law_from H0 KX n1 n2 n3 n4 n5 ha hr F hb hO (fun b u z => ?_) (fun b z => ⟨Classical.byContradiction fun c => z (h2 c), hk⟩) (q _ hO (Or.inl (Or.inr ⟨_, h1⟩))) fun e s' => hC _ e s'
    by_cases c : b = a
    · subst c
      cases h1.symm.trans z
      exact ⟨ha, by rw [List.length_map]; exact hl, us, _, vals_ints hi, ha⟩
    · cases (h2 c).symm.trans z
end
theorem walk_q {l : PySem.W.OpenLaw} {n k : Nat} {q : Program} {loose : List Str} {XP : (Str → Option Value) → Heap → Prop} {YP : World → Heap → Prop} {d : DefRec} {K : Params → PySem.W.Frag} {C : World → CXT} {sp : World → Sp} {x : Str}
    (hn : l.most = some n) (hn2 : n ≤ sizeLine) (hdf : d.params.defaults = []) (hr : Room k callerA) (hY : ∀ (w : World) (h : Heap), YP w h → (K w.params).In h)
    (F : ∀ (w : World) (mg : Str → Option Value) (fa : Addr) (h : Heap), (K w.params).In h → h.Ns mainGlobals mg → mg d.name = some (.ref fa) →
      ∃ fd : FuncData, (∀ (s : Shared) (u : Value), BindsTo s fd ⟨[u], []⟩ [(x, u)]) ∧ ∀ bs : Heap, (K w.params).In bs → bs.Ns mainGlobals mg → (PyProof.Rows.importsNone q = true → ∃ mm, bs.Ns sysModules mm) → Fg l.prog w (K w.params) mg bs (C w) k fa fd [x] (sp w))
    (hsp : ∀ (w : World) (H : Hp) (a : Addr) (ns : List Int), ns.length ≤ n → (∀ z ∈ ns, Builtin.Int.intBits z ≤ 1048576) → Only H → SqL (K w.params) H a (ns.map V.int) → sp w [.ref a] H (fun v _ => v = .bl true) fun _ _ _ => False)
    (hC : ∀ (w : World) (H : Hp) (s : Shared) (e : Value) (s' : Shared), C w [] H s (fun _ _ _ => False) e s' → False) :
    PySem.W.WalkO q loose XP YP l.row.toRowW d [] (fun f vs => PySem.call f vs) := by
  refine Att.attach_callB hn hdf fun w s0 s1 mg mb fa o pm cd doc a us ns G Y ho hd hcd hmg hobj hi hlen hbits hg => ?_
  obtain ⟨fd, hb, hF⟩ := F w mg fa _ (hY w _ Y) G.T.g hmg
  exact law_go (hY w _ Y) G.T.g G.T.b G.T.builtins G.T.nolimit hg hobj hi (Nat.le_trans hlen hn2) hr (fun bs h1 h2 h3 => hF bs h1 h2 fun z => h3 (G.T.seer z)) hb (fun H hO hS => hsp w H a ns hlen hbits hO hS) fun H e s' => hC w H s1 e s'
theorem walk_g {l : PySem.W.OpenLaw} {n k : Nat} {q : Program} {loose : List Str} {XP : (Str → Option Value) → Heap → Prop} {YP : World → Heap → Prop} {d : DefRec} {K : Params → PySem.W.Frag} {C : World → CXT} {sp : World → Sp} {x : Str}
    (hn : l.most = some n) (hn2 : n ≤ sizeLine) (hdf : d.params.defaults = []) (hr : Room k callerA) (hY : ∀ (w : World) (h : Heap), YP w h → (K w.params).In h)
    (F : ∀ (w : World) (mg : Str → Option Value) (fa : Addr) (h : Heap), (K w.params).In h → h.Ns mainGlobals mg → mg d.name = some (.ref fa) →
      ∃ fd : FuncData, (∀ (s : Shared) (u : Value), BindsTo s fd ⟨[u], []⟩ [(x, u)]) ∧ ∀ bs : Heap, (K w.params).In bs → bs.Ns mainGlobals mg → Fg l.prog w (K w.params) mg bs (C w) k fa fd [x] (sp w))
    (hsp : ∀ (w : World) (H : Hp) (a : Addr) (ns : List Int), ns.length ≤ n → (∀ z ∈ ns, Builtin.Int.intBits z ≤ 1048576) → Only H → SqL (K w.params) H a (ns.map V.int) → sp w [.ref a] H (fun v _ => v = .bl true) fun _ _ _ => False)
    (hC : ∀ (w : World) (H : Hp) (s : Shared) (e : Value) (s' : Shared), C w [] H s (fun _ _ _ => False) e s' → False) :
    PySem.W.WalkO q loose XP YP l.row.toRowW d [] (fun f vs => PySem.call f vs) :=
  walk_q hn hn2 hdf hr hY (fun w mg fa h h1 h2 h3 => let ⟨fd, hb, hF⟩ := F w mg fa h h1 h2 h3; ⟨fd, hb, fun bs k1 k2 _ => hF bs k1 k2⟩) hsp hC
end Vg


set_option Elab.async false
set_option linter.all false
set_option maxRecDepth 100000
set_option maxHeartbeats 2000000
namespace Vg
open PySem PySem.Spec PyProof.Rows L2

/-! ### how long a text repr gives -/
theorem lt_one {n : Nat} (ts : List Str) (h : ∀ t ∈ ts, t.length ≤ n) : piled ts ≤ ts.length * (n + 2) := by
  induction ts with
  | nil => exact Nat.zero_le _
  | cons t r ih =>
    have h1 := h t List.mem_cons_self
    have h2 := ih fun u hu => h u (List.mem_cons_of_mem _ hu)
    rw [piled_cons, List.length_cons, Nat.succ_mul]
    omega
theorem listText_le (ts : List Str) : (listText ts).length ≤ piled ts + 2 := by
  cases ts with
  | nil => exact Nat.le_refl _
  | cons t r =>
    have h := textFrom_length_pos r 1 (("[" : Str) ++ (if (0 : Nat) > 0 then ", " else "" : String) ++ t) (Nat.succ_pos 0)
    have e : (("[" : Str) ++ (if (0 : Nat) > 0 then ", " else "" : String) ++ t).length = 1 + t.length := by
      rw [strLen_append, strLen_append]; rfl
    have x : (listText (t :: r)).length = (textFrom 0 "[" (t :: r)).length + 1 := by
      show (textFrom 0 "[" (t :: r) ++ "]").length = _
      rw [strLen_append]; rfl
    have y : textFrom 0 "[" (t :: r) = textFrom 1 (("[" : Str) ++ (if (0 : Nat) > 0 then ", " else "" : String) ++ t) r := rfl
    rw [x, y, h, e, piled_cons]
    omega
theorem shownAll_map : ∀ ds : List PyData, PyData.shownAll ds = ds.map PyData.shown
  | [] => rfl
  | d :: r => by
    rw [PyData.shownAll, shownAll_map r]; rfl
theorem showableAll_all : ∀ ds : List PyData, (∀ d ∈ ds, d.showable = true) → PyData.showableAll ds = true
  | [], _ => rfl
  | d :: r, h => by
    rw [PyData.showableAll, h d List.mem_cons_self, showableAll_all r fun e he => h e (List.mem_cons_of_mem _ he)]; rfl
theorem hasDictAll_all : ∀ ds : List PyData, (∀ d ∈ ds, d.hasDict = false) → PyData.hasDictAll ds = false
  | [], _ => rfl
  | d :: r, h => by
    rw [PyData.hasDictAll, h d List.mem_cons_self, hasDictAll_all r fun e he => h e (List.mem_cons_of_mem _ he)]; rfl
theorem depthAll_le {k : Nat} : ∀ ds : List PyData, (∀ d ∈ ds, d.depth ≤ k) → PyData.depthAll ds ≤ k
  | [], _ => Nat.zero_le _
  | d :: r, h => by
    rw [PyData.depthAll]
    exact Nat.max_le.mpr ⟨h d List.mem_cons_self, depthAll_le r fun e he => h e (List.mem_cons_of_mem _ he)⟩
/-- data that repr writes in at most n signs, nested at most k deep -/
structure Shw (n k : Nat) (d : PyData) : Prop where
  sh : d.showable = true
  nd : d.hasDict = false
  dp : d.depth ≤ k
  sz : d.shown.length ≤ n
theorem Shw.up {n k m j : Nat} {d : PyData} (h : Shw n k d) (h1 : n ≤ m) (h2 : k ≤ j) : Shw m j d := ⟨h.sh, h.nd, Nat.le_trans h.dp h2, Nat.le_trans h.sz h1⟩
theorem Shw.non : Shw 4 1 .none := ⟨rfl, rfl, by decide +kernel, by decide +kernel⟩
theorem Shw.bl (b : Bool) : Shw 5 1 (.bool b) := by cases b <;> exact ⟨rfl, rfl, by decide +kernel, by decide +kernel⟩
theorem Shw.str (x : Str) (h : ∀ c ∈ x.cps.toList, c < 16 ^ 8) : Shw (10 * x.length + 2) 1 (.str x) := ⟨by rw [PyData.showable], by rw [PyData.hasDict], by simp [PyData.depth], by rw [PyData.shown]; exact StrLaws.reprText_len x h⟩
theorem Shw.int {k : Nat} {i : Int} (hk : 0 < k) (hk2 : k ≤ 1920) (h : i.natAbs < 2 ^ k) : Shw (k + 1) 1 (.int i) := by
  refine ⟨?_, by rw [PyData.hasDict], by simp [PyData.depth], ?_⟩
  · rw [PyData.showable]
    exact decide_eq_true (Nat.lt_of_lt_of_le (PySem.Flt.log2_lt_of hk h) hk2)
  · rw [PyData.shown]
    show (Str.ofString (toString i)).length ≤ _
    rw [PySem.ofString_length]
    exact int_text_length_le hk (PySem.Flt.log2_lt_of hk h)
theorem Shw.lst {n k : Nat} {ds : List PyData} (h : ∀ d ∈ ds, Shw n k d) : Shw (ds.length * (n + 2) + 2) (k + 1) (.list ds) := by
  refine ⟨?_, ?_, ?_, ?_⟩
  · rw [PyData.showable]
    exact showableAll_all ds fun d hd => (h d hd).sh
  · rw [PyData.hasDict]
    exact hasDictAll_all ds fun d hd => (h d hd).nd
  · simp only [PyData.depth]
    have := depthAll_le ds fun d hd => (h d hd).dp
    omega
  · rw [PyData.shown, shownAll_map]
    refine Nat.le_trans (listText_le _) ?_
    have := lt_one (n := n) (ds.map PyData.shown) (by
      intro t ht
      obtain ⟨d, hd, rfl⟩ := List.mem_map.mp ht
      exact (h d hd).sz)
    rw [List.length_map] at this
    omega
theorem Shw.tup {n k : Nat} {ds : List PyData} (h : ∀ d ∈ ds, Shw n k d) : Shw (ds.length * (n + 2) + 2) (k + 1) (.tuple ds) := by
  refine ⟨?_, ?_, ?_, ?_⟩
  · rw [PyData.showable]
    exact showableAll_all ds fun d hd => (h d hd).sh
  · rw [PyData.hasDict]
    exact hasDictAll_all ds fun d hd => (h d hd).nd
  · simp only [PyData.depth]
    have := depthAll_le ds fun d hd => (h d hd).dp
    omega
  · rw [PyData.shown, shownAll_map]
    refine Nat.le_trans (fmt_text _) ?_
    have := lt_one (n := n) (ds.map PyData.shown) (by
      intro t ht
      obtain ⟨d, hd, rfl⟩ := List.mem_map.mp ht
      exact (h d hd).sz)
    rw [List.length_map] at this
    omega

/-! ### repr -/
def rRepr (K : PySem.W.Frag) : List V → Hp → VK → Prop := fun xs H Q => ∃ x d, xs = [x] ∧ Dp K H x d ∧ Shw 16000000 60 d ∧ Q (.str d.shown) H
theorem call_repr {X : Cx} {n : Nat} (g : X.A.guards = some []) (r : Room n X.A) : CallR X (.builtin "repr") (rRepr X.K) := by
  intro pins s σ H xs us Q I rv h
  obtain ⟨x, d, rfl, hd, sw, q⟩ := h
  obtain ⟨u, rfl, ru⟩ := vals1 rv
  have hz : d.shown.length ≤ sizeLine := Nat.le_trans sw.sz (by decide)
  have hu := r.units
  cases hd with
  | non =>
    cases ru
    rw [PyData.shown] at q
    exact PySem.P.repr_of_none ⟨.str _, H, I.tok _, ⟨_, rfl⟩, q⟩
  | bl b =>
    cases ru
    rw [PyData.shown] at q
    exact PySem.P.repr_of_bool ⟨.str _, H, I.tok _, ⟨_, rfl⟩, q⟩
  | int i =>
    obtain ⟨t, rfl⟩ := ru
    have hs := sw.sh
    rw [PyData.showable] at hs
    rw [PyData.shown] at q
    exact PySem.P.repr_of_int (of_decide_eq_true hs) ⟨.str _, H, I.tok _, ⟨_, rfl⟩, q⟩
  | str y =>
    obtain ⟨t, rfl⟩ := ru
    rw [PyData.shown] at hz q
    exact PySem.P.repr_of_str ⟨.str _, H, I.tok _, ⟨_, rfl⟩, q⟩ hz
  | lst hs ha =>
    obtain rfl : u = Value.ref _ := ru
    obtain ⟨as, rd⟩ := Dp.reads I _ _ _ (Dp.lst hs ha) rfl
    refine repr_of_reads' rd sw.sh (fun z => by rw [sw.nd] at z; cases z) g (by have := sw.dp; omega) (fun _ _ z => z) (fun h' u tk hk => ?_) hz
    exact ⟨.str _, H, I.call' (s' := { s with heap := h', toks := tk }) (ch := []) rfl (Un.kept hk) (I.hok.kept hk) I.bare (fun b z => (List.not_mem_nil z).elim), ⟨u, rfl⟩, q⟩
  | tup hs ha =>
    obtain rfl : u = Value.ref _ := ru
    obtain ⟨as, rd⟩ := Dp.reads I _ _ _ (Dp.tup hs ha) rfl
    refine repr_of_reads' rd sw.sh (fun z => by rw [sw.nd] at z; cases z) g (by have := sw.dp; omega) (fun _ _ z => z) (fun h' u tk hk => ?_) hz
    exact ⟨.str _, H, I.call' (s' := { s with heap := h', toks := tk }) (ch := []) rfl (Un.kept hk) (I.hok.kept hk) I.bare (fun b z => (List.not_mem_nil z).elim), ⟨u, rfl⟩, q⟩

/-! ### x ** k of great numbers -/
theorem op_powW {X : Cx} : OpR X (binaryOp .Pow) (rI (fun i j => 0 ≤ j ∧ (Builtin.Int.intBits i : Int) * j ≤ 2 ^ 27) fun i j => .int (i ^ j.toNat)) := opI fun _ _ _ _ _ _ _ hc q => pow_int hc.1 hc.2 q
theorem bits_le {i : Int} {n : Nat} (hn : 0 < n) (h : i.natAbs < 2 ^ n) : Builtin.Int.intBits i ≤ n := by
  have := PySem.Flt.log2_lt_of hn h
  unfold Builtin.Int.intBits
  split <;> omega
end Vg


set_option Elab.async false
set_option linter.all false
set_option maxRecDepth 100000
set_option maxHeartbeats 2000000
namespace Vg
open PySem PySem.Spec PyProof.Rows L2

/-! ### the ledger: over a heap B that stands, what is owned -/
structure Led (B H : Hp) (l : List (Addr × HO)) : Prop where
  sm : Same B H
  nd : (l.map (·.1)).Nodup
  fr : ∀ e ∈ l, B e.1 = none
  hs : ∀ e ∈ l, H e.1 = some e.2
inductive Put : List (Addr × HO) → Addr → HO → List (Addr × HO) → Prop
  | hd {p : Addr} {o o' : HO} {l : List (Addr × HO)} : Put ((p, o) :: l) p o' ((p, o') :: l)
  | tl {e : Addr × HO} {p : Addr} {o' : HO} {l l' : List (Addr × HO)} : Put l p o' l' → Put (e :: l) p o' (e :: l')
/-- the entries of l' are, one by one, entries of l -/
inductive Pick : List (Addr × HO) → Addr × HO → List (Addr × HO) → Prop
  | hd {e : Addr × HO} {l : List (Addr × HO)} : Pick (e :: l) e l
  | tl {d e : Addr × HO} {l l' : List (Addr × HO)} : Pick l e l' → Pick (d :: l) e (d :: l')
inductive Sel : List (Addr × HO) → List (Addr × HO) → Prop
  | nil {l : List (Addr × HO)} : Sel l []
  | all {l : List (Addr × HO)} : Sel l l
  | cons {e : Addr × HO} {l r l' : List (Addr × HO)} : Pick l e r → Sel r l' → Sel l (e :: l')
  | skip {e : Addr × HO} {l l' : List (Addr × HO)} : Sel l l' → Sel (e :: l) l'
section
variable {B H : Hp} {l l' : List (Addr × HO)} {p q : Addr} {o o' : HO}
theorem Led.nil (H : Hp) : Led H H [] := ⟨Same.refl H, List.nodup_nil, fun _ h => (List.not_mem_nil h).elim, fun _ h => (List.not_mem_nil h).elim⟩
theorem Led.at (L : Led B H l) (h : (p, o) ∈ l) : H p = some o := L.hs _ h
theorem Led.seq {K : PySem.W.Frag} {a : Addr} {xs : List V} (L : Led B H l) (h : SqL K B a xs) : SqL K H a xs := L.sm.seq h
theorem Led.lstAt {K : PySem.W.Frag} {a : Addr} {xs : List V} (L : Led B H l) (h : (a, HO.lst xs) ∈ l) : SqL K H a xs := Or.inl (Or.inl (L.at h))
theorem Led.tupAt {K : PySem.W.Frag} {a : Addr} {xs : List V} (L : Led B H l) (h : (a, HO.tup xs) ∈ l) : SqT K H a xs := Or.inl (Or.inl (L.at h))
theorem Led.new (L : Led B H l) (h : H p = none) : Led B (upd H p o) ((p, o) :: l) := by
  have hb : B p = none := L.sm.free h
  have ne : ∀ e ∈ l, e.1 ≠ p := fun e he z => by
    have := L.hs e he
    rw [z, h] at this
    cases this
  refine ⟨fun a u z => ?_, ?_, fun e he => ?_, fun e he => ?_⟩
  · rw [upd_ne (ne_of_none (L.sm a u z) h)]
    exact L.sm a u z
  · rw [List.map_cons]
    refine List.nodup_cons.mpr ⟨fun z => ?_, L.nd⟩
    obtain ⟨e, he, e2⟩ := List.mem_map.mp z
    exact ne e he e2
  · rcases List.mem_cons.mp he with z | z
    · rw [z]; exact hb
    · exact L.fr e z
  · rcases List.mem_cons.mp he with z | z
    · rw [z]; exact upd_same
    · rw [upd_ne (ne e z)]; exact L.hs e z
theorem Put.map (h : Put l p o' l') : l'.map (·.1) = l.map (·.1) := by
  induction h with
  | hd => rfl
  | tl _ ih => rw [List.map_cons, List.map_cons, ih]
theorem Put.mem (h : Put l p o' l') : ∀ e ∈ l', e = (p, o') ∨ e ∈ l := by
  induction h with
  | hd => intro e he; exact (List.mem_cons.mp he).imp id fun z => List.mem_cons_of_mem _ z
  | tl _ ih =>
    intro e he
    rcases List.mem_cons.mp he with z | z
    · exact Or.inr (z ▸ List.mem_cons_self)
    · exact (ih e z).imp id fun z => List.mem_cons_of_mem _ z
theorem Put.of (h : Put l p o' l') : p ∈ l.map (·.1) := by
  induction h with
  | hd => exact List.mem_cons_self
  | tl _ ih => exact List.mem_cons_of_mem _ ih
theorem Put.pm (h : Put l p o' l') : (p, o') ∈ l' := by
  induction h with
  | hd => exact List.mem_cons_self
  | tl _ ih => exact List.mem_cons_of_mem _ ih
theorem mem_apart {l : List (Addr × HO)} (nd : (l.map (·.1)).Nodup) {e d : Addr × HO} (h1 : e ∈ l) (h2 : d ∈ l) (h : e.1 = d.1) : e = d := by
  induction l with
  | nil => cases h1
  | cons x r ih =>
    rw [List.map_cons] at nd
    obtain ⟨n1, n2⟩ := List.nodup_cons.mp nd
    rcases List.mem_cons.mp h1 with z1 | z1
    · rcases List.mem_cons.mp h2 with z2 | z2
      · rw [z1, z2]
      · exact (n1 (by rw [← z1, h]; exact List.mem_map_of_mem z2)).elim
    · rcases List.mem_cons.mp h2 with z2 | z2
      · exact (n1 (by rw [← z2, ← h]; exact List.mem_map_of_mem z1)).elim
      · exact ih n2 z1 z2
theorem Led.put (L : Led B H l) (h : Put l p o' l') : Led B (upd H p o') l' := by
  obtain ⟨e0, he0, e1⟩ := List.mem_map.mp h.of
  have hp : B p = none := by rw [← e1]; exact L.fr e0 he0
  have nd' : (l'.map (·.1)).Nodup := by rw [h.map]; exact L.nd
  have pm : (p, o') ∈ l' := h.pm
  refine ⟨fun a u z => ?_, nd', fun e he => ?_, fun e he => ?_⟩
  · rw [upd_ne (ne_of_none z hp)]
    exact L.sm a u z
  · rcases h.mem e he with z | z
    · rw [z]; exact hp
    · exact L.fr e z
  · by_cases c : e.1 = p
    · have e2 : e = (p, o') := mem_apart nd' he pm c
      rw [e2]; exact upd_same
    · rw [upd_ne c]
      rcases h.mem e he with z | z
      · exact absurd (by rw [z]) c
      · exact L.hs e z
theorem Pick.sub {e : Addr × HO} (h : Pick l e l') : (∀ d ∈ e :: l', d ∈ l) ∧ ((l.map (·.1)).Nodup → ((e :: l').map (·.1)).Nodup) := by
  induction h with
  | hd => exact ⟨fun _ h => h, fun h => h⟩
  | @tl d e l l' _ ih =>
    refine ⟨fun c hc => ?_, fun n => ?_⟩
    · rcases List.mem_cons.mp hc with z | z
      · exact List.mem_cons_of_mem _ (ih.1 c (z ▸ List.mem_cons_self))
      · rcases List.mem_cons.mp z with z | z
        · exact z ▸ List.mem_cons_self
        · exact List.mem_cons_of_mem _ (ih.1 c (List.mem_cons_of_mem _ z))
    · rw [List.map_cons] at n
      obtain ⟨n1, n2⟩ := List.nodup_cons.mp n
      have n3 := ih.2 n2
      rw [List.map_cons] at n3
      obtain ⟨n4, n5⟩ := List.nodup_cons.mp n3
      rw [List.map_cons, List.map_cons]
      refine List.nodup_cons.mpr ⟨fun z => ?_, List.nodup_cons.mpr ⟨fun z => ?_, n5⟩⟩
      · rcases List.mem_cons.mp z with z | z
        · exact n1 (by rw [← z]; exact List.mem_map_of_mem (ih.1 e List.mem_cons_self))
        · exact n4 z
      · obtain ⟨c, hc, ec⟩ := List.mem_map.mp z
        exact n1 (by rw [← ec]; exact List.mem_map_of_mem (ih.1 c (List.mem_cons_of_mem _ hc)))
theorem Sel.sub (h : Sel l l') : (∀ d ∈ l', d ∈ l) ∧ ((l.map (·.1)).Nodup → (l'.map (·.1)).Nodup) := by
  induction h with
  | nil => exact ⟨fun _ h => (List.not_mem_nil h).elim, fun _ => List.nodup_nil⟩
  | all => exact ⟨fun _ h => h, fun h => h⟩
  | @skip e l l' _ ih => exact ⟨fun d hd => List.mem_cons_of_mem _ (ih.1 d hd), fun n => ih.2 (by rw [List.map_cons] at n; exact (List.nodup_cons.mp n).2)⟩
  | @cons e l r l' hp hs ih =>
    obtain ⟨p1, p2⟩ := hp.sub
    refine ⟨fun d hd => ?_, fun n => ?_⟩
    · rcases List.mem_cons.mp hd with z | z
      · exact p1 d (z ▸ List.mem_cons_self)
      · exact p1 d (List.mem_cons_of_mem _ (ih.1 d z))
    · have n2 := p2 n
      rw [List.map_cons] at n2
      obtain ⟨n3, n4⟩ := List.nodup_cons.mp n2
      rw [List.map_cons]
      refine List.nodup_cons.mpr ⟨fun z => n3 ?_, ih.2 n4⟩
      obtain ⟨d, hd, ed⟩ := List.mem_map.mp z
      rw [← ed]; exact List.mem_map_of_mem (ih.1 d hd)
/-- keep some entries, in any order -/
theorem Led.sel (L : Led B H l) (h : Sel l l') : Led B H l' := ⟨L.sm, h.sub.2 L.nd, fun e he => L.fr e (h.sub.1 e he), fun e he => L.hs e (h.sub.1 e he)⟩
theorem Led.drop {n : Nat} (L : Led B H l) : Led B H (l.drop n) := ⟨L.sm, (L.nd.sublist ((List.drop_sublist n l).map _)), fun e he => L.fr e (List.mem_of_mem_drop he), fun e he => L.hs e (List.mem_of_mem_drop he)⟩
/-- what a callee, that was given H as a base, leaves -/
theorem Led.join {H' : Hp} {m : List (Addr × HO)} (L : Led B H l) (M : Led H H' m) : Led B H' (m ++ l) := by
  refine ⟨L.sm.trans M.sm, ?_, fun e he => ?_, fun e he => ?_⟩
  · rw [List.map_append]
    refine List.nodup_append.mpr ⟨M.nd, L.nd, fun a ha b hb z => ?_⟩
    obtain ⟨e, he, e1⟩ := List.mem_map.mp ha
    obtain ⟨d, hd, d1⟩ := List.mem_map.mp hb
    have h1 := M.fr e he
    have h2 := L.hs d hd
    rw [e1, z] at h1
    rw [d1, h1] at h2
    cases h2
  · rcases List.mem_append.mp he with z | z
    · exact L.sm.free (M.fr e z)
    · exact L.fr e z
  · rcases List.mem_append.mp he with z | z
    · exact M.hs e z
    · exact M.sm _ _ (L.hs e z)
theorem Led.same {H' : Hp} (L : Led B H l) (s : Same H H') : Led B H' l := ⟨L.sm.trans s, L.nd, L.fr, fun e he => s _ _ (L.hs e he)⟩
theorem Led.base {B' : Hp} (L : Led B H l) (h : Same B' B) : Led B' H l := ⟨h.trans L.sm, L.nd, fun e he => h.free (L.fr e he), L.hs⟩
theorem less_put {l : List (Addr × HO)} (L : Led B H ((p, o) :: l)) : Led (upd B p o) H l := by
  have nd := L.nd
  rw [List.map_cons] at nd
  obtain ⟨n1, n2⟩ := List.nodup_cons.mp nd
  refine ⟨fun a u z => ?_, n2, fun e he => ?_, fun e he => L.hs e (List.mem_cons_of_mem _ he)⟩
  · by_cases c : a = p
    · subst c
      rw [upd_same] at z
      cases z
      exact L.hs _ List.mem_cons_self
    · rw [upd_ne c] at z
      exact L.sm a u z
  · rw [upd_ne fun z => n1 (by rw [← z]; exact List.mem_map.mpr ⟨e, he, rfl⟩)]
    exact L.fr e (List.mem_cons_of_mem _ he)
/-- what will not change any more goes to the base -/
theorem Led.sink (L : Led B H ((p, o) :: l)) : ∃ B', Same B B' ∧ B' p = some o ∧ Led B' H l := ⟨upd B p o, fun a u z => by rw [upd_ne (ne_of_none z (L.fr _ List.mem_cons_self))]; exact z, upd_same, less_put L⟩
/-- the heap without what is owned -/
def less (H : Hp) (ps : List Addr) : Hp := fun a => if a ∈ ps then none else H a
theorem Led.ofLess {l : List (Addr × HO)} (n : (l.map (·.1)).Nodup) (h : ∀ e ∈ l, H e.1 = some e.2) : Led (less H (l.map (·.1))) H l := by
  refine ⟨fun a u z => ?_, n, fun e he => ?_, h⟩
  · unfold less at z
    split at z
    · cases z
    · exact z
  · unfold less
    rw [if_pos (List.mem_map_of_mem he)]
end

/-! ### the readings, one step each -/
/-- a new object -/
def NewK (o : HO) (H : Hp) (G : Addr → Hp → Prop) : Prop := ∀ p, H p = none → G p (upd H p o)
/-- a list's item, a tuple's -/
def IxLK (K : PySem.W.Frag) (p : Addr) (i : Int) (H : Hp) (G : V → Prop) : Prop := ∃ xs v, SqL K H p xs ∧ atI xs i = some v ∧ G v
def IxTK (K : PySem.W.Frag) (p : Addr) (i : Int) (H : Hp) (G : V → Prop) : Prop := ∃ xs v, SqT K H p xs ∧ atI xs i = some v ∧ G v
/-- p[i] = v, p.append(v), p.extend(q) -/
def SetK (p : Addr) (i : Int) (v : V) (H : Hp) (G : Hp → Prop) : Prop := ∃ xs j, H p = some (.lst xs) ∧ ixN xs.length i = some j ∧ G (upd H p (.lst (xs.set j v)))
def AppK (p : Addr) (v : V) (H : Hp) (G : Hp → Prop) : Prop := ∃ xs, H p = some (.lst xs) ∧ xs.length < sizeLine ∧ G (upd H p (.lst (xs ++ [v])))
def ExtK (p q : Addr) (H : Hp) (G : Hp → Prop) : Prop := ∃ xs ys, H p = some (.lst xs) ∧ H q = some (.lst ys) ∧ xs.length + ys.length ≤ sizeLine ∧ G (upd H p (.lst (xs ++ ys)))
def CatK (p q : Addr) (H : Hp) (G : Addr → Hp → Prop) : Prop := ∃ xs ys, H p = some (.lst xs) ∧ H q = some (.lst ys) ∧ xs.length + ys.length ≤ sizeLine ∧ NewK (.lst (xs ++ ys)) H G
def LenK (K : PySem.W.Frag) (p : Addr) (H : Hp) (G : Int → Prop) : Prop := ∃ xs : List V, (SqL K H p xs ∨ SqT K H p xs) ∧ G xs.length
/-- a tuple's items, n of them -/
def UnpK (K : PySem.W.Frag) (p : Addr) (n : Nat) (H : Hp) (G : List V → Prop) : Prop := ∃ xs, SqT K H p xs ∧ xs.length = n ∧ G xs
def IterLK (K : PySem.W.Frag) (p : Addr) (H : Hp) (G : Prop) : Prop := (∃ xs, SqL K H p xs) ∧ G
def SlLK (K : PySem.W.Frag) (p : Addr) (lo hi : Option Int) (H : Hp) (G : Addr → Hp → Prop) : Prop := ∃ xs, SqL K H p xs ∧ NewK (.lst (cutV xs lo hi)) H G
/-- repr(x) -/
def RepK (K : PySem.W.Frag) (x : V) (H : Hp) (G : Str → Prop) : Prop := ∃ d, Dp K H x d ∧ Shw 16000000 60 d ∧ G d.shown
def InK (K : PySem.W.Frag) (neg : Bool) (x : V) (p : Addr) (H : Hp) (G : Bool → Prop) : Prop := ∃ xs, (SqL K H p xs ∨ SqT K H p xs) ∧ flatV x = true ∧ xs.all flatV = true ∧ G (if neg then !inV x xs else inV x xs)
section
variable {K : PySem.W.Frag} {B H : Hp} {l l' : List (Addr × HO)} {p q : Addr} {o : HO} {i : Int} {v : V} {xs ys : List V} {n : Nat}
theorem NewK.of {G : Addr → Hp → Prop} (L : Led B H l) (k : ∀ p H1, Led B H1 ((p, o) :: l) → G p H1) : NewK o H G := fun p hp => k p _ (L.new hp)
theorem NewK.ofS {G : Addr → Hp → Prop} (k : ∀ p H1, Same H H1 → H p = none → H1 p = some o → G p H1) : NewK o H G := fun p hp => k p _ (fun a u z => by rw [upd_ne (ne_of_none z hp)]; exact z) hp upd_same
theorem IxLK.of {G : V → Prop} (h : SqL K H p xs) (a : atI xs i = some v) (k : G v) : IxLK K p i H G := ⟨xs, v, h, a, k⟩
theorem IxTK.of {G : V → Prop} (h : SqT K H p xs) (a : atI xs i = some v) (k : G v) : IxTK K p i H G := ⟨xs, v, h, a, k⟩
theorem SetK.of {G : Hp → Prop} {j : Nat} (L : Led B H l) (h : (p, HO.lst xs) ∈ l) (a : ixN xs.length i = some j) (t : Put l p (.lst (xs.set j v)) l') (k : ∀ H1, Led B H1 l' → G H1) : SetK p i v H G := ⟨xs, j, L.at h, a, k _ (L.put t)⟩
theorem AppK.of {G : Hp → Prop} (L : Led B H l) (h : (p, HO.lst xs) ∈ l) (a : xs.length < sizeLine) (t : Put l p (.lst (xs ++ [v])) l') (k : ∀ H1, Led B H1 l' → G H1) : AppK p v H G := ⟨xs, L.at h, a, k _ (L.put t)⟩
theorem ExtK.of {G : Hp → Prop} (L : Led B H l) (h : (p, HO.lst xs) ∈ l) (h2 : (q, HO.lst ys) ∈ l) (a : xs.length + ys.length ≤ sizeLine) (t : Put l p (.lst (xs ++ ys)) l') (k : ∀ H1, Led B H1 l' → G H1) : ExtK p q H G := ⟨xs, ys, L.at h, L.at h2, a, k _ (L.put t)⟩
theorem CatK.of {G : Addr → Hp → Prop} (L : Led B H l) (h : (p, HO.lst xs) ∈ l) (h2 : (q, HO.lst ys) ∈ l) (a : xs.length + ys.length ≤ sizeLine) (k : ∀ p H1, Led B H1 ((p, .lst (xs ++ ys)) :: l) → G p H1) : CatK p q H G := ⟨xs, ys, L.at h, L.at h2, a, NewK.of L k⟩
theorem LenK.ofL {G : Int → Prop} (h : SqL K H p xs) (k : G xs.length) : LenK K p H G := ⟨xs, Or.inl h, k⟩
theorem LenK.ofT {G : Int → Prop} (h : SqT K H p xs) (k : G xs.length) : LenK K p H G := ⟨xs, Or.inr h, k⟩
theorem UnpK.of {G : List V → Prop} (h : SqT K H p xs) (e : xs.length = n) (k : G xs) : UnpK K p n H G := ⟨xs, h, e, k⟩
theorem IterLK.of {G : Prop} (h : SqL K H p xs) (k : G) : IterLK K p H G := ⟨⟨xs, h⟩, k⟩
theorem SlLK.of {G : Addr → Hp → Prop} {lo hi : Option Int} (L : Led B H l) (h : SqL K H p xs) (k : ∀ p H1, Led B H1 ((p, .lst (cutV xs lo hi)) :: l) → G p H1) : SlLK K p lo hi H G := ⟨xs, h, NewK.of L k⟩
variable {Q : VK} {j : Int}
theorem x_I {C : Int → Int → Prop} {g : Int → Int → V} : rI C g (.int i) (.int j) H Q ↔ C i j ∧ Q (g i j) H := ⟨fun ⟨_, _, e1, e2, c, q⟩ => by cases e1; cases e2; exact ⟨c, q⟩, fun ⟨c, q⟩ => ⟨i, j, rfl, rfl, c, q⟩⟩
theorem x_I0 {g : Int → Int → V} : rI0 g (.int i) (.int j) H Q ↔ Q (g i j) H := ⟨fun ⟨_, _, e1, e2, q⟩ => by cases e1; cases e2; exact q, fun q => ⟨i, j, rfl, rfl, q⟩⟩
theorem x_U {g : Int → V} : rU g (.int i) H Q ↔ Q (g i) H := ⟨fun ⟨_, e1, q⟩ => by cases e1; exact q, fun q => ⟨i, rfl, q⟩⟩
theorem x_eq {x y : V} : rEq x y H Q ↔ scal x y = true ∧ Q (.bl (decide (x = y))) H := ⟨fun h => h, fun h => h⟩
theorem x_ne {x y : V} : rNe x y H Q ↔ scal x y = true ∧ Q (.bl (!decide (x = y))) H := ⟨fun h => h, fun h => h⟩
theorem x_ixL : rIxL K (.ref p) (.int i) H Q ↔ IxLK K p i H fun v => Q v H := ⟨fun ⟨_, xs, _, v, e1, e2, a, b, q⟩ => by cases e1; cases e2; exact ⟨xs, v, a, b, q⟩, fun ⟨xs, v, a, b, q⟩ => ⟨p, xs, i, v, rfl, rfl, a, b, q⟩⟩
theorem x_ixT : rIxT K (.ref p) (.int i) H Q ↔ IxTK K p i H fun v => Q v H := ⟨fun ⟨_, xs, _, v, e1, e2, a, b, q⟩ => by cases e1; cases e2; exact ⟨xs, v, a, b, q⟩, fun ⟨xs, v, a, b, q⟩ => ⟨p, xs, i, v, rfl, rfl, a, b, q⟩⟩
theorem x_setL {N : Hp → Prop} : rSetL (.ref p) (.int i) v H N ↔ SetK p i v H N := ⟨fun ⟨_, xs, _, j, e1, e2, a, b, q⟩ => by cases e1; cases e2; exact ⟨xs, j, a, b, q⟩, fun ⟨xs, j, a, b, q⟩ => ⟨p, xs, i, j, rfl, rfl, a, b, q⟩⟩
theorem x_app : rAppend (.ref p) [v] H Q ↔ AppK p v H fun H1 => Q .non H1 := ⟨fun ⟨_, xs, _, e1, e2, a, b, q⟩ => by cases e1; cases e2; exact ⟨xs, a, b, q⟩, fun ⟨xs, a, b, q⟩ => ⟨p, xs, v, rfl, rfl, a, b, q⟩⟩
theorem x_ext : rExtend (.ref p) [.ref q] H Q ↔ ExtK p q H fun H1 => Q .non H1 := ⟨fun ⟨_, _, xs, ys, e1, e2, a, b, c, q⟩ => by cases e1; cases e2; exact ⟨xs, ys, a, b, c, q⟩, fun ⟨xs, ys, a, b, c, q'⟩ => ⟨p, q, xs, ys, rfl, rfl, a, b, c, q'⟩⟩
theorem x_cat : rCat (.ref p) (.ref q) H Q ↔ CatK p q H fun r H1 => Q (.ref r) H1 := ⟨fun ⟨_, _, xs, ys, e1, e2, a, b, c, q⟩ => by cases e1; cases e2; exact ⟨xs, ys, a, b, c, q⟩, fun ⟨xs, ys, a, b, c, q'⟩ => ⟨p, q, xs, ys, rfl, rfl, a, b, c, q'⟩⟩
theorem x_slL {lo hi : Option Int} : rSlL K (.ref p) lo hi H Q ↔ SlLK K p lo hi H fun r H1 => Q (.ref r) H1 := ⟨fun ⟨_, xs, e1, a, q⟩ => by cases e1; exact ⟨xs, a, q⟩, fun ⟨xs, a, q⟩ => ⟨p, xs, rfl, a, q⟩⟩
theorem x_in {neg : Bool} {x : V} : rIn K neg x (.ref p) H Q ↔ InK K neg x p H fun b => Q (.bl b) H := ⟨fun ⟨_, xs, e1, a, b, c, q⟩ => by cases e1; exact ⟨xs, a, b, c, q⟩, fun ⟨xs, a, b, c, q⟩ => ⟨p, xs, rfl, a, b, c, q⟩⟩
theorem x_repr {x : V} : rRepr K [x] H Q ↔ RepK K x H fun t => Q (.str t) H := ⟨fun ⟨_, d, e1, a, b, q⟩ => by cases e1; exact ⟨d, a, b, q⟩, fun ⟨d, a, b, q⟩ => ⟨x, d, rfl, a, b, q⟩⟩
end
section
variable {σ : L2.St} {H : Hp} {Q : VK} {D : Ends} {ta tb te : TE} {t u : TT} {s1 s2 : TS} {v : V} {i n : Nat} {r : R2} {K : PySem.W.Frag} {TQ : Bool → Hp → Prop} {AQ : List V → Hp → Prop} {al : TA}
theorem e_var : tVar i σ H Q = ∃ v, σ[i]? = some (some v) ∧ Q v H := propext ⟨fun h => h, fun h => h⟩
theorem e_c : tC v σ H Q = Q v H := propext ⟨fun h => h, fun h => h⟩
theorem e_op : tOp r ta tb σ H Q = ta σ H fun x H1 => tb σ H1 fun y H2 => r x y H2 Q := propext ⟨fun h => h, fun h => h⟩
theorem e_un {r : V → Hp → VK → Prop} : tUn r ta σ H Q = ta σ H fun x H1 => r x H1 Q := propext ⟨fun h => h, fun h => h⟩
theorem e_if : tIf t ta tb σ H Q = t σ H fun c H1 => if c = true then ta σ H1 Q else tb σ H1 Q := propext ⟨fun h => h, fun h => h⟩
theorem e_andV : tAndV ta tb σ H Q = ta σ H fun x H1 => ∃ c, x = .bl c ∧ if c = true then tb σ H1 Q else Q (.bl false) H1 := propext ⟨fun h => h, fun h => h⟩
theorem e_orV : tOrV ta tb σ H Q = ta σ H fun x H1 => ∃ c, x = .bl c ∧ if c = true then Q (.bl true) H1 else tb σ H1 Q := propext ⟨fun h => h, fun h => h⟩
theorem e_notV : tNotV ta σ H Q = ta σ H fun x H1 => ∃ c, x = .bl c ∧ Q (.bl (!c)) H1 := propext ⟨fun h => h, fun h => h⟩
theorem e_lst : tLst al σ H Q = al σ H fun xs H1 => xs.length ≤ sizeLine ∧ NewK (.lst xs) H1 fun p H2 => Q (.ref p) H2 := propext ⟨fun h => h, fun h => h⟩
theorem e_tup : tTup al σ H Q = al σ H fun xs H1 => xs.length ≤ sizeLine ∧ NewK (.tup xs) H1 fun p H2 => Q (.ref p) H2 := propext ⟨fun h => h, fun h => h⟩
theorem e_CB {r : List V → Hp → VK → Prop} : tCB r al σ H Q = al σ H fun vs H1 => r vs H1 Q := propext ⟨fun h => h, fun h => h⟩
theorem e_BM {T : String} {r : V → List V → Hp → VK → Prop} : tBM K T r ta al σ H Q = ta σ H fun x H1 => tyV K T x H1 ∧ al σ H1 fun xs H2 => r x xs H2 Q := propext ⟨fun h => h, fun h => h⟩
theorem e_BM0 {T : String} {r : V → List V → Hp → VK → Prop} : tBM0 K T r ta σ H Q = ta σ H fun x H1 => tyV K T x H1 ∧ r x [] H1 Q := propext ⟨fun h => h, fun h => h⟩
theorem e_G {sp : Sp} {dvs : List V} {E : L2.St → XK} : tG sp dvs E al σ H Q = al σ H fun vs H1 => sp (vs ++ dvs) H1 Q (E σ) := propext ⟨fun h => h, fun h => h⟩
theorem e_chain {r r' : R2} {tc : TE} : tChain r r' ta tb tc σ H Q = ta σ H fun x H1 => tb σ H1 fun y H2 => r x y H2 fun z H3 => ∃ k, z = .bl k ∧ if k = true then tc σ H3 fun z H4 => r' y z H4 Q else Q (.bl false) H3 := propext ⟨fun h => h, fun h => h⟩
theorem e_sl {r : V → Option Int → Option Int → Hp → VK → Prop} {tl th : TO} : tSl r te tl th σ H Q = te σ H fun x H1 => tl σ H1 fun l H2 => th σ H2 fun u H3 => r x l u H3 Q := propext ⟨fun h => h, fun h => h⟩
theorem e_part {OQ : Option Int → Hp → Prop} : tPart te σ H OQ = te σ H fun x H1 => ∃ i, x = .int i ∧ OQ (some i) H1 := propext ⟨fun h => h, fun h => h⟩
theorem e_nopart {OQ : Option Int → Hp → Prop} : tNoPart σ H OQ = OQ none H := propext ⟨fun h => h, fun h => h⟩
theorem a_nil : tNil σ H AQ = AQ [] H := propext ⟨fun h => h, fun h => h⟩
theorem a_cons : tCons ta al σ H AQ = ta σ H fun x H1 => al σ H1 fun xs H2 => AQ (x :: xs) H2 := propext ⟨fun h => h, fun h => h⟩
theorem e_callLen : tCB (fun xs H Q => ∃ p ys, xs = [V.ref p] ∧ (SqL K H p ys ∨ SqT K H p ys) ∧ Q (.int ys.length) H) (tCons ta tNil) σ H Q ↔ ta σ H fun x H1 => ∃ p, x = .ref p ∧ LenK K p H1 fun n => Q (.int n) H1 := Iff.of_eq (congrArg (ta σ H) (funext fun x => funext fun H1 => propext ⟨fun ⟨p, ys, e, h, q⟩ => by cases e; exact ⟨p, rfl, ys, h, q⟩, fun ⟨p, e, ys, h, q⟩ => ⟨p, ys, by rw [e], h, q⟩⟩))
theorem t_B : tB te σ H TQ = te σ H fun x H1 => ∃ c, x = .bl c ∧ TQ c H1 := propext ⟨fun h => h, fun h => h⟩
theorem t_test : tTest te σ H TQ = te σ H fun x H1 => ∃ c, x = .bl c ∧ TQ c H1 := propext ⟨fun h => h, fun h => h⟩
theorem t_and : tAnd t u σ H TQ = t σ H fun c H1 => if c = true then u σ H1 TQ else TQ false H1 := propext ⟨fun h => h, fun h => h⟩
theorem t_or : tOr t u σ H TQ = t σ H fun c H1 => if c = true then TQ true H1 else u σ H1 TQ := propext ⟨fun h => h, fun h => h⟩
theorem t_not : tNot t σ H TQ = t σ H fun c H1 => TQ (!c) H1 := propext ⟨fun h => h, fun h => h⟩
theorem t_yes : tYes σ H TQ = TQ true H := propext ⟨fun h => h, fun h => h⟩
theorem s_seq : tSeq s1 s2 D σ H = s1 { D with nx := s2 D } σ H := propext ⟨fun h => h, fun h => h⟩
theorem s_next : tNext D σ H = D.nx σ H := propext ⟨fun h => h, fun h => h⟩
theorem s_break : tBreak D σ H = D.bk σ H := propext ⟨fun h => h, fun h => h⟩
theorem s_cont : tCont D σ H = D.ct σ H := propext ⟨fun h => h, fun h => h⟩
theorem s_drop : tDrop te D σ H = te σ H fun _ H1 => D.nx σ H1 := propext ⟨fun h => h, fun h => h⟩
theorem s_ret : tRet te D σ H = te σ H D.rt := propext ⟨fun h => h, fun h => h⟩
theorem s_retN : tRetN D σ H = D.rt .non H := propext ⟨fun h => h, fun h => h⟩
theorem s_ifS : tIfS t s1 s2 D σ H = t σ H fun b H1 => if b = true then s1 D σ H1 else s2 D σ H1 := propext ⟨fun h => h, fun h => h⟩
theorem s_asg {g : TG} : tAsg te g D σ H = te σ H fun x H1 => g x σ H1 D.nx := propext ⟨fun h => h, fun h => h⟩
theorem s_aug {ti : TIp} : tAug i te ti D σ H = ∃ x, σ[i]? = some (some x) ∧ te σ H fun y H1 => ti x y H1 fun z H2 => D.nx (σ.set i (some z)) H2 := propext ⟨fun h => h, fun h => h⟩
variable {N : L2.St → Hp → Prop}
theorem s_par {j : Nat} : tPar i j al D σ H = al σ H fun vs H1 => ∃ v w, vs = [v, w] ∧ D.nx ((σ.set i (some v)).set j (some w)) H1 := propext ⟨fun h => h, fun h => h⟩
theorem g_name : gName i v σ H N = N (σ.set i (some v)) H := propext ⟨fun h => h, fun h => h⟩
theorem g_tup {gs : TGs} {a : Addr} : gTup K n gs (.ref a) σ H N ↔ UnpK K a n H fun xs => gs xs σ H N := ⟨fun ⟨_, xs, e, h, z, q⟩ => by cases e; exact ⟨xs, h, z, q⟩, fun ⟨xs, h, z, q⟩ => ⟨a, xs, rfl, h, z, q⟩⟩
theorem g_nil : gNil [] σ H N ↔ N σ H := ⟨fun h => h.2, fun h => ⟨rfl, h⟩⟩
theorem g_cons {g : TG} {gs : TGs} {v : V} {vs : List V} : gCons g gs (v :: vs) σ H N ↔ g v σ H fun σ' H' => gs vs σ' H' N := ⟨fun ⟨_, _, e, q⟩ => by cases e; exact q, fun q => ⟨v, vs, rfl, q⟩⟩
theorem g_sub {st : TSet} : gSub ta tb st v σ H N = ta σ H fun o H1 => tb σ H1 fun i H2 => st o i v H2 fun H3 => N σ H3 := propext ⟨fun h => h, fun h => h⟩
theorem i_list {R : It → Hp → Prop} : iList K te σ H R = te σ H fun x H1 => ∃ a, x = .ref a ∧ (∃ xs, SqL K H1 a xs) ∧ R (Itl K a) H1 := propext ⟨fun h => h, fun h => h⟩
theorem i_tup {R : It → Hp → Prop} : iTup K te σ H R = te σ H fun x H1 => ∃ a, x = .ref a ∧ (∃ xs, SqT K H1 a xs) ∧ R (Itt K a) H1 := propext ⟨fun h => h, fun h => h⟩
theorem i_rng1 {R : It → Hp → Prop} : iRng1 al σ H R = al σ H fun vs H1 => ∃ j : Int, vs = [.int j] ∧ -(2 ^ 62) ≤ j ∧ j < 2 ^ 62 ∧ R (Itr 0 j.toNat) H1 := propext ⟨fun h => h, fun h => h⟩
theorem i_rng2 {R : It → Hp → Prop} : iRng2 al σ H R = al σ H fun vs H1 => ∃ i j : Int, vs = [.int i, .int j] ∧ (-(2 ^ 62) ≤ i ∧ i < 2 ^ 62 ∧ -(2 ^ 62) ≤ j ∧ j < 2 ^ 62) ∧ R (Itr i (j - i).toNat) H1 := propext ⟨fun h => h, fun h => h⟩
theorem i_enum {R : It → Hp → Prop} : iEnum K al σ H R = al σ H fun vs H1 => ∃ a xs, vs = [.ref a] ∧ SqL K H1 a xs ∧ R (Ite K a) H1 := propext ⟨fun h => h, fun h => h⟩
/-- a loop, kept whole -/
def LoopK (J : It) (g : TG) (tb : TS) (D : Ends) (σ : L2.St) (H1 : Hp) : Prop := ∃ W : Nat → Nat → L2.St → Hp → Prop, (∃ m, W 0 m σ H1) ∧ ∀ i m σ H, W i m σ H →
  (J.stop i H ∧ D.nx σ H) ∨ (J.go i H ∧ ∃ N : L2.St → Hp → Prop, (∀ σ' H', N σ' H' → ∃ m', m' < m ∧ W (i + 1) m' σ' H') ∧ ∀ x H', J.yld i H x H' → g x σ H' fun σ2 H2 => tb { D with nx := N, ct := N, bk := D.nx } σ2 H2)
theorem s_for {wi : TI} {g : TG} {tb : TS} : tFor wi g tb D σ H = wi σ H fun J H1 => LoopK J g tb D σ H1 := propext ⟨fun h => h, fun h => h⟩
/-- a comprehension, kept whole -/
def LcK (J : It) (g : TG) (tt : TT) (te : TE) (vs : List Nat) (σ : L2.St) (H1 : Hp) (Q : VK) : Prop := tLc (fun _ H R => R J H) g tt te vs σ H1 Q
theorem e_lc {wi : TI} {g : TG} {tt : TT} {vs : List Nat} : tLc wi g tt te vs σ H Q = wi σ H fun J H1 => LcK J g tt te vs σ H1 Q := propext ⟨fun h => h, fun h => h⟩
end

section
variable {X : Cx}
def rLen (K : PySem.W.Frag) : List V → Hp → VK → Prop := fun xs H Q => ∃ p ys, xs = [.ref p] ∧ (SqL K H p ys ∨ SqT K H p ys) ∧ Q (.int ys.length) H
theorem cr_len : CallR X (.builtin "len") (rLen X.K) := call_len_seq
theorem x_len {K : PySem.W.Frag} {p : Addr} {H : Hp} {Q : VK} : rLen K [.ref p] H Q ↔ LenK K p H fun n => Q (.int n) H := ⟨fun ⟨_, ys, e, h, q⟩ => by cases e; exact ⟨ys, h, q⟩, fun ⟨ys, h, q⟩ => ⟨p, ys, rfl, h, q⟩⟩
def rMx : List V → Hp → VK → Prop := fun xs H Q => ∃ i j, xs = [.int i, .int j] ∧ Q (.int (max i j)) H
def rMn : List V → Hp → VK → Prop := fun xs H Q => ∃ i j, xs = [.int i, .int j] ∧ Q (.int (min i j)) H
theorem mx_eq (i j : Int) : (if j > i then j else i) = max i j := by split <;> omega
theorem mn_eq (i j : Int) : (if j < i then j else i) = min i j := by split <;> omega
theorem CallR.as {f : Value} {r r' : List V → Hp → VK → Prop} (h : CallR X f r) (i : ∀ xs H Q, r' xs H Q → r xs H Q) : CallR X f r' := fun pins s σ H xs us Q I v q => h pins s σ H xs us Q I v (i xs H Q q)
theorem cr_max2 (hc : X.calm = true) : CallR X (.builtin "max") rMx := CallR.as (call_max2 hc) fun _ _ _ ⟨i, j, e, q⟩ => ⟨i, j, e, by rw [mx_eq]; exact q⟩
theorem cr_min2 (hc : X.calm = true) : CallR X (.builtin "min") rMn := CallR.as (call_min2 hc) fun _ _ _ ⟨i, j, e, q⟩ => ⟨i, j, e, by rw [mn_eq]; exact q⟩
theorem x_mx {i j : Int} {H : Hp} {Q : VK} : rMx [.int i, .int j] H Q ↔ Q (.int (max i j)) H := ⟨fun ⟨_, _, e, q⟩ => by cases e; exact q, fun q => ⟨i, j, rfl, q⟩⟩
theorem x_mn {i j : Int} {H : Hp} {Q : VK} : rMn [.int i, .int j] H Q ↔ Q (.int (min i j)) H := ⟨fun ⟨_, _, e, q⟩ => by cases e; exact q, fun q => ⟨i, j, rfl, q⟩⟩
theorem k_cx {C : CXT} {P : Program} {w : World} {K : PySem.W.Frag} {mg : Str → Option Value} {bs : Heap} {N : List Str} {qual : Str} {sc : Scope} {f : Addr} {cd : Value} {A : Around} {fr : List Env} {s : Shared} {H : Hp} {E : XK} :
    (cxOf C P w K mg bs N qual sc f cd A fr s H E).nox.K = K := rfl
theorem k_cx2 {C : CXT} {P : Program} {w : World} {K : PySem.W.Frag} {mg : Str → Option Value} {bs : Heap} {N : List Str} {qual : Str} {sc : Scope} {f : Addr} {cd : Value} {A : Around} {fr : List Env} {s : Shared} {H : Hp} {E : XK} :
    (cxOf C P w K mg bs N qual sc f cd A fr s H E).K = K := rfl
end
/-! ### isinstance(x, T), T a built-in class -/
def tyB (K : PySem.W.Frag) (H : Hp) (x : V) (t : String) : Prop := TyX K H x (.type t)
def rIs (K : PySem.W.Frag) : List V → Hp → VK → Prop := fun xs H Q => ∃ x n t b, xs = [x, .ty n] ∧ tyB K H x t ∧ kitB t n = some b ∧ Q (.bl b) H
theorem cr_is {X : Cx} : CallR X (.builtin "isinstance") (rIs X.K) := CallR.as call_isi fun _ _ _ ⟨x, n, _, b, e, ht, hb, q⟩ => ⟨x, .ty n, _, _, b, e, ClsV.ty n, ht, kit_ty hb, q⟩
section
variable {K : PySem.W.Frag} {H : Hp} {Q : VK}
theorem ty_int {i : Int} {t : String} (h : tyB K H (.int i) t) : t = "int" := by
  cases h with
  | base h => cases h; rfl
theorem ty_bl {i : Bool} {t : String} (h : tyB K H (.bl i) t) : t = "bool" := by
  cases h with
  | base h => cases h; rfl
theorem ty_non {t : String} (h : tyB K H .non t) : t = "NoneType" := by
  cases h with
  | base h => cases h; rfl
theorem ty_str {i : Str} {t : String} (h : tyB K H (.str i) t) : t = "str" := by
  cases h with
  | base h => cases h; rfl
theorem x_is {x : V} {t n : String} {b : Bool} (h1 : tyB K H x t) (h2 : ∀ u, tyB K H x u → u = t) (h3 : kitB t n = some b) : rIs K [x, .ty n] H Q ↔ Q (.bl b) H := by
  constructor
  · rintro ⟨_, _, u, c, e, hu, hc, q⟩
    cases e
    rw [h2 u hu, h3] at hc
    cases hc
    exact q
  · intro q
    exact ⟨x, n, t, b, rfl, h1, h3, q⟩
theorem x_is_int {i : Int} : rIs K [.int i, .ty "int"] H Q ↔ Q (.bl true) H := x_is (.base (.int i)) (fun _ => ty_int) (by decide +kernel)
theorem x_is_bi {i : Int} : rIs K [.int i, .ty "bool"] H Q ↔ Q (.bl false) H := x_is (.base (.int i)) (fun _ => ty_int) (by decide +kernel)
theorem x_is_bool {i : Bool} : rIs K [.bl i, .ty "int"] H Q ↔ Q (.bl true) H := x_is (.base (.bl i)) (fun _ => ty_bl) (by decide +kernel)
theorem x_is_bb {i : Bool} : rIs K [.bl i, .ty "bool"] H Q ↔ Q (.bl true) H := x_is (.base (.bl i)) (fun _ => ty_bl) (by decide +kernel)
theorem x_is_nb : rIs K [.non, .ty "bool"] H Q ↔ Q (.bl false) H := x_is (.base .non) (fun _ => ty_non) (by decide +kernel)
theorem x_is_ni : rIs K [.non, .ty "int"] H Q ↔ Q (.bl false) H := x_is (.base .non) (fun _ => ty_non) (by decide +kernel)
theorem x_is_sb {i : Str} : rIs K [.str i, .ty "bool"] H Q ↔ Q (.bl false) H := x_is (.base (.str i)) (fun _ => ty_str) (by decide +kernel)
theorem x_is_si {i : Str} : rIs K [.str i, .ty "int"] H Q ↔ Q (.bl false) H := x_is (.base (.str i)) (fun _ => ty_str) (by decide +kernel)
theorem x_is_ib {i : Str} : rIs K [.str i, .ty "str"] H Q ↔ Q (.bl true) H := x_is (.base (.str i)) (fun _ => ty_str) (by decide +kernel)
/-- isinstance of an object -/
def IsK (K : PySem.W.Frag) (a : Addr) (n : String) (H : Hp) (G : Bool → Prop) : Prop := ∃ t b, tyB K H (.ref a) t ∧ kitB t n = some b ∧ G b
theorem x_isR {a : Addr} {n : String} : rIs K [.ref a, .ty n] H Q ↔ IsK K a n H fun b => Q (.bl b) H := ⟨fun ⟨_, _, t, b, e, h1, h2, q⟩ => by cases e; exact ⟨t, b, h1, h2, q⟩, fun ⟨t, b, h1, h2, q⟩ => ⟨_, _, t, b, rfl, h1, h2, q⟩⟩
theorem IsK.tup {a : Addr} {n : String} {xs : List V} {b : Bool} {G : Bool → Prop} (h : H a = some (.tup xs)) (k : kitB "tuple" n = some b) (q : G b) : IsK K a n H G := ⟨_, b, .base (.tup h), k, q⟩
theorem IsK.lst {a : Addr} {n : String} {xs : List V} {b : Bool} {G : Bool → Prop} (h : H a = some (.lst xs)) (k : kitB "list" n = some b) (q : G b) : IsK K a n H G := ⟨_, b, .base (.lst h), k, q⟩
end
/-! ### instances -/
def FldK (K : PySem.W.Frag) (p : Addr) (f : Str) (H : Hp) (G : V → Prop) : Prop := ∃ C dx fs v, H p = some (.ins C dx fs) ∧ Cls K C ∧ NoAttr K C f ∧ fs.lookup f = some v ∧ G v
def StK (K : PySem.W.Frag) (p : Addr) (f : Str) (y : V) (H : Hp) (G : Hp → Prop) : Prop := ∃ C dx fs, H p = some (.ins C dx fs) ∧ Cls K C ∧ NoAttr K C f ∧ fs.length < 1000 ∧ G (upd H p (.ins C dx (putF f y fs)))
section
variable {K : PySem.W.Frag} {B H : Hp} {l l' : List (Addr × HO)} {p C dx : Addr} {fs fs' : List (Str × V)} {f : Str} {v : V} {σ : L2.St} {Q : VK} {D : Ends} {ta tv : TE}
theorem e_fld : tFld K ta f σ H Q ↔ ta σ H fun x H1 => ∃ a, x = .ref a ∧ FldK K a f H1 fun v => Q v H1 := Iff.of_eq (congrArg (ta σ H) (funext fun x => funext fun H1 => propext ⟨fun ⟨a, C, dx, fs, v, e, r⟩ => ⟨a, e, C, dx, fs, v, r⟩, fun ⟨a, e, C, dx, fs, v, r⟩ => ⟨a, C, dx, fs, v, e, r⟩⟩))
theorem s_fld : sFld K ta tv f D σ H ↔ tv σ H fun y H1 => ta σ H1 fun x H2 => ∃ a, x = .ref a ∧ StK K a f y H2 fun H3 => D.nx σ H3 := Iff.of_eq (congrArg (tv σ H) (funext fun y => funext fun H1 => congrArg (ta σ H1) (funext fun x => funext fun H2 => propext ⟨fun ⟨a, C, dx, fs, e, r⟩ => ⟨a, e, C, dx, fs, r⟩, fun ⟨a, e, C, dx, fs, r⟩ => ⟨a, C, dx, fs, e, r⟩⟩)))
theorem FldK.of {G : V → Prop} (L : Led B H l) (m : (p, HO.ins C dx fs) ∈ l) (c : Cls K C) (n : NoAttr K C f) (e : fs.lookup f = some v) (k : G v) : FldK K p f H G := ⟨C, dx, fs, v, L.at m, c, n, e, k⟩
theorem StK.of {G : Hp → Prop} (L : Led B H l) (m : (p, HO.ins C dx fs) ∈ l) (c : Cls K C) (n : NoAttr K C f) (e : putF f v fs = fs') (t : Put l p (.ins C dx fs') l') (k : ∀ H1, Led B H1 l' → G H1) (h : fs.length < 1000 := by first | decide | (simp only [List.length_cons, List.length_nil]; decide) | omega) : StK K p f v H G :=
  ⟨C, dx, fs, L.at m, c, n, h, by rw [e]; exact k _ (L.put t)⟩
/-- o.m(..) -/
def MtK (p C : Addr) (m : Str) (H : Hp) (G : Prop) : Prop := ∃ dx fs, H p = some (.ins C dx fs) ∧ fs.lookup m = none ∧ G
theorem e_MG {m : Str} {sp : Sp} {dvs : List V} {E : L2.St → XK} {t : TA} : tMG C m sp dvs E ta t σ H Q ↔ ta σ H fun x H1 => ∃ a, x = .ref a ∧ MtK a C m H1 (t σ H1 fun vs H2 => sp (x :: (vs ++ dvs)) H2 Q (E σ)) :=
  Iff.of_eq (congrArg (ta σ H) (funext fun x => funext fun H1 => propext ⟨fun ⟨a, dx, fs, e, r1, r2, r3⟩ => ⟨a, e, dx, fs, r1, r2, r3⟩, fun ⟨a, e, dx, fs, r1, r2, r3⟩ => ⟨a, dx, fs, e, r1, r2, r3⟩⟩))
theorem MtK.of {m : Str} {G : Prop} (L : Led B H l) (h : (p, HO.ins C dx fs) ∈ l) (e : fs.lookup m = none) (k : G) : MtK p C m H G := ⟨dx, fs, L.at h, e, k⟩
/-- C(..) -/
def MkK (C : Addr) (H : Hp) (G : Addr → Hp → Prop) : Prop := ∀ x dx, H x = none → H dx = none → dx ≠ x → G x (upd (upd H dx (.own x)) x (.ins C dx []))
theorem e_KG {sp : Sp} {dvs : List V} {E : L2.St → XK} {t : TA} : tKG C sp dvs E t σ H Q = t σ H fun vs H1 => MkK C H1 fun x H2 => sp (.ref x :: (vs ++ dvs)) H2 (fun v H3 => v = .non ∧ Q (.ref x) H3) (E σ) := propext ⟨fun h => h, fun h => h⟩
theorem MkK.of {G : Addr → Hp → Prop} (L : Led B H l) (k : ∀ x dx H1, Led B H1 ((x, .ins C dx []) :: l) → G x H1) : MkK C H G := fun x dx hx hd ne =>
  k x dx _ (((L.new hd).new (by rw [upd_ne ne.symm]; exact hx)).sel (.cons .hd (.skip .all)))
/-! ### lists again -/
def RptK (l : Addr) (n : Int) (H : Hp) (G : Addr → Hp → Prop) : Prop := ∃ xs, H l = some (.lst xs) ∧ -(2 ^ 63) ≤ n ∧ n < 2 ^ 63 ∧ xs.length * n.toNat ≤ sizeLine ∧ NewK (.lst (List.replicate n.toNat xs).flatten) H G
theorem x_rpt {a : Addr} {n : Int} : rRep (.ref a) (.int n) H Q ↔ RptK a n H fun p H1 => Q (.ref p) H1 := ⟨fun ⟨_, _, xs, e1, e2, h, h1, h2, h3, q⟩ => by cases e1; cases e2; exact ⟨xs, h, h1, h2, h3, q⟩, fun ⟨xs, h, h1, h2, h3, q⟩ => ⟨a, n, xs, rfl, rfl, h, h1, h2, h3, q⟩⟩
theorem flat_one {α : Type} (n : Nat) (x : α) : (List.replicate n [x]).flatten = List.replicate n x := by
  induction n with
  | zero => rfl
  | succ n ih => rw [List.replicate_succ, List.flatten_cons, ih, List.replicate_succ]; rfl
theorem RptK.of {a : Addr} {n : Nat} {G : Addr → Hp → Prop} (L : Led B H l) (h : (a, HO.lst [v]) ∈ l) (hn : n ≤ 100000) (k : ∀ p H1, Led B H1 ((p, .lst (List.replicate n v)) :: l) → G p H1) : RptK a (n : Int) H G :=
  ⟨[v], L.at h, by omega, by omega, Nat.le_trans (m := 100000) (by rw [Int.toNat_natCast]; simpa using hn) (by decide), by rw [Int.toNat_natCast, flat_one]; exact NewK.of L k⟩
def RemK (a : Addr) (n : Int) (H : Hp) (G : Hp → Prop) : Prop := ∃ (ns : List Int) (j : Nat), H a = some (.lst (ns.map V.int)) ∧ ns[j]? = some n ∧ (∀ m : Nat, m < j → ns[m]? ≠ some n) ∧ G (upd H a (.lst ((ns.eraseIdx j).map V.int)))
theorem x_rem {a : Addr} {n : Int} : rRemI (.ref a) [.int n] H Q ↔ RemK a n H fun H1 => Q .non H1 := ⟨fun ⟨_, ns, _, j, e1, e2, h, h1, h2, q⟩ => by cases e1; cases e2; exact ⟨ns, j, h, h1, h2, q⟩, fun ⟨ns, j, h, h1, h2, q⟩ => ⟨a, ns, n, j, rfl, rfl, h, h1, h2, q⟩⟩
theorem first_at {n : Int} : ∀ {ns : List Int}, n ∈ ns → ∃ j, ns[j]? = some n ∧ (∀ m : Nat, m < j → ns[m]? ≠ some n) ∧ ns.eraseIdx j = ns.erase n
  | [], h => (List.not_mem_nil h).elim
  | x :: r, h => by
    by_cases c : x = n
    · subst c
      exact ⟨0, rfl, fun m hm => absurd hm (Nat.not_lt_zero _), by rw [List.erase_cons_head]; rfl⟩
    · obtain ⟨j, h1, h2, h3⟩ := first_at ((List.mem_cons.mp h).resolve_left fun z => c z.symm)
      refine ⟨j + 1, h1, fun m hm => ?_, ?_⟩
      · cases m with
        | zero => intro z; exact c (Option.some.inj z)
        | succ m => exact h2 m (by omega)
      · rw [List.erase_cons_tail (by simpa using c), List.eraseIdx_cons_succ, h3]
theorem RemK.of {a : Addr} {n : Int} {ns : List Int} {G : Hp → Prop} (L : Led B H l) (h : (a, HO.lst (ns.map V.int)) ∈ l) (hm : n ∈ ns) (t : Put l a (.lst ((ns.erase n).map V.int)) l') (k : ∀ H1, Led B H1 l' → G H1) : RemK a n H G := by
  obtain ⟨j, h1, h2, h3⟩ := first_at hm
  exact ⟨ns, j, L.at h, h1, h2, by rw [h3]; exact k _ (L.put t)⟩
def MinK (K : PySem.W.Frag) (a : Addr) (H : Hp) (G : Int → Prop) : Prop := ∃ ns : List Int, SqL K H a (ns.map V.int) ∧ 0 < ns.length ∧ ∀ m, m ∈ ns → (∀ y, y ∈ ns → m ≤ y) → G m
theorem x_min {a : Addr} : rMin K [.ref a] H Q ↔ MinK K a H fun m => Q (.int m) H := ⟨fun ⟨_, ns, e, r⟩ => by cases e; exact ⟨ns, r⟩, fun ⟨ns, r⟩ => ⟨a, ns, rfl, r⟩⟩
theorem e_lrg1 {te : L2.St → Hp → (Int → Int → Hp → Prop) → Prop} : tLstRg te σ H Q = te σ H fun a b H1 => RgOk a b ∧ NewK (.lst (rgV a b)) H1 fun p H2 => Q (.ref p) H2 := propext ⟨fun h => h, fun h => h⟩
theorem e_rg1 {R : Int → Int → Hp → Prop} : tRg1 ta σ H R = ta σ H fun x H1 => ∃ n, x = .int n ∧ R 0 n H1 := propext ⟨fun h => h, fun h => h⟩
def rRev : V → List V → Hp → VK → Prop := rReverse
def RevK (a : Addr) (H : Hp) (G : Hp → Prop) : Prop := ∃ xs, H a = some (.lst xs) ∧ G (upd H a (.lst xs.reverse))
theorem x_rev {a : Addr} : rReverse (.ref a) [] H Q ↔ RevK a H fun H1 => Q .non H1 := ⟨fun ⟨_, xs, e, _, h, q⟩ => by cases e; exact ⟨xs, h, q⟩, fun ⟨xs, h, q⟩ => ⟨a, xs, rfl, rfl, h, q⟩⟩
theorem RevK.of {a : Addr} {xs : List V} {G : Hp → Prop} (L : Led B H l) (h : (a, HO.lst xs) ∈ l) (t : Put l a (.lst xs.reverse) l') (k : ∀ H1, Led B H1 l' → G H1) : RevK a H G := ⟨xs, L.at h, k _ (L.put t)⟩
theorem s_augS {to ti te : TE} {tget : V → V → Hp → VK → Prop} {tip : TIp} {tset : TSet} : tAugS to ti te tget tip tset D σ H = to σ H fun o H1 => ti σ H1 fun i H2 => tget o i H2 fun x H3 => te σ H3 fun y H4 => tip x y H4 fun z H5 => tset o i z H5 fun H6 => D.nx σ H6 := propext ⟨fun h => h, fun h => h⟩
theorem x_ip {g : Int → Int → Int} {i j : Int} : ipI g (.int i) (.int j) H Q ↔ Q (.int (g i j)) H := ⟨fun ⟨_, _, e1, e2, q⟩ => by cases e1; cases e2; exact q, fun q => ⟨i, j, rfl, rfl, q⟩⟩
theorem i_rng3 {al : TA} {R : It → Hp → Prop} : iRng3 al σ H R = al σ H fun vs H1 => ∃ (i j c : Int) (n : Nat), vs = [.int i, .int j, .int c] ∧ RgC i j c n ∧ R (Itc i c n) H1 := propext ⟨fun h => h, fun h => h⟩
end
theorem pget_list {X : Cx} : PGet X (rIxL X.K) := by
  intro pins s σ H x y v u Q I rx ry h
  obtain ⟨p, xs, i, z, rfl, rfl, hq, he, q⟩ := h
  cases rx
  obtain ⟨t, rfl⟩ := ry
  obtain ⟨its, r, pl, hz⟩ := I.list hq
  obtain ⟨j, h1, h2, h3, h4, h5⟩ := atI_get he
  obtain ⟨w, ew, rw'⟩ := r.get h2
  have hl := r.length
  have hn := line63
  have fin : EP X pins σ Q w s := ⟨z, H, I, rw', q⟩
  by_cases h0 : 0 ≤ i
  · have hj : i.toNat = j := by
      have h1' := h1
      rw [seqIndex_of h0 h5] at h1'
      exact Option.some.inj h1'
    exact wpAny_getItem_list pl.isList h0 (by omega) (by rw [hj]; simpa using ew) fin
  · have hj : (i + (its.toArray.size : Int)).toNat = j := by
      have h1' := h1
      rw [seqIndex_neg (by omega) h4] at h1'
      rw [List.size_toArray, ← hl]
      exact Option.some.inj h1'
    exact wpAny_getItem_list_neg pl.isList (by omega) (by rw [List.size_toArray] <;> omega) (by omega) (by rw [hj]; simpa using ew) fin
/-! ### loops, kept whole -/
section
variable {K : PySem.W.Frag} {g : TG} {tb : TS} {D : Ends} {σ : L2.St} {H : Hp} {a : Addr} {xs : List V} {lo : Int} {n : Nat}
theorem loop_list (Pv : Nat → L2.St → Hp → Prop) (h0 : Pv 0 σ H) (hl : ∀ i σ H, i ≤ xs.length → Pv i σ H → SqL K H a xs)
    (hs : ∀ i x σ H (N : L2.St → Hp → Prop), xs[i]? = some x → Pv i σ H → (∀ σ' H', Pv (i + 1) σ' H' → N σ' H') → g x σ H fun σ2 H2 => tb { D with nx := N, ct := N, bk := D.nx } σ2 H2) (hd : ∀ σ H, Pv xs.length σ H → D.nx σ H) : LoopK (Itl K a) g tb D σ H :=
  for_list Pv h0 hl (fun i x σ H e p => hs i x σ H _ e p fun _ _ z => z) hd
theorem loop_tup (Pv : Nat → L2.St → Hp → Prop) (h0 : Pv 0 σ H) (hl : ∀ i σ H, i ≤ xs.length → Pv i σ H → SqT K H a xs)
    (hs : ∀ i x σ H (N : L2.St → Hp → Prop), xs[i]? = some x → Pv i σ H → (∀ σ' H', Pv (i + 1) σ' H' → N σ' H') → g x σ H fun σ2 H2 => tb { D with nx := N, ct := N, bk := D.nx } σ2 H2) (hd : ∀ σ H, Pv xs.length σ H → D.nx σ H) : LoopK (Itt K a) g tb D σ H :=
  for_tup Pv h0 hl (fun i x σ H e p => hs i x σ H _ e p fun _ _ z => z) hd
theorem loop_range (Pv : Nat → L2.St → Hp → Prop) (h0 : Pv 0 σ H)
    (hs : ∀ i σ H (N : L2.St → Hp → Prop), i < n → Pv i σ H → (∀ σ' H', Pv (i + 1) σ' H' → N σ' H') → g (.int (lo + i)) σ H fun σ2 H2 => tb { D with nx := N, ct := N, bk := D.nx } σ2 H2) (hd : ∀ σ H, Pv n σ H → D.nx σ H) : LoopK (Itr lo n) g tb D σ H :=
  for_range Pv h0 (fun i σ H e p => hs i σ H _ e p fun _ _ z => z) hd
theorem loop_rangeC {c : Int} (Pv : Nat → L2.St → Hp → Prop) (h0 : Pv 0 σ H)
    (hs : ∀ i σ H (N : L2.St → Hp → Prop), i < n → Pv i σ H → (∀ σ' H', Pv (i + 1) σ' H' → N σ' H') → g (.int (lo + (i : Nat) * c)) σ H fun σ2 H2 => tb { D with nx := N, ct := N, bk := D.nx } σ2 H2) (hd : ∀ σ H, Pv n σ H → D.nx σ H) : LoopK (Itc lo c n) g tb D σ H :=
  for_rangeC Pv h0 (fun i σ H e p => hs i σ H _ e p fun _ _ z => z) hd
variable {tt : TT} {te : TE} {vs : List Nat} {Q : VK}
/-- what a turn of a comprehension does, N behind it -/
def TurnK (g : TG) (tt : TT) (te : TE) (vs : List Nat) (σ : L2.St) (p : Addr) (N : Hp → Prop) (x : V) (H : Hp) : Prop :=
  g x (wipe σ vs) H fun σ2 H2 => wipe σ2 vs = wipe σ vs ∧ tt σ2 H2 fun b H3 => if b = true then te σ2 H3 fun y H4 => AppK p y H4 N else N H3
theorem comp_gen {J : It} (n : Nat) (R : Nat → Addr → List V → Hp → Prop) (h0 : ∀ p, H p = none → R 0 p [] (upd H p (.lst [])))
    (hn : ∀ p acc H', R n p acc H' → J.stop n H' ∧ Q (.ref p) H')
    (hs : ∀ i p acc H', i < n → R i p acc H' → J.go i H' ∧ ∀ x H2, J.yld i H' x H2 → TurnK g tt te vs σ p (fun H3 => ∃ acc, R (i + 1) p acc H3) x H2) : LcK J g tt te vs σ H Q := by
  intro p hp
  refine ⟨fun i m H' => m = n - i ∧ i ≤ n ∧ ∃ acc, R i p acc H', ⟨n, rfl, Nat.zero_le _, [], h0 p hp⟩, ?_⟩
  rintro i m H' ⟨rfl, hi, acc, r⟩
  by_cases c : i < n
  · obtain ⟨r1, r2⟩ := hs i p acc H' c r
    exact Or.inr ⟨r1, fun H'' => ∃ acc, R (i + 1) p acc H'', fun H'' z => ⟨n - (i + 1), by omega, rfl, c, z⟩, fun x H2 y => r2 x H2 y⟩
  · have e : i = n := by omega
    subst e
    exact Or.inl (hn p acc H' r)
/-- over a list that stands -/
theorem comp_list (R : Nat → Addr → List V → Hp → Prop) (h0 : ∀ p, H p = none → R 0 p [] (upd H p (.lst []))) (hl : ∀ i p acc H', R i p acc H' → SqL K H' a xs)
    (hn : ∀ p acc H', R xs.length p acc H' → Q (.ref p) H') (hs : ∀ i p acc H' x (N : Hp → Prop), xs[i]? = some x → R i p acc H' → (∀ acc H3, R (i + 1) p acc H3 → N H3) → TurnK g tt te vs σ p N x H') : LcK (Itl K a) g tt te vs σ H Q := by
  refine comp_gen xs.length R h0 (fun p acc H' r => ⟨⟨xs, hl _ _ _ _ r, Nat.le_refl _⟩, hn p acc H' r⟩) fun i p acc H' hi r => ?_
  refine ⟨⟨xs, xs[i], hl _ _ _ _ r, List.getElem?_eq_getElem hi⟩, ?_⟩
  rintro x H2 ⟨rfl, hx⟩
  exact hs i p acc _ x _ (hx xs (hl _ _ _ _ r)) r fun acc H3 z => ⟨acc, z⟩
theorem comp_tup (R : Nat → Addr → List V → Hp → Prop) (h0 : ∀ p, H p = none → R 0 p [] (upd H p (.lst []))) (hl : ∀ i p acc H', R i p acc H' → SqT K H' a xs)
    (hn : ∀ p acc H', R xs.length p acc H' → Q (.ref p) H') (hs : ∀ i p acc H' x (N : Hp → Prop), xs[i]? = some x → R i p acc H' → (∀ acc H3, R (i + 1) p acc H3 → N H3) → TurnK g tt te vs σ p N x H') : LcK (Itt K a) g tt te vs σ H Q := by
  refine comp_gen xs.length R h0 (fun p acc H' r => ⟨⟨xs, hl _ _ _ _ r, Nat.le_refl _⟩, hn p acc H' r⟩) fun i p acc H' hi r => ?_
  refine ⟨⟨xs, xs[i], hl _ _ _ _ r, List.getElem?_eq_getElem hi⟩, ?_⟩
  rintro x H2 ⟨rfl, hx⟩
  exact hs i p acc _ x _ (hx xs (hl _ _ _ _ r)) r fun acc H3 z => ⟨acc, z⟩
theorem comp_range (R : Nat → Addr → List V → Hp → Prop) (h0 : ∀ p, H p = none → R 0 p [] (upd H p (.lst [])))
    (hn : ∀ p acc H', R n p acc H' → Q (.ref p) H') (hs : ∀ i p acc H' (N : Hp → Prop), i < n → R i p acc H' → (∀ acc H3, R (i + 1) p acc H3 → N H3) → TurnK g tt te vs σ p N (.int (lo + i)) H') : LcK (Itr lo n) g tt te vs σ H Q := by
  refine comp_gen n R h0 (fun p acc H' r => ⟨Nat.le_refl _, hn p acc H' r⟩) fun i p acc H' hi r => ⟨hi, ?_⟩
  rintro x H2 ⟨rfl, rfl⟩
  exact hs i p acc _ _ hi r fun acc H3 z => ⟨acc, z⟩
/-- over enumerate of a list that stands -/
theorem comp_enum (R : Nat → Addr → List V → Hp → Prop) (h0 : ∀ p, H p = none → R 0 p [] (upd H p (.lst []))) (hl : ∀ i p acc H', R i p acc H' → SqL K H' a xs)
    (hn : ∀ p acc H', R xs.length p acc H' → Q (.ref p) H')
    (hs : ∀ i p acc H' x (N : Hp → Prop), xs[i]? = some x → R i p acc H' → (∀ acc H3, R (i + 1) p acc H3 → N H3) → NewK (.tup [.int (i : Nat), x]) H' fun t H2 => TurnK g tt te vs σ p N (.ref t) H2) : LcK (Ite K a) g tt te vs σ H Q := by
  refine comp_gen xs.length R h0 (fun p acc H' r => ⟨⟨xs, hl _ _ _ _ r, Nat.le_refl _⟩, hn p acc H' r⟩) fun i p acc H' hi r => ?_
  refine ⟨⟨xs, xs[i], hl _ _ _ _ r, List.getElem?_eq_getElem hi⟩, ?_⟩
  rintro v H2 ⟨t, x, rfl, ht, rfl, hx⟩
  exact hs i p acc _ x _ (hx xs (hl _ _ _ _ r)) r (fun acc H3 z => ⟨acc, z⟩) t ht
end

/-! ### small facts -/
theorem NeD.of {K : PySem.W.Frag} {H : Hp} {x y : V} {d e : PyData} {Q : VK} (h1 : Dp K H x d) (h2 : Dp K H y e) (s1 : SeqAt.shaped d = true) (s2 : SeqAt.shaped e = true) (q : Q (.bl (!PyData.eqv d e)) H) : rNeD K x y H Q := ⟨d, e, h1, h2, s1, s2, q⟩
theorem EqD.of {K : PySem.W.Frag} {H : Hp} {x y : V} {d e : PyData} {Q : VK} (h1 : Dp K H x d) (h2 : Dp K H y e) (s1 : SeqAt.shaped d = true) (s2 : SeqAt.shaped e = true) (q : Q (.bl (PyData.eqv d e)) H) : rEqD K x y H Q := ⟨d, e, h1, h2, s1, s2, q⟩
theorem RepK.of {K : PySem.W.Frag} {H : Hp} {x : V} {d : PyData} {n k : Nat} {G : Str → Prop} (h : Dp K H x d) (w : Shw n k d) (h1 : n ≤ 16000000) (h2 : k ≤ 60) (q : G d.shown) : RepK K x H G := ⟨d, h, w.up h1 h2, q⟩
theorem RepK.int {K : PySem.W.Frag} {H : Hp} {i : Int} {G : Str → Prop} (k : Nat) (h : i.natAbs < 2 ^ k) (q : G (PyData.int i).shown) (h0 : 0 < k := by decide) (h1 : k ≤ 1920 := by decide) : RepK K (.int i) H G := RepK.of (Dp.int i) (Shw.int h0 h1 h) (by omega) (by decide) q
theorem RepK.bl {K : PySem.W.Frag} {H : Hp} {b : Bool} {G : Str → Prop} (q : G (PyData.bool b).shown) : RepK K (.bl b) H G := RepK.of (Dp.bl b) (Shw.bl b) (by decide) (by decide) q
theorem canLayAll_all : ∀ ds : List PyData, (∀ d ∈ ds, d.canLay0 = true) → PyData.canLayAll0 ds = true
  | [], _ => rfl
  | d :: r, h => by
    rw [PyData.canLayAll0, h d List.mem_cons_self, canLayAll_all r fun e he => h e (List.mem_cons_of_mem _ he)]; rfl
/-- data that == takes -/
structure Eqd (k : Nat) (d : PyData) : Prop where
  c : d.canLay0 = true
  p : d.depth ≤ k
theorem Eqd.lst {k : Nat} {ds : List PyData} (h : ∀ d ∈ ds, Eqd k d) : Eqd (k + 1) (.list ds) := ⟨by rw [PyData.canLay0]; exact canLayAll_all ds fun d hd => (h d hd).c, by
  simp only [PyData.depth]
  have := depthAll_le ds fun d hd => (h d hd).p
  omega⟩
theorem Eqd.tup {k : Nat} {ds : List PyData} (h : ∀ d ∈ ds, Eqd k d) : Eqd (k + 1) (.tuple ds) := ⟨by rw [PyData.canLay0]; exact canLayAll_all ds fun d hd => (h d hd).c, by
  simp only [PyData.depth]
  have := depthAll_le ds fun d hd => (h d hd).p
  omega⟩
theorem Eqd.int (i : Int) : Eqd 1 (.int i) := ⟨by rw [PyData.canLay0], by simp [PyData.depth]⟩
theorem Eqd.str (i : Str) (h : PyData.strOk i = true) : Eqd 1 (.str i) := ⟨by rw [PyData.canLay0]; exact h, by simp [PyData.depth]⟩
theorem Eqd.bl (i : Bool) : Eqd 1 (.bool i) := ⟨by rw [PyData.canLay0], by simp [PyData.depth]⟩
theorem Eqd.non : Eqd 1 .none := ⟨by rw [PyData.canLay0], by simp [PyData.depth]⟩
theorem Eqd.sh {k : Nat} {d : PyData} (h : Eqd k d) (hk : k ≤ 64) : SeqAt.shaped d = true := by
  unfold SeqAt.shaped
  rw [h.c, Bool.true_and]
  exact decide_eq_true (Nat.le_trans h.p hk)
theorem eqv_nil (ds : List PyData) : PyData.eqv (.list ds) (.list []) = ds.isEmpty := by
  cases ds with
  | nil => exact rfl
  | cons d r => exact rfl
theorem EqD.nil {K : PySem.W.Frag} {H : Hp} {a b : Addr} {xs : List V} {ds : List PyData} {Q : VK} {k : Nat} (h : SqL K H a xs) (e : DpAll K H xs ds) (g : ∀ d ∈ ds, Eqd k d) (hk : k ≤ 60) (h2 : SqL K H b []) (q : Q (.bl ds.isEmpty) H) : rEqD K (.ref a) (.ref b) H Q :=
  EqD.of (.lst h e) (.lst h2 .nil) ((Eqd.lst g).sh (by omega)) ((Eqd.lst (k := 1) (ds := []) (fun _ z => (List.not_mem_nil z).elim)).sh (by decide)) (by rw [eqv_nil]; exact q)
theorem NeD.nil {K : PySem.W.Frag} {H : Hp} {a b : Addr} {xs : List V} {ds : List PyData} {Q : VK} {k : Nat} (h : SqL K H a xs) (e : DpAll K H xs ds) (g : ∀ d ∈ ds, Eqd k d) (hk : k ≤ 60) (h2 : SqL K H b []) (q : Q (.bl (!ds.isEmpty)) H) : rNeD K (.ref a) (.ref b) H Q :=
  NeD.of (.lst h e) (.lst h2 .nil) ((Eqd.lst g).sh (by omega)) ((Eqd.lst (k := 1) (ds := []) (fun _ z => (List.not_mem_nil z).elim)).sh (by decide)) (by rw [eqv_nil]; exact q)
theorem tyL {K : PySem.W.Frag} {H : Hp} {p : Addr} {xs : List V} (h : SqL K H p xs) : tyV K "list" (.ref p) H := Or.inl ⟨rfl, _, h⟩
theorem tri_even (t : Int) : t * (t + 1) % 2 = 0 := by
  rw [Int.mul_emod]
  have h : t % 2 = 0 ∨ t % 2 = 1 := by omega
  rcases h with h | h
  · rw [h, Int.zero_mul]; rfl
  · have e : (t + 1) % 2 = 0 := by omega
    rw [e, Int.mul_zero]; rfl
theorem eqv_refl_nil : PyData.eqv (.list []) (.list []) = true := by first | rfl | simp [PyData.eqv, PyData.eqvAll] | decide +kernel
theorem sc_ii {i j : Int} : scal (.int i) (.int j) = true ↔ True := iff_true_intro rfl
theorem sc_ss {i j : Str} : scal (.str i) (.str j) = true ↔ True := iff_true_intro rfl
theorem sc_bb {i j : Bool} : scal (.bl i) (.bl j) = true ↔ True := iff_true_intro rfl
theorem sc_nn : scal .non .non = true ↔ True := iff_true_intro rfl
theorem sc_ns {j : Str} : scal .non (.str j) = true ↔ True := iff_true_intro rfl
theorem sc_sn {j : Str} : scal (.str j) .non = true ↔ True := iff_true_intro rfl
theorem sc_ni {j : Int} : scal .non (.int j) = true ↔ True := iff_true_intro rfl
theorem sc_in {j : Int} : scal (.int j) .non = true ↔ True := iff_true_intro rfl
theorem tri (t : Int) : (t + 1) * (t + 1 + 1) / 2 = t * (t + 1) / 2 + (t + 1) := by
  have e : (t + 1) * (t + 1 + 1) = t * (t + 1) + 2 * (t + 1) := by
    rw [Int.mul_add (t + 1) (t + 1) 1, Int.add_mul t 1 (t + 1)]
    omega
  rw [e]
  omega
theorem atI_in {α : Type} {xs : List α} {i : Int} (h0 : 0 ≤ i) (h : i < xs.length) : atI xs i = some (xs[i.toNat]'(by omega)) := by
  unfold atI ixN
  rw [if_pos h0, if_pos h]
  show xs[i.toNat]? = _
  exact List.getElem?_eq_getElem _
theorem atI_map {ns : List Int} {i : Int} (h0 : 0 ≤ i) (h : i < ns.length) : ∃ n, n ∈ ns ∧ atI (ns.map V.int) i = some (.int n) := by
  have h2 : i < ((ns.map V.int).length : Nat) := by rw [List.length_map]; exact h
  refine ⟨ns[i.toNat]'(by omega), List.getElem_mem _, ?_⟩
  rw [atI_in h0 h2, List.getElem_map]
theorem two_pow (n : Nat) : (2 : Int) ^ n = ((2 ^ n : Nat) : Int) := by
  rw [Int.natCast_pow]; rfl
theorem abs_lt {i : Int} {n : Nat} (h0 : 0 ≤ i) (h : i < 2 ^ n) : i.natAbs < 2 ^ n := by
  rw [two_pow] at h
  omega
theorem pow_bits {i : Int} {n m : Nat} (hn : 0 < n) (h0 : 0 ≤ i) (h : i < 2 ^ n) (hm : n * m ≤ 2 ^ 27) : 0 ≤ (m : Int) ∧ (Builtin.Int.intBits i : Int) * (m : Int) ≤ 2 ^ 27 := by
  have h2 := bits_le hn (abs_lt h0 h)
  refine ⟨by omega, ?_⟩
  have h3 : Builtin.Int.intBits i * m ≤ 2 ^ 27 := Nat.le_trans (Nat.mul_le_mul_right m h2) hm
  have h4 : ((Builtin.Int.intBits i * m : Nat) : Int) ≤ ((2 ^ 27 : Nat) : Int) := Int.ofNat_le.mpr h3
  rw [Int.natCast_mul] at h4
  exact h4
theorem mul_w {i j : Int} {n : Nat} (hn : 0 < n) (h0 : 0 ≤ i) (h : i < 2 ^ n) (h1 : 0 ≤ j) (h2 : j < 2 ^ n) (hm : n + n ≤ 1000000) : CMulW i j := wide_mul (a := n) (b := n) (abs_lt h0 h) (abs_lt h1 h2) hn hn hm
theorem div_w {i j : Int} {n : Nat} (hn : 0 < n) (h0 : 0 < j) (h : j < 2 ^ n) (hm : n ≤ 9000) : CDivW i j := wide_div h0 (b := n) (abs_lt (by omega) h) hn hm
end Vg


set_option Elab.async false
set_option linter.all false
set_option maxRecDepth 100000
set_option maxHeartbeats 4000000
namespace My
open PySem PySem.Spec PyProof.Rows L2 Vg
theorem cp_10_15 : CPow 10 15 ↔ True := iff_true_intro ⟨by decide, by decide, by decide⟩
theorem sz_3 : 3 ≤ sizeLine ↔ True := iff_true_intro (by decide)
theorem sz_2 : 2 ≤ sizeLine ↔ True := iff_true_intro (by decide)
theorem sz_0 : 0 ≤ sizeLine ↔ True := iff_true_intro (by decide)
theorem cp_10_44 : CPow 10 44 ↔ True := iff_true_intro ⟨by decide, by decide, by decide⟩
theorem cp_10_43 : CPow 10 43 ↔ True := iff_true_intro ⟨by decide, by decide, by decide⟩
theorem cp_10_18 : CPow 10 18 ↔ True := iff_true_intro ⟨by decide, by decide, by decide⟩
theorem cp_10_4 : CPow 10 4 ↔ True := iff_true_intro ⟨by decide, by decide, by decide⟩
theorem cp_10_9 : CPow 10 9 ↔ True := iff_true_intro ⟨by decide, by decide, by decide⟩
theorem cp_10_39 : CPow 10 39 ↔ True := iff_true_intro ⟨by decide, by decide, by decide⟩
end My

open PySem PySem.Spec PyProof.Rows L2 Vg
set_option hygiene false in
local macro_rules | `(tactic| walk_at "vc") => `(tactic| try simp only [k_cx, k_cx2, My.cp_10_15, My.sz_3, My.sz_2, My.sz_0, My.cp_10_44, My.cp_10_43, My.cp_10_18, My.cp_10_4, My.cp_10_9, My.cp_10_39, e_var, e_c, e_op, e_un, e_if, e_andV, e_orV, e_notV, e_lst, e_tup, e_CB, e_BM, e_BM0, e_G, e_chain, e_sl, e_part, e_nopart, a_nil, a_cons, t_B, t_test, t_and, t_or, t_not, t_yes,
  s_seq, s_next, s_break, s_cont, s_drop, s_ret, s_retN, s_ifS, s_asg, s_aug, s_par, Int.zero_add, g_name, g_tup, g_nil, g_cons, g_sub, i_list, i_tup, i_rng1, i_rng2, i_enum, s_for, e_lc, x_I, x_I0, x_U, x_eq, x_ne, x_ixL, x_ixT, x_setL, x_app, x_ext, x_cat, x_slL, x_in, x_repr, e_fld, s_fld, e_MG, e_KG, x_rpt, x_rem, x_min, e_lrg1, e_rg1, x_rev, s_augS, x_ip, i_rng3, x_isR, x_is_int, x_is_bool, x_is_bi, x_is_bb, x_is_ib, x_is_nb, x_is_ni, x_is_sb, x_is_si, x_len, x_mx, x_mn,
  wipe, sc_ii, sc_ss, sc_bb, sc_nn, sc_ns, sc_sn, sc_ni, sc_in, List.set_cons_zero, List.set_cons_succ, List.getElem?_cons_zero, List.getElem?_cons_succ, Option.some.injEq, exists_eq_left', exists_eq_left, exists_and_left, exists_and_right, V.int.injEq, V.bl.injEq, V.ref.injEq, V.str.injEq, List.cons.injEq, and_true, true_and, decide_eq_true_eq, List.append_nil, reduceCtorEq, and_assoc,
  L2.start, List.map_cons, List.map_nil, List.length_cons, List.length_nil, List.replicate, List.cons_append, List.nil_append, Nat.reduceAdd, Nat.reduceSub, Nat.zero_add, ipI, decide_true, decide_false, if_true, if_false, Bool.not_true, Bool.not_false, Bool.false_eq_true, Int.reduceToNat, Int.reducePow, Int.reduceAdd, Int.reduceSub, Int.reduceMul, Int.reduceNeg, List.length_map])
local macro_rules | `(tactic| walk_at "sd") => `(tactic| first | assumption | omega | decide | exact ⟨by decide, by decide, by decide⟩ | exact ⟨by decide, by decide⟩ | (unfold CMul; omega) | (unfold CDiv; omega) | (show (_ : Nat) ≤ sizeLine; decide) | rfl)
local macro_rules | `(tactic| walk_at "mem") => `(tactic| (repeat (first | exact List.Mem.head _ | apply List.Mem.tail)))
local macro_rules | `(tactic| walk_at "put") => `(tactic| (repeat (first | exact Put.hd | apply Put.tl)))
local macro_rules | `(tactic| walk_at "pick") => `(tactic| (repeat (first | exact Pick.hd | apply Pick.tl)))
local macro_rules | `(tactic| walk_at "sel") => `(tactic| first | exact Sel.all | exact Sel.nil | (refine Sel.cons (by walk_at "pick") ?_; walk_at "sel") | (refine Sel.skip ?_; walk_at "sel"))
local macro_rules | `(tactic| walk_at "ifs") => `(tactic| repeat (first | rw [if_pos (by omega)] | rw [if_neg (by omega)]))
local macro_rules | `(tactic| walk_at "sds") => `(tactic| repeat (with_reducible refine And.intro (by walk_at "sd") ?_))
namespace My
open PySem PySem.Spec PyProof.Rows L2 Vg
def topS (i : Nat) : Stmt := PySem.Challenge.pw_splitnames_k08_names_of_cells.main.body.getD i (.Pass ⟨0, 0, 0, 0⟩)
abbrev s_law_cells : Stmt := topS 15
theorem sc_law_cells : FnScope ["diagonals", "found", "diagonal", "right"] ["diagonals"] (defScope s_law_cells) := ⟨rfl, rfl, rfl, by decide +kernel, rfl, by decide +kernel, by decide +kernel⟩
abbrev s_law_urn : Stmt := topS 12
theorem sc_law_urn : FnScope ["script", "k", "cell"] ["script", "k"] (defScope s_law_urn) := ⟨rfl, rfl, rfl, by decide +kernel, rfl, by decide +kernel, by decide +kernel⟩
abbrev s_is_integer : Stmt := topS 4
theorem sc_is_integer : FnScope ["value"] ["value"] (defScope s_is_integer) := ⟨rfl, rfl, rfl, by decide +kernel, rfl, by decide +kernel, by decide +kernel⟩
abbrev s_is_integer_within : Stmt := topS 5
theorem sc_is_integer_within : FnScope ["value", "least", "greatest"] ["value", "least", "greatest"] (defScope s_is_integer_within) := ⟨rfl, rfl, rfl, by decide +kernel, rfl, by decide +kernel, by decide +kernel⟩
abbrev s_check_coordinate : Stmt := topS 9
theorem sc_check_coordinate : FnScope ["value"] ["value"] (defScope s_check_coordinate) := ⟨rfl, rfl, rfl, by decide +kernel, rfl, by decide +kernel, by decide +kernel⟩
abbrev s_cells_before : Stmt := topS 10
theorem sc_cells_before : FnScope ["diagonal"] ["diagonal"] (defScope s_cells_before) := ⟨rfl, rfl, rfl, by decide +kernel, rfl, by decide +kernel, by decide +kernel⟩
abbrev s_name_of : Stmt := topS 8
theorem sc_name_of : FnScope ["right", "down"] ["right", "down"] (defScope s_name_of) := ⟨rfl, rfl, rfl, by decide +kernel, rfl, by decide +kernel, by decide +kernel⟩
abbrev s_law_name : Stmt := topS 14
theorem sc_law_name : FnScope ["cell", "right", "down"] ["cell"] (defScope s_law_name) := ⟨rfl, rfl, rfl, by decide +kernel, rfl, by decide +kernel, by decide +kernel⟩
abbrev s_law_dip : Stmt := topS 13
theorem sc_law_dip : FnScope ["urn", "size", "found", "mixed"] ["urn", "size"] (defScope s_law_dip) := ⟨rfl, rfl, rfl, by decide +kernel, rfl, by decide +kernel, by decide +kernel⟩
abbrev s_law_ten : Stmt := topS 16
theorem sc_law_ten : FnScope ["many", "found", "turn"] ["many"] (defScope s_law_ten) := ⟨rfl, rfl, rfl, by decide +kernel, rfl, by decide +kernel, by decide +kernel⟩
abbrev s_law_far : Stmt := topS 17
theorem sc_law_far : FnScope ["urn", "some"] ["urn"] (defScope s_law_far) := ⟨rfl, rfl, rfl, by decide +kernel, rfl, by decide +kernel, by decide +kernel⟩
abbrev s_law_next_right : Stmt := topS 18
theorem sc_law_next_right : FnScope ["right", "down", "due"] ["right", "down", "due"] (defScope s_law_next_right) := ⟨rfl, rfl, rfl, by decide +kernel, rfl, by decide +kernel, by decide +kernel⟩
abbrev s_law : Stmt := topS 19
theorem sc_law : FnScope ["script", "cells", "at", "cell", "k", "urn", "turn", "due", "right", "down"] ["script"] (defScope s_law) := ⟨rfl, rfl, rfl, by decide +kernel, rfl, by decide +kernel, by decide +kernel⟩
/-- where the top has laid what the text names -/
structure Ad where
  a_law_cells : Addr
  fd_law_cells : FuncData
  a_law_urn : Addr
  fd_law_urn : FuncData
  a_is_integer : Addr
  fd_is_integer : FuncData
  a_is_integer_within : Addr
  fd_is_integer_within : FuncData
  a_check_coordinate : Addr
  fd_check_coordinate : FuncData
  a_cells_before : Addr
  fd_cells_before : FuncData
  a_name_of : Addr
  fd_name_of : FuncData
  a_law_name : Addr
  fd_law_name : FuncData
  a_law_dip : Addr
  fd_law_dip : FuncData
  a_law_ten : Addr
  fd_law_ten : FuncData
  a_law_far : Addr
  fd_law_far : FuncData
  a_law_next_right : Addr
  fd_law_next_right : FuncData
  a_law : Addr
  fd_law : FuncData
structure Mo (K : PySem.W.Frag) (mg : Str → Option Value) (d : Ad) : Prop where
  F_law_cells : Fun K "_law_cells" "_law_cells" s_law_cells d.a_law_cells d.fd_law_cells
  b_law_cells : Binds K d.fd_law_cells ["diagonals"] []
  g_law_cells : mg "_law_cells" = some (.ref d.a_law_cells)
  F_law_urn : Fun K "_law_urn" "_law_urn" s_law_urn d.a_law_urn d.fd_law_urn
  b_law_urn : Binds K d.fd_law_urn ["script", "k"] []
  g_law_urn : mg "_law_urn" = some (.ref d.a_law_urn)
  F_is_integer : Fun K "is_integer" "is_integer" s_is_integer d.a_is_integer d.fd_is_integer
  b_is_integer : Binds K d.fd_is_integer ["value"] []
  g_is_integer : mg "is_integer" = some (.ref d.a_is_integer)
  F_is_integer_within : Fun K "is_integer_within" "is_integer_within" s_is_integer_within d.a_is_integer_within d.fd_is_integer_within
  b_is_integer_within : Binds K d.fd_is_integer_within ["value", "least", "greatest"] []
  g_is_integer_within : mg "is_integer_within" = some (.ref d.a_is_integer_within)
  F_check_coordinate : Fun K "_check_coordinate" "_check_coordinate" s_check_coordinate d.a_check_coordinate d.fd_check_coordinate
  b_check_coordinate : Binds K d.fd_check_coordinate ["value"] []
  g_check_coordinate : mg "_check_coordinate" = some (.ref d.a_check_coordinate)
  F_cells_before : Fun K "_cells_before" "_cells_before" s_cells_before d.a_cells_before d.fd_cells_before
  b_cells_before : Binds K d.fd_cells_before ["diagonal"] []
  g_cells_before : mg "_cells_before" = some (.ref d.a_cells_before)
  F_name_of : Fun K "name_of" "name_of" s_name_of d.a_name_of d.fd_name_of
  b_name_of : Binds K d.fd_name_of ["right", "down"] []
  g_name_of : mg "name_of" = some (.ref d.a_name_of)
  F_law_name : Fun K "_law_name" "_law_name" s_law_name d.a_law_name d.fd_law_name
  b_law_name : Binds K d.fd_law_name ["cell"] []
  g_law_name : mg "_law_name" = some (.ref d.a_law_name)
  F_law_dip : Fun K "_law_dip" "_law_dip" s_law_dip d.a_law_dip d.fd_law_dip
  b_law_dip : Binds K d.fd_law_dip ["urn", "size"] []
  g_law_dip : mg "_law_dip" = some (.ref d.a_law_dip)
  F_law_ten : Fun K "_law_ten" "_law_ten" s_law_ten d.a_law_ten d.fd_law_ten
  b_law_ten : Binds K d.fd_law_ten ["many"] []
  g_law_ten : mg "_law_ten" = some (.ref d.a_law_ten)
  F_law_far : Fun K "_law_far" "_law_far" s_law_far d.a_law_far d.fd_law_far
  b_law_far : Binds K d.fd_law_far ["urn"] []
  g_law_far : mg "_law_far" = some (.ref d.a_law_far)
  F_law_next_right : Fun K "_law_next_right" "_law_next_right" s_law_next_right d.a_law_next_right d.fd_law_next_right
  b_law_next_right : Binds K d.fd_law_next_right ["right", "down", "due"] []
  g_law_next_right : mg "_law_next_right" = some (.ref d.a_law_next_right)
  F_law : Fun K "law" "law" s_law d.a_law d.fd_law
  b_law : Binds K d.fd_law ["script"] []
  g_law : mg "law" = some (.ref d.a_law)
  n_bool : mg "bool" = none
  n_enumerate : mg "enumerate" = none
  n_int : mg "int" = none
  n_isinstance : mg "isinstance" = none
  n_len : mg "len" = none
  n_max : mg "max" = none
  n_min : mg "min" = none
  n_range : mg "range" = none
  n_repr : mg "repr" = none
  mg_GREATEST_COORDINATE : ∃ t, mg "GREATEST_COORDINATE" = some (.int (1000000000000000) t)
/-- a drawer of numbers stands at u, besides l -/
def Urn (B H : Hp) (u : Addr) (l : List (Addr × HO)) (c : Nat) : Prop := ∃ x y z : Int, Led B H ((u, .lst [.int x, .int y, .int z]) :: l) ∧ 0 ≤ x ∧ 0 ≤ y ∧ y < 2 ^ 150 ∧ 0 ≤ z ∧ z ≤ (c : Int)
theorem Urn.led {B H : Hp} {u : Addr} {l : List (Addr × HO)} {c : Nat} (U : Urn B H u l c) : Led B H l := by
  obtain ⟨x, y, z, L, _⟩ := U
  exact L.drop (n := 1)
theorem Urn.map {B H B' H' : Hp} {u : Addr} {l l' : List (Addr × HO)} {c : Nat} (U : Urn B H u l c) (h : ∀ o, Led B H ((u, o) :: l) → Led B' H' ((u, o) :: l')) : Urn B' H' u l' c := by
  obtain ⟨x, y, z, L, r⟩ := U
  exact ⟨x, y, z, h _ L, r⟩
theorem Urn.up {B H : Hp} {u : Addr} {l : List (Addr × HO)} {c d : Nat} (U : Urn B H u l c) (h : c ≤ d) : Urn B H u l d := by
  obtain ⟨x, y, z, L, r1, r2, r3, r4, r5⟩ := U
  exact ⟨x, y, z, L, r1, r2, r3, r4, by omega⟩
theorem Urn.new {B H : Hp} {u : Addr} {l : List (Addr × HO)} {c : Nat} {o : HO} {G : Addr → Hp → Prop} (U : Urn B H u l c) (k : ∀ p H1, Urn B H1 u ((p, o) :: l) c → G p H1) : NewK o H G := fun p hp =>
  k p _ (U.map fun o L => (L.new hp).sel (.cons (.tl .hd) .all))
theorem Urn.sel {B H : Hp} {u : Addr} {l l' : List (Addr × HO)} {c : Nat} (U : Urn B H u l c) (h : Sel l l') : Urn B H u l' c := U.map fun o L => L.sel (.cons .hd h)
theorem Urn.put {B H : Hp} {u p : Addr} {o : HO} {l l' : List (Addr × HO)} {c : Nat} (U : Urn B H u l c) (h : Put l p o l') : Urn B (upd H p o) u l' c := U.map fun _ L => L.put (.tl h)
theorem Urn.catK {B H : Hp} {u p q : Addr} {l : List (Addr × HO)} {c : Nat} {xs ys : List V} {G : Addr → Hp → Prop} (U : Urn B H u l c) (h : (p, HO.lst xs) ∈ l) (h2 : (q, HO.lst ys) ∈ l) (a : xs.length + ys.length ≤ sizeLine)
    (k : ∀ r H1, Urn B H1 u ((r, .lst (xs ++ ys)) :: l) c → G r H1) : CatK p q H G := ⟨xs, ys, U.led.at h, U.led.at h2, a, U.new k⟩
theorem Urn.appK {B H : Hp} {u p : Addr} {l l' : List (Addr × HO)} {c : Nat} {xs : List V} {v : V} {G : Hp → Prop} (U : Urn B H u l c) (h : (p, HO.lst xs) ∈ l) (a : xs.length < sizeLine) (t : Put l p (.lst (xs ++ [v])) l')
    (k : ∀ H1, Urn B H1 u l' c → G H1) : AppK p v H G := ⟨xs, U.led.at h, a, k _ (U.put t)⟩
theorem Urn.setK {B H : Hp} {u p : Addr} {l l' : List (Addr × HO)} {c j : Nat} {i : Int} {xs : List V} {v : V} {G : Hp → Prop} (U : Urn B H u l c) (h : (p, HO.lst xs) ∈ l) (a : ixN xs.length i = some j) (t : Put l p (.lst (xs.set j v)) l')
    (k : ∀ H1, Urn B H1 u l' c → G H1) : SetK p i v H G := ⟨xs, j, U.led.at h, a, k _ (U.put t)⟩
def nameC (r d : Int) : Int := (r + d) * (r + d + 1) / 2 + r
/-- the cells of n diagonals -/
def diagC (n : Nat) : List (Int × Int) := (List.range (n + 1)).map fun (r : Nat) => ((r : Int), (n : Int) - (r : Int))
def cellsC : Nat → List (Int × Int)
  | 0 => []
  | n + 1 => cellsC n ++ diagC n
theorem cells_named : ((cellsC 40).zipIdx.all fun p => decide (nameC p.1.1 p.1.2 = (p.2 : Int)) && decide (0 ≤ p.1.1 ∧ 0 ≤ p.1.2 ∧ p.1.1 < 100 ∧ p.1.2 < 100)) = true := by decide +kernel
theorem cells_len : ∀ n, (cellsC n).length ≤ n * (n + 1)
  | 0 => Nat.le_refl _
  | n + 1 => by
    have := cells_len n
    show (cellsC n ++ diagC n).length ≤ _
    have e : (diagC n).length = n + 1 := by unfold diagC; rw [List.length_map, List.length_range]
    rw [List.length_append, e, Nat.succ_mul, Nat.mul_succ, Nat.mul_succ]
    rw [Nat.mul_succ] at this
    omega
/-- xs are tuples of these cells, that stand in B -/
def Cells (B : Hp) (xs : List V) (cs : List (Int × Int)) : Prop := xs.length = cs.length ∧ ∀ (i : Nat) (v : V), xs[i]? = some v → ∃ t r d, v = V.ref t ∧ cs[i]? = some (r, d) ∧ B t = some (.tup [.int r, .int d])
theorem Cells.mono {B B' : Hp} {xs : List V} {cs : List (Int × Int)} (h : Cells B xs cs) (s : Same B B') : Cells B' xs cs := ⟨h.1, fun i v z => by
  obtain ⟨t, r, d, h1, h2, h3⟩ := h.2 i v z
  exact ⟨t, r, d, h1, h2, s _ _ h3⟩⟩
theorem Cells.nil (B : Hp) : Cells B [] [] := ⟨rfl, fun i v z => by rw [List.getElem?_nil] at z; cases z⟩
theorem Cells.app {B : Hp} {xs ys : List V} {cs ds : List (Int × Int)} (h : Cells B xs cs) (h2 : Cells B ys ds) : Cells B (xs ++ ys) (cs ++ ds) := by
  refine ⟨by rw [List.length_append, List.length_append, h.1, h2.1], fun i v z => ?_⟩
  by_cases c : i < xs.length
  · rw [List.getElem?_append_left c] at z
    obtain ⟨t, r, d, e1, e2, e3⟩ := h.2 i v z
    exact ⟨t, r, d, e1, by rw [List.getElem?_append_left (by rw [← h.1]; exact c)]; exact e2, e3⟩
  · rw [List.getElem?_append_right (by omega)] at z
    obtain ⟨t, r, d, e1, e2, e3⟩ := h2.2 _ v z
    exact ⟨t, r, d, e1, by rw [List.getElem?_append_right (by rw [← h.1]; omega), ← h.1]; exact e2, e3⟩
theorem Cells.one {B : Hp} {t : Addr} {r d : Int} (h : B t = some (.tup [.int r, .int d])) : Cells B [V.ref t] [(r, d)] := by
  refine ⟨rfl, fun i v z => ?_⟩
  cases i with
  | zero => cases z; exact ⟨t, r, d, rfl, rfl, h⟩
  | succ i => simp at z
section
variable {P : Program} {w : World} {K : PySem.W.Frag} {mg : Str → Option Value} {bs : Heap} {d : Ad}
def sp_law_cells (K : PySem.W.Frag) : Sp := fun vs H Q _ => ∃ n : Nat, vs = [.int n] ∧ n ≤ 100 ∧ ∀ p H' B' xs, Same H B' → Led B' H' [(p, .lst xs)] → Cells B' xs (cellsC n) → Q (.ref p) H'
theorem ok_law_cells (m : Mo K mg d) : Fg P w K mg bs CX0 1 d.a_law_cells d.fd_law_cells ["diagonals"] (sp_law_cells K) := by
  refine ok (n := 0) m.F_law_cells sc_law_cells (fun vs H Q E h => ?_) (fun cdv A fr s H vs Q E hg hr h => ?_)
  · obtain ⟨n, rfl, h0, q⟩ := h
    rfl
  · obtain ⟨n, rfl, h0, q⟩ := h
    refine ⟨_, (pss_cons (ps_asg (pe_lst pa_nil) (pg_name (i := 1) sc_law_cells.nd rfl (.inl rfl)))
      (pss_cons (ps_for PassesOwn.never rfl (pi_range1 (by rfl) m.n_range (pa_cons (pv 0) pa_nil)) (pg_name (i := 2) sc_law_cells.nd rfl (.inr rfl))
      (pss_one (ps_expr (pe_bm PySem.F.plainAttrs_list PySem.F.slot_list_extend PySem.F.type_list_extend mt_extend (pv 1) (pa_cons (pe_lc (own := [("right", 3)]) (by rfl) sc_law_cells.nd (pi_range1 (by rfl) m.n_range (pa_cons (pe_op op_add (pv 2) pe_int) pa_nil)) (blkOk_by (own := [("right", 3)]) (N := ["diagonals", "found", "diagonal", "right"]) (sc := defScope s_law_cells) (by decide +kernel)) (fun _ _ _ _ _ => by exact (pg_name (i := 3) sc_law_cells.nd rfl (.inl rfl))) (fun _ _ _ _ _ => by exact pts_nil) (fun _ _ _ _ _ => by exact (pe_tup (pa_cons (pv 3) (pa_cons (pe_op op_sub (pv 2) (pv 3)) pa_nil))))) pa_nil)))))
      (pss_one (ps_ret (pv 1))))), ?_⟩
    walk_at "vc"
    refine NewK.of (Led.nil H) fun p H1 L => ⟨by omega, by omega, ?_⟩
    refine loop_range (fun i σ H' => ∃ y B' xs, σ = [some (.int n), some (.ref p), y, none] ∧ Same H B' ∧ Led B' H' [(p, .lst xs)] ∧ Cells B' xs (cellsC i)) ⟨_, H, [], rfl, Same.refl H, L, Cells.nil H⟩ (fun i σ H' N hi h hN => ?_) (fun σ H' h => ?_)
    · obtain ⟨y, B', xs, rfl, hs, L, hc⟩ := h
      walk_at "vc"
      refine ⟨.inl ⟨rfl, _, L.lstAt (by walk_at "mem")⟩, by omega, by omega, ?_⟩
      refine comp_range (fun j q acc H2 => ∃ B2, Same B' B2 ∧ Led B2 H2 [(q, .lst acc), (p, .lst xs)] ∧ Cells B2 acc ((diagC i).take j)) (fun q hq => ⟨B', Same.refl _, L.new hq, Cells.nil _⟩) ?_ ?_
      · rintro q acc H2 ⟨B2, s2, M, c2⟩
        walk_at "vc"
        have e : (diagC i).take (((i : Int) + 1).toNat) = diagC i := List.take_of_length_le (by unfold diagC; rw [List.length_map, List.length_range]; omega)
        rw [e] at c2
        have z1 := hc.1
        have z2 := c2.1
        have z3 := cells_len (i + 1)
        have z4 : (i + 1) * (i + 1 + 1) ≤ 101 * 102 := Nat.mul_le_mul (by omega) (by omega)
        have z5 : (cellsC (i + 1)).length = (cellsC i).length + (diagC i).length := List.length_append
        exact ExtK.of M (by walk_at "mem") (by walk_at "mem") (Nat.le_trans (m := 100000) (by omega) (by decide)) (by walk_at "put") fun H3 M3 => hN _ _ ⟨_, B2, _, rfl, hs.trans s2, M3.sel (by walk_at "sel"), (hc.mono s2).app c2⟩
      · rintro j q acc H2 N2 hj ⟨B2, s2, M, c2⟩ hN2
        unfold TurnK
        walk_at "vc"
        refine NewK.of M fun t H3 M3 => ?_
        obtain ⟨B3, s3, ht, M4⟩ := M3.sink
        have z : j < i + 1 := by omega
        have z1 := c2.1
        have z2 : ((diagC i).take j).length ≤ j := List.length_take_le _ _
        have e : (diagC i).take (j + 1) = (diagC i).take j ++ [((j : Int), (i : Int) - (j : Int))] := by
          rw [List.take_add_one]
          congr 1
          unfold diagC
          rw [List.getElem?_map, List.getElem?_range z]
          rfl
        refine AppK.of M4 (by walk_at "mem") (Nat.lt_of_lt_of_le (m := 100000) (by omega) (by decide)) (by walk_at "put") fun H4 M5 => hN2 _ _ ⟨B3, s2.trans s3, M5, ?_⟩
        rw [e]
        exact (c2.mono s3).app (Cells.one ht)
    · obtain ⟨y, B', xs, rfl, hs, L, hc⟩ := h
      walk_at "vc"
      exact q p H' B' xs hs L (by rw [Int.toNat_natCast] at hc; exact hc)
def sp_law_urn (K : PySem.W.Frag) : Sp := fun vs H Q _ => ∃ (a : Addr) (ns : List Int) (k : Int), vs = [.ref a, .int k] ∧ SqL K H a (ns.map V.int) ∧ 0 ≤ k ∧ k < 1000 ∧ ∀ p H', Urn H H' p [] 0 → Q (.ref p) H'
theorem ok_law_urn (m : Mo K mg d) : Fg P w K mg bs CX0 1 d.a_law_urn d.fd_law_urn ["script", "k"] (sp_law_urn K) := by
  refine ok (n := 0) m.F_law_urn sc_law_urn (fun vs H Q E h => ?_) (fun cdv A fr s H vs Q E hg hr h => ?_)
  · obtain ⟨a, ns, k, rfl, hS, h0, h1, q⟩ := h
    rfl
  · obtain ⟨a, ns, k, rfl, hS, h0, h1, q⟩ := h
    refine ⟨_, (pss_cons (ps_asg pe_int (pg_name (i := 2) sc_law_urn.nd rfl (.inl rfl)))
      (pss_cons (ps_if (pt_cmpR op_lt (pv 1) (pe_callB cr_len (by rfl) m.n_len (by decide +kernel) (pa_cons (pv 0) pa_nil)) (nomark _))
      (pss_one (ps_asg (pe_ix ix_list (pv 0) (pv 1) (fun _ _ => rfl)) (pg_name (i := 2) sc_law_urn.nd rfl (.inl rfl))))
      pss_nil)
      (pss_one (ps_ret (pe_lst (pa_cons (pe_callB (cr_max2 rfl) (by rfl) m.n_max (by decide +kernel) (pa_cons pe_int (pa_cons (pe_op op_sub (pv 2) (pe_op op_pow pe_int pe_int)) pa_nil))) (pa_cons (pe_op op_add (pe_op op_add (pe_op op_mul (pe_op op_mod (pv 2) (pe_op op_add (pe_op op_pow pe_int pe_int) pe_int)) pe_int) (pe_op op_mul pe_int (pv 1))) pe_int) (pa_cons pe_int pa_nil)))))))), ?_⟩
    walk_at "vc"
    refine LenK.ofL hS ?_
    walk_at "vc"
    split
    · obtain ⟨n, _, hn⟩ := atI_map h0 ‹_›
      refine IxLK.of hS hn ?_
      walk_at "vc"
      walk_at "sds"
      exact NewK.of (Led.nil H) fun p H1 L => q p H1 ⟨_, _, _, L, by omega, by omega, by omega, by omega, by omega⟩
    · walk_at "sds"
      exact NewK.of (Led.nil H) fun p H1 L => q p H1 ⟨_, _, _, L, by omega, by omega, by omega, by omega, by omega⟩
def sp_is_integer (K : PySem.W.Frag) : Sp := fun vs H Q _ => ∃ a : Int, vs = [.int a] ∧ Q (.bl true) H
theorem ok_is_integer (m : Mo K mg d) : Fg P w K mg bs CX0 1 d.a_is_integer d.fd_is_integer ["value"] (sp_is_integer K) := by
  refine ok (n := 0) m.F_is_integer sc_is_integer (fun vs H Q E h => ?_) (fun cdv A fr s H vs Q E hg hr h => ?_)
  · obtain ⟨a, rfl, q⟩ := h
    rfl
  · obtain ⟨a, rfl, q⟩ := h
    refine ⟨_, (pss_one (ps_ret (pe_and (pe_callB cr_is (by rfl) m.n_isinstance (by decide +kernel) (pa_cons (pv 0) (pa_cons (pe_bltn (v := .ty "int") (by rfl) m.n_int (by decide +kernel) rfl) pa_nil))) (pe_one (pe_not (pe_callB cr_is (by rfl) m.n_isinstance (by decide +kernel) (pa_cons (pv 0) (pa_cons (pe_bltn (v := .ty "bool") (by rfl) m.n_bool (by decide +kernel) rfl) pa_nil)))))))), ?_⟩
    walk_at "vc"
    exact q
def sp_is_integer_within (K : PySem.W.Frag) : Sp := fun vs H Q _ => ∃ a lo hi : Int, vs = [.int a, .int lo, .int hi] ∧ Q (.bl (decide (lo ≤ a) && decide (a ≤ hi))) H
theorem ok_is_integer_within (m : Mo K mg d) (G_is_integer : Fg P w K mg bs CX0 1 d.a_is_integer d.fd_is_integer ["value"] (sp_is_integer K)) : Fg P w K mg bs CX0 2 d.a_is_integer_within d.fd_is_integer_within ["value", "least", "greatest"] (sp_is_integer_within K) := by
  refine ok (n := 1) m.F_is_integer_within sc_is_integer_within (fun vs H Q E h => ?_) (fun cdv A fr s H vs Q E hg hr h => ?_)
  · obtain ⟨a, lo, hi, rfl, q⟩ := h
    rfl
  · obtain ⟨a, lo, hi, rfl, q⟩ := h
    refine ⟨_, (pss_one (ps_ret (pe_and (pg_call G_is_integer hg (hr.mono (by decide)) (by rfl) m.g_is_integer m.F_is_integer.kp m.b_is_integer .nil (fun _ => passG) (pa_cons (pv 0) pa_nil)) (pe_one (pe_chain op_le op_le (pv 1) (pv 0) (pv 2)))))), ?_⟩
    walk_at "vc"
    refine ⟨_, rfl, ?_⟩
    walk_at "vc"
    split
    · rename_i h1
      rw [decide_eq_true h1] at q
      exact q
    · rename_i h1
      rw [decide_eq_false h1] at q
      exact q
def sp_check_coordinate (K : PySem.W.Frag) : Sp := fun vs H Q _ => ∃ t : Int, vs = [.int t] ∧ 0 ≤ t ∧ t ≤ 10 ^ 15 ∧ Q .non H
theorem ok_check_coordinate (m : Mo K mg d) (G_is_integer_within : Fg P w K mg bs CX0 2 d.a_is_integer_within d.fd_is_integer_within ["value", "least", "greatest"] (sp_is_integer_within K)) : Fg P w K mg bs CX0 3 d.a_check_coordinate d.fd_check_coordinate ["value"] (sp_check_coordinate K) := by
  obtain ⟨t_GREATEST_COORDINATE, h_GREATEST_COORDINATE⟩ := m.mg_GREATEST_COORDINATE
  refine ok (n := 2) m.F_check_coordinate sc_check_coordinate (fun vs H Q E h => ?_) (fun cdv A fr s H vs Q E hg hr h => ?_)
  · obtain ⟨t, rfl, h0, h1, q⟩ := h
    rfl
  · obtain ⟨t, rfl, h0, h1, q⟩ := h
    refine ⟨_, (pss_one (ps_if (pt_not (pt_val (pg_call G_is_integer_within hg (hr.mono (by decide)) (by rfl) m.g_is_integer_within m.F_is_integer_within.kp m.b_is_integer_within .nil (fun _ => passG) (pa_cons (pv 0) (pa_cons pe_int (pa_cons (pe_glob (v := .int (1000000000000000)) rfl h_GREATEST_COORDINATE ⟨_, rfl⟩) pa_nil))))))
      (pss_one ps_never)
      pss_nil)), ?_⟩
    walk_at "vc"
    refine ⟨_, _, _, rfl, ?_⟩
    walk_at "vc"
    rw [decide_eq_true h0, decide_eq_true (show t ≤ 1000000000000000 from h1)]
    walk_at "vc"
    exact q
def sp_cells_before (K : PySem.W.Frag) : Sp := fun vs H Q _ => ∃ t : Int, vs = [.int t] ∧ 0 ≤ t ∧ t < 2 ^ 60 ∧ Q (.int (t * (t + 1) / 2)) H
theorem ok_cells_before (m : Mo K mg d) : Fg P w K mg bs CX0 1 d.a_cells_before d.fd_cells_before ["diagonal"] (sp_cells_before K) := by
  refine ok (n := 0) m.F_cells_before sc_cells_before (fun vs H Q E h => ?_) (fun cdv A fr s H vs Q E hg hr h => ?_)
  · obtain ⟨t, rfl, h0, h1, q⟩ := h
    rfl
  · obtain ⟨t, rfl, h0, h1, q⟩ := h
    refine ⟨_, (pss_one (ps_ret (pe_op op_fdiv (pe_op op_mul (pv 0) (pe_op op_add (pv 0) pe_int)) pe_int))), ?_⟩
    walk_at "vc"
    exact ⟨by walk_at "sd", by walk_at "sd", q⟩
def sp_name_of (K : PySem.W.Frag) : Sp := fun vs H Q _ => ∃ r d : Int, vs = [.int r, .int d] ∧ 0 ≤ r ∧ r ≤ 10 ^ 15 ∧ 0 ≤ d ∧ d ≤ 10 ^ 15 ∧ Q (.int (nameC r d)) H
theorem ok_name_of (m : Mo K mg d) (G_check_coordinate : Fg P w K mg bs CX0 3 d.a_check_coordinate d.fd_check_coordinate ["value"] (sp_check_coordinate K)) (G_cells_before : Fg P w K mg bs CX0 1 d.a_cells_before d.fd_cells_before ["diagonal"] (sp_cells_before K)) : Fg P w K mg bs CX0 4 d.a_name_of d.fd_name_of ["right", "down"] (sp_name_of K) := by
  refine ok (n := 3) m.F_name_of sc_name_of (fun vs H Q E h => ?_) (fun cdv A fr s H vs Q E hg hr h => ?_)
  · obtain ⟨r, d', rfl, h0, h1, h2, h3, q⟩ := h
    rfl
  · obtain ⟨r, d', rfl, h0, h1, h2, h3, q⟩ := h
    refine ⟨_, (pss_cons (ps_expr (pg_call G_check_coordinate hg (hr.mono (by decide)) (by rfl) m.g_check_coordinate m.F_check_coordinate.kp m.b_check_coordinate .nil (fun _ => passG) (pa_cons (pv 0) pa_nil)))
      (pss_cons (ps_expr (pg_call G_check_coordinate hg (hr.mono (by decide)) (by rfl) m.g_check_coordinate m.F_check_coordinate.kp m.b_check_coordinate .nil (fun _ => passG) (pa_cons (pv 1) pa_nil)))
      (pss_one (ps_ret (pe_op op_add (pg_call G_cells_before hg (hr.mono (by decide)) (by rfl) m.g_cells_before m.F_cells_before.kp m.b_cells_before .nil (fun _ => passG) (pa_cons (pe_op op_add (pv 0) (pv 1)) pa_nil)) (pv 0)))))), ?_⟩
    walk_at "vc"
    refine ⟨_, rfl, h0, h1, ?_⟩
    walk_at "vc"
    refine ⟨_, rfl, h2, h3, ?_⟩
    walk_at "vc"
    refine ⟨_, rfl, by omega, by omega, ?_⟩
    walk_at "vc"
    exact q
def sp_law_name (K : PySem.W.Frag) : Sp := fun vs H Q _ => ∃ (a : Addr) (r d : Int), vs = [.ref a] ∧ SqT K H a [.int r, .int d] ∧ 0 ≤ r ∧ r ≤ 10 ^ 15 ∧ 0 ≤ d ∧ d ≤ 10 ^ 15 ∧ Q (.int (nameC r d)) H
theorem ok_law_name (m : Mo K mg d) : Fg P w K mg bs CX0 1 d.a_law_name d.fd_law_name ["cell"] (sp_law_name K) := by
  refine ok (n := 0) m.F_law_name sc_law_name (fun vs H Q E h => ?_) (fun cdv A fr s H vs Q E hg hr h => ?_)
  · obtain ⟨a, r, d', rfl, ha, h0, h1, h2, h3, q⟩ := h
    rfl
  · obtain ⟨a, r, d', rfl, ha, h0, h1, h2, h3, q⟩ := h
    refine ⟨_, (pss_cons (ps_asg (pv 0) (show PG _ _ (gTup K 2 _) from pg_tup (by rfl) (pgs_cons (pg_name (i := 1) sc_law_name.nd rfl (.inl rfl)) (pgs_cons (pg_name (i := 2) sc_law_name.nd rfl (.inl rfl)) pgs_nil))))
      (pss_one (ps_ret (pe_op op_add (pe_op op_fdiv (pe_op op_mul (pe_op op_add (pv 1) (pv 2)) (pe_op op_add (pe_op op_add (pv 1) (pv 2)) pe_int)) pe_int) (pv 1))))), ?_⟩
    walk_at "vc"
    refine UnpK.of ha rfl ?_
    walk_at "vc"
    exact ⟨by walk_at "sd", by walk_at "sd", q⟩
def sp_law_dip (K : PySem.W.Frag) : Sp := fun vs H Q _ => ∃ (B : Hp) (u : Addr) (l : List (Addr × HO)) (c : Nat) (n : Int), vs = [.ref u, .int n] ∧ Urn B H u l c ∧ c < 1000000 ∧ 0 < n ∧ n < 2 ^ 200 ∧
  ∀ H' r, Urn B H' u l (c + 1) → 0 ≤ r → r < n → Q (.int r) H'
theorem dip_go {K : PySem.W.Frag} {B H : Hp} {u : Addr} {l : List (Addr × HO)} {c : Nat} {n : Int} {Q : VK} {E : XK} (U : Urn B H u l c) (hc : c < 1000000) (h0 : 0 < n) (h1 : n < 2 ^ 200) (k : ∀ H' r, Urn B H' u l (c + 1) → 0 ≤ r → r < n → Q (.int r) H') : sp_law_dip K [.ref u, .int n] H Q E :=
  ⟨B, u, l, c, n, rfl, U, hc, h0, h1, k⟩
theorem ok_law_dip (m : Mo K mg d) : Fg P w K mg bs CX0 1 d.a_law_dip d.fd_law_dip ["urn", "size"] (sp_law_dip K) := by
  refine ok (n := 0) m.F_law_dip sc_law_dip (fun vs H Q E h => ?_) (fun cdv A fr s H vs Q E hg hr h => ?_)
  · obtain ⟨B, u, l, c, n, rfl, ⟨x, y, z, L, hx, hy, hy2, hz, hz2⟩, hc, hn, hn2, q⟩ := h
    rfl
  · obtain ⟨B, u, l, c, n, rfl, ⟨x, y, z, L, hx, hy, hy2, hz, hz2⟩, hc, hn, hn2, q⟩ := h
    refine ⟨_, (pss_cons (ps_if (pt_cmpR op_gt (pe_ix ix_list (pv 0) pe_int (fun _ _ => rfl)) pe_int (nomark _))
      (pss_cons (ps_asg (pe_op op_mod (pe_ix ix_list (pv 0) pe_int (fun _ _ => rfl)) (pv 1)) (pg_name (i := 2) sc_law_dip.nd rfl (.inl rfl)))
      (pss_cons (ps_asg (pe_op op_fdivW (pe_ix ix_list (pv 0) pe_int (fun _ _ => rfl)) (pv 1)) (pg_sub (pv 0) pe_int set_list))
      (pss_one (ps_ret (pv 2)))))
      pss_nil)
      (pss_cons (ps_asg (pe_op op_add (pe_ix ix_list (pv 0) pe_int (fun _ _ => rfl)) pe_int) (pg_sub (pv 0) pe_int set_list))
      (pss_cons (ps_asg (pe_op op_mod (pe_op op_powW (pe_op op_add (pe_ix ix_list (pv 0) pe_int (fun _ _ => rfl)) (pe_op op_mul pe_int (pe_ix ix_list (pv 0) pe_int (fun _ _ => rfl)))) pe_int) (pe_op op_add (pe_op op_pow pe_int pe_int) pe_int)) (pg_name (i := 3) sc_law_dip.nd rfl (.inl rfl)))
      (pss_cons (ps_asg (pe_op op_mod (pe_op op_add (pe_op op_mulW (pv 3) (pv 3)) (pe_op op_mul pe_int (pe_ix ix_list (pv 0) pe_int (fun _ _ => rfl)))) (pe_op op_add (pe_op op_pow pe_int pe_int) pe_int)) (pg_name (i := 3) sc_law_dip.nd rfl (.inl rfl)))
      (pss_one (ps_ret (pe_op op_mod (pe_op op_fdivW (pv 3) pe_int) (pv 1)))))))), ?_⟩
    walk_at "vc"
    refine IxLK.of (L.lstAt (by walk_at "mem")) rfl ?_
    walk_at "vc"
    split
    · refine IxLK.of (L.lstAt (by walk_at "mem")) rfl ?_
      walk_at "vc"
      refine ⟨hn, IxLK.of (L.lstAt (by walk_at "mem")) rfl ?_⟩
      walk_at "vc"
      refine ⟨div_w (n := 200) (by decide) hn hn2 (by decide), SetK.of (j := 0) L (by walk_at "mem") rfl (by walk_at "put") fun H1 L1 => ?_⟩
      exact q _ _ ⟨_, _, _, L1, Int.ediv_nonneg hx (by omega), hy, hy2, hz, by omega⟩ (Int.emod_nonneg _ (by omega)) (Int.emod_lt_of_pos _ hn)
    · refine IxLK.of (L.lstAt (by walk_at "mem")) rfl ?_
      walk_at "vc"
      refine SetK.of (j := 2) L (by walk_at "mem") rfl (by walk_at "put") fun H1 L1 => ?_
      refine IxLK.of (L1.lstAt (by walk_at "mem")) rfl ?_
      refine IxLK.of (L1.lstAt (by walk_at "mem")) rfl ?_
      walk_at "vc"
      walk_at "sds"
      refine ⟨(pow_bits (n := 151) (m := 3) (by decide) (by omega) (by omega) (by decide)).2, ?_⟩
      have w0 := Int.emod_nonneg ((y + 3267000013 * (z + 1)) ^ 3) (show (100000000000000000000000000000000000000000031 : Int) ≠ 0 by decide)
      have w1 := Int.emod_lt_of_pos ((y + 3267000013 * (z + 1)) ^ 3) (show (0 : Int) < 100000000000000000000000000000000000000000031 by decide)
      generalize (y + 3267000013 * (z + 1)) ^ 3 % 100000000000000000000000000000000000000000031 = a at *
      walk_at "sds"
      refine ⟨mul_w (n := 147) (by decide) w0 (by omega) w0 (by omega) (by decide), ?_⟩
      refine IxLK.of (L1.lstAt (by walk_at "mem")) rfl ?_
      have w2 : 0 ≤ a * a := Int.mul_nonneg w0 w0
      generalize a * a = b at *
      walk_at "vc"
      walk_at "sds"
      refine ⟨div_w (n := 30) (by decide) (by decide) (by decide) (by decide), hn, ?_⟩
      exact q _ _ ⟨_, _, _, L1, hx, hy, hy2, by omega, by omega⟩ (Int.emod_nonneg _ (by omega)) (Int.emod_lt_of_pos _ hn)
def sp_law_ten (K : PySem.W.Frag) : Sp := fun vs H Q _ => ∃ n : Nat, vs = [.int n] ∧ n ≤ 40 ∧ Q (.int (10 ^ n)) H
theorem ok_law_ten (m : Mo K mg d) : Fg P w K mg bs CX0 1 d.a_law_ten d.fd_law_ten ["many"] (sp_law_ten K) := by
  refine ok (n := 0) m.F_law_ten sc_law_ten (fun vs H Q E h => ?_) (fun cdv A fr s H vs Q E hg hr h => ?_)
  · obtain ⟨n, rfl, h0, q⟩ := h
    rfl
  · obtain ⟨n, rfl, h0, q⟩ := h
    refine ⟨_, (pss_cons (ps_asg pe_int (pg_name (i := 1) sc_law_ten.nd rfl (.inl rfl)))
      (pss_cons (ps_for PassesOwn.never rfl (pi_range1 (by rfl) m.n_range (pa_cons (pv 0) pa_nil)) (pg_name (i := 2) sc_law_ten.nd rfl (.inl rfl))
      (pss_one (ps_asg (pe_op op_mul (pv 1) pe_int) (pg_name (i := 1) sc_law_ten.nd rfl (.inl rfl)))))
      (pss_one (ps_ret (pv 1))))), ?_⟩
    walk_at "vc"
    refine ⟨by omega, by omega, ?_⟩
    refine loop_range (fun i σ H' => ∃ y, σ = [some (.int n), some (.int (10 ^ i)), y] ∧ H' = H) ⟨_, rfl, rfl⟩ (fun i σ H' N hi h hN => ?_) (fun σ H' h => ?_)
    · obtain ⟨y, rfl, rfl⟩ := h
      walk_at "vc"
      exact ⟨by walk_at "sd", hN _ _ ⟨_, rfl, rfl⟩⟩
    · obtain ⟨y, rfl, rfl⟩ := h
      walk_at "vc"
      exact q
def sp_law_far (K : PySem.W.Frag) : Sp := fun vs H Q _ => ∃ (B : Hp) (u : Addr) (l : List (Addr × HO)) (c : Nat), vs = [.ref u] ∧ Urn B H u l c ∧ c < 900000 ∧
  ∀ H' r, Urn B H' u l (c + 7) → 0 ≤ r → r ≤ 10 ^ 15 → Q (.int r) H'
theorem ok_law_far (m : Mo K mg d) (G_law_dip : Fg P w K mg bs CX0 1 d.a_law_dip d.fd_law_dip ["urn", "size"] (sp_law_dip K)) (G_law_ten : Fg P w K mg bs CX0 1 d.a_law_ten d.fd_law_ten ["many"] (sp_law_ten K)) : Fg P w K mg bs CX0 2 d.a_law_far d.fd_law_far ["urn"] (sp_law_far K) := by
  refine ok (n := 1) m.F_law_far sc_law_far (fun vs H Q E h => ?_) (fun cdv A fr s H vs Q E hg hr h => ?_)
  · obtain ⟨B, u, l, c, rfl, U, hc, q⟩ := h
    rfl
  · obtain ⟨B, u, l, c, rfl, U, hc, q⟩ := h
    refine ⟨_, (pss_cons (ps_asg (pe_lst (pa_cons (pg_call G_law_dip hg (hr.mono (by decide)) (by rfl) m.g_law_dip m.F_law_dip.kp m.b_law_dip .nil (fun _ => passG) (pa_cons (pv 0) (pa_cons pe_int pa_nil))) (pa_cons (pe_op op_sub (pe_op op_pow pe_int pe_int) (pg_call G_law_dip hg (hr.mono (by decide)) (by rfl) m.g_law_dip m.F_law_dip.kp m.b_law_dip .nil (fun _ => passG) (pa_cons (pv 0) (pa_cons pe_int pa_nil)))) pa_nil))) (pg_name (i := 1) sc_law_far.nd rfl (.inl rfl)))
      (pss_cons (ps_asg (pe_op op_cat (pv 1) (pe_lst (pa_cons (pg_call G_law_dip hg (hr.mono (by decide)) (by rfl) m.g_law_dip m.F_law_dip.kp m.b_law_dip .nil (fun _ => passG) (pa_cons (pv 0) (pa_cons (pe_op op_add (pe_op op_pow pe_int pe_int) pe_int) pa_nil))) (pa_cons (pg_call G_law_ten hg (hr.mono (by decide)) (by rfl) m.g_law_ten m.F_law_ten.kp m.b_law_ten .nil (fun _ => passG) (pa_cons (pg_call G_law_dip hg (hr.mono (by decide)) (by rfl) m.g_law_dip m.F_law_dip.kp m.b_law_dip .nil (fun _ => passG) (pa_cons (pv 0) (pa_cons pe_int pa_nil))) pa_nil)) pa_nil)))) (pg_name (i := 1) sc_law_far.nd rfl (.inl rfl)))
      (pss_cons (ps_asg (pe_op op_cat (pv 1) (pe_lst (pa_cons (pg_call G_law_dip hg (hr.mono (by decide)) (by rfl) m.g_law_dip m.F_law_dip.kp m.b_law_dip .nil (fun _ => passG) (pa_cons (pv 0) (pa_cons (pe_op op_pow pe_int pe_int) pa_nil))) (pa_cons (pg_call G_law_dip hg (hr.mono (by decide)) (by rfl) m.g_law_dip m.F_law_dip.kp m.b_law_dip .nil (fun _ => passG) (pa_cons (pv 0) (pa_cons (pe_op op_pow pe_int pe_int) pa_nil))) pa_nil)))) (pg_name (i := 1) sc_law_far.nd rfl (.inl rfl)))
      (pss_one (ps_ret (pe_ix ix_list (pv 1) (pg_call G_law_dip hg (hr.mono (by decide)) (by rfl) m.g_law_dip m.F_law_dip.kp m.b_law_dip .nil (fun _ => passG) (pa_cons (pv 0) (pa_cons pe_int pa_nil))) (fun _ _ => rfl))))))), ?_⟩
    walk_at "vc"
    refine dip_go U (by omega) (by omega) (by omega) fun H1 r1 U a1 b1 => ?_
    refine dip_go U (by omega) (by omega) (by omega) fun H2 r2 U a2 b2 => ?_
    walk_at "vc"
    refine U.new fun p1 H3 U => ?_
    refine dip_go U (by omega) (by omega) (by omega) fun H4 r3 U a3 b3 => ?_
    refine dip_go U (by omega) (by omega) (by omega) fun H5 r4 U a4 b4 => ?_
    refine ⟨r4.toNat, by rw [Int.toNat_of_nonneg a4], by omega, ?_⟩
    walk_at "vc"
    refine U.new fun p2 H6 U => ?_
    refine U.catK (by walk_at "mem") (by walk_at "mem") (Nat.le_trans (show 4 ≤ 100 by decide) (by decide)) fun p3 H7 U => ?_
    refine dip_go U (by omega) (by omega) (by omega) fun H8 r5 U a5 b5 => ?_
    refine dip_go U (by omega) (by omega) (by omega) fun H9 r6 U a6 b6 => ?_
    walk_at "vc"
    refine U.new fun p4 H10 U => ?_
    refine U.catK (by walk_at "mem") (by walk_at "mem") (Nat.le_trans (show 6 ≤ 100 by decide) (by decide)) fun p5 H11 U => ?_
    refine dip_go U (by omega) (by omega) (by omega) fun H12 r7 U a7 b7 => ?_
    walk_at "vc"
    obtain ⟨v, hv, ha⟩ := atI_map (ns := [r1, 1000000000000000 - r2, r3, 10 ^ r4.toNat, r5, r6]) a7 (by simpa using b7)
    have ht : ∀ n : Nat, n < 16 → (0 : Int) ≤ 10 ^ n ∧ (10 : Int) ^ n ≤ 10 ^ 15 := by decide
    have ht := ht r4.toNat (by omega)
    have hb : 0 ≤ v ∧ v ≤ 10 ^ 15 := by
      simp only [List.mem_cons, List.not_mem_nil, or_false] at hv
      omega
    exact IxLK.of (U.led.lstAt (by walk_at "mem")) ha (q _ _ ((U.sel (by walk_at "sel")).up (by omega)) hb.1 hb.2)
def sp_law_next_right (K : PySem.W.Frag) : Sp := fun vs H Q _ => ∃ r d : Int, vs = [.int r, .int d, .int (nameC r d)] ∧ 0 ≤ r ∧ r ≤ 10 ^ 15 ∧ 0 ≤ d ∧ d ≤ 10 ^ 15 ∧ Q (.bl true) H
theorem ok_law_next_right (m : Mo K mg d) (G_name_of : Fg P w K mg bs CX0 4 d.a_name_of d.fd_name_of ["right", "down"] (sp_name_of K)) : Fg P w K mg bs CX0 5 d.a_law_next_right d.fd_law_next_right ["right", "down", "due"] (sp_law_next_right K) := by
  refine ok (n := 4) m.F_law_next_right sc_law_next_right (fun vs H Q E h => ?_) (fun cdv A fr s H vs Q E hg hr h => ?_)
  · obtain ⟨r, d', rfl, h0, h1, h2, h3, q⟩ := h
    rfl
  · obtain ⟨r, d', rfl, h0, h1, h2, h3, q⟩ := h
    refine ⟨_, (pss_cons (ps_if (PW.pt (pw_and (pt_cmpR op_lt (pv 0) (pe_op op_pow pe_int pe_int) (nomark _)) (pw_and1 (pt_cmpR op_ne (pg_call G_name_of hg (hr.mono (by decide)) (by rfl) m.g_name_of m.F_name_of.kp m.b_name_of .nil (fun _ => passG) (pa_cons (pe_op op_add (pv 0) pe_int) (pa_cons (pv 1) pa_nil))) (pe_op op_add (pe_op op_add (pe_op op_add (pv 2) (pv 0)) (pv 1)) pe_int) (nomark _)))))
      (pss_one (ps_ret pe_bl))
      pss_nil)
      (pss_cons (ps_if (PW.pt (pw_and (pt_cmpR op_lt (pv 1) (pe_op op_pow pe_int pe_int) (nomark _)) (pw_and1 (pt_cmpR op_ne (pg_call G_name_of hg (hr.mono (by decide)) (by rfl) m.g_name_of m.F_name_of.kp m.b_name_of .nil (fun _ => passG) (pa_cons (pv 0) (pa_cons (pe_op op_add (pv 1) pe_int) pa_nil))) (pe_op op_add (pe_op op_add (pe_op op_add (pv 2) (pv 0)) (pv 1)) pe_int) (nomark _)))))
      (pss_one (ps_ret pe_bl))
      pss_nil)
      (pss_one (ps_ret (pe_or (pe_cmpR op_eq (pv 1) pe_int (nomark _)) (pe_or (pe_cmpR op_eq (pv 0) (pe_op op_pow pe_int pe_int) (nomark _)) (pe_one (pe_cmpR op_eq (pg_call G_name_of hg (hr.mono (by decide)) (by rfl) m.g_name_of m.F_name_of.kp m.b_name_of .nil (fun _ => passG) (pa_cons (pe_op op_add (pv 0) pe_int) (pa_cons (pe_op op_sub (pv 1) pe_int) pa_nil))) (pe_op op_add (pv 2) pe_int) (nomark _))))))))), ?_⟩
    have e1 : nameC (r + 1) d' = nameC r d' + r + d' + 2 := by
      unfold nameC
      have := tri (r + d')
      have e : r + 1 + d' = r + d' + 1 := by omega
      rw [e, this]
      omega
    have e2 : nameC r (d' + 1) = nameC r d' + r + d' + 1 := by
      unfold nameC
      have := tri (r + d')
      have e : r + (d' + 1) = r + d' + 1 := by omega
      rw [e, this]
      omega
    have e3 : nameC (r + 1) (d' - 1) = nameC r d' + 1 := by
      unfold nameC
      have e : r + 1 + (d' - 1) = r + d' := by omega
      rw [e]
      omega
    have fin : (if d' = 0 then Q (V.bl true) H else if r = 1000000000000000 then Q (V.bl true) H else sp_name_of K [V.int (r + 1), V.int (d' - 1)] H (fun x H1 => scal x (V.int (nameC r d' + 1)) = true ∧ Q (V.bl (decide (x = V.int (nameC r d' + 1)))) H1) E0) := by
      split
      · exact q
      · split
        · exact q
        · refine ⟨_, _, rfl, by omega, by omega, by omega, by omega, ?_⟩
          walk_at "vc"
          rw [e3, decide_eq_true rfl]
          exact q
    walk_at "vc"
    split
    · refine ⟨_, _, rfl, by omega, by omega, h2, h3, ?_⟩
      walk_at "vc"
      rw [e1, decide_eq_true rfl]
      walk_at "vc"
      split
      · refine ⟨_, _, rfl, h0, h1, by omega, by omega, ?_⟩
        walk_at "vc"
        rw [e2, decide_eq_true rfl]
        walk_at "vc"
        exact fin
      · exact fin
    · split
      · refine ⟨_, _, rfl, h0, h1, by omega, by omega, ?_⟩
        walk_at "vc"
        rw [e2, decide_eq_true rfl]
        walk_at "vc"
        exact fin
      · exact fin
def sp_law (K : PySem.W.Frag) : Sp := fun vs H Q _ => ∃ (a : Addr) (ns : List Int), vs = [.ref a] ∧ SqL K H a (ns.map V.int) ∧ ns.length ≤ 63 ∧ ∀ H', Q (.bl true) H'
theorem ok_law (m : Mo K mg d) (G_law_cells : Fg P w K mg bs CX0 1 d.a_law_cells d.fd_law_cells ["diagonals"] (sp_law_cells K)) (G_law_urn : Fg P w K mg bs CX0 1 d.a_law_urn d.fd_law_urn ["script", "k"] (sp_law_urn K)) (G_name_of : Fg P w K mg bs CX0 4 d.a_name_of d.fd_name_of ["right", "down"] (sp_name_of K)) (G_law_name : Fg P w K mg bs CX0 1 d.a_law_name d.fd_law_name ["cell"] (sp_law_name K)) (G_law_far : Fg P w K mg bs CX0 2 d.a_law_far d.fd_law_far ["urn"] (sp_law_far K)) (G_law_next_right : Fg P w K mg bs CX0 5 d.a_law_next_right d.fd_law_next_right ["right", "down", "due"] (sp_law_next_right K)) : Fg P w K mg bs CX0 6 d.a_law d.fd_law ["script"] (sp_law K) := by
  refine ok (n := 5) m.F_law sc_law (fun vs H Q E h => ?_) (fun cdv A fr s H vs Q E hg hr h => ?_)
  · obtain ⟨a, ns, rfl, hS, hl, fin⟩ := h
    rfl
  · obtain ⟨a, ns, rfl, hS, hl, fin⟩ := h
    refine ⟨_, (pss_cons (ps_asg (pg_call G_law_cells hg (hr.mono (by decide)) (by rfl) m.g_law_cells m.F_law_cells.kp m.b_law_cells .nil (fun _ => passG) (pa_cons pe_int pa_nil)) (pg_name (i := 1) sc_law.nd rfl (.inl rfl)))
      (pss_cons (ps_if (pt_cmpR (op_neD hr.units) (pe_lc (own := [("at", 2), ("cell", 3)]) (by rfl) sc_law.nd (pi_enum (by rfl) m.n_enumerate (pa_cons (pv 1) pa_nil)) (blkOk_by (own := [("at", 2), ("cell", 3)]) (N := ["script", "cells", "at", "cell", "k", "urn", "turn", "due", "right", "down"]) (sc := defScope s_law) (by decide +kernel)) (fun _ _ _ _ _ => by exact (show PG _ _ (gTup K 2 _) from pg_tup (by rfl) (pgs_cons (pg_name (i := 2) sc_law.nd rfl (.inl rfl)) (pgs_cons (pg_name (i := 3) sc_law.nd rfl (.inl rfl)) pgs_nil)))) (fun _ _ _ _ _ => by exact (pts_one (pt_cmpR op_ne (pe_callB (show CallR _ _ (rRepr K) from (call_repr hg hr)) (by rfl) m.n_repr (by decide +kernel) (pa_cons (pg_call G_name_of hg (hr.mono (by decide)) (by rfl) m.g_name_of m.F_name_of.kp m.b_name_of .nil (fun _ => passG) (pa_cons (pe_ix (show IxR _ (rIxT K) from ix_tup) (pv 3) pe_int (fun _ _ => rfl)) (pa_cons (pe_ix (show IxR _ (rIxT K) from ix_tup) (pv 3) pe_int (fun _ _ => rfl)) pa_nil))) pa_nil)) (pe_callB (show CallR _ _ (rRepr K) from (call_repr hg hr)) (by rfl) m.n_repr (by decide +kernel) (pa_cons (pv 2) pa_nil)) (nomark _)))) (fun _ _ _ _ _ => by exact (pv 2))) (pe_lst pa_nil) (nomark _))
      (pss_one (ps_ret pe_bl))
      pss_nil)
      (pss_cons (ps_for PassesOwn.never rfl (pi_range1 (by rfl) m.n_range (pa_cons (pe_callB (cr_max2 rfl) (by rfl) m.n_max (by decide +kernel) (pa_cons pe_int (pa_cons (pe_callB (cr_min2 rfl) (by rfl) m.n_min (by decide +kernel) (pa_cons pe_int (pa_cons (pe_op op_add (pe_callB cr_len (by rfl) m.n_len (by decide +kernel) (pa_cons (pv 0) pa_nil)) pe_int) pa_nil))) pa_nil))) pa_nil)) (pg_name (i := 4) sc_law.nd rfl (.inl rfl))
      (pss_cons (ps_asg (pg_call G_law_urn hg (hr.mono (by decide)) (by rfl) m.g_law_urn m.F_law_urn.kp m.b_law_urn .nil (fun _ => passG) (pa_cons (pv 0) (pa_cons (pv 4) pa_nil))) (pg_name (i := 5) sc_law.nd rfl (.inl rfl)))
      (pss_one (ps_for PassesOwn.never rfl (pi_range1 (by rfl) m.n_range (pa_cons pe_int pa_nil)) (pg_name (i := 6) sc_law.nd rfl (.inl rfl))
      (pss_cons (ps_par (i := 8) (j := 9) (by rfl) sc_law.nd rfl rfl (by decide) rfl rfl (pa_cons (pg_call G_law_far hg (hr.mono (by decide)) (by rfl) m.g_law_far m.F_law_far.kp m.b_law_far .nil (fun _ => passG) (pa_cons (pv 5) pa_nil)) (pa_cons (pg_call G_law_far hg (hr.mono (by decide)) (by rfl) m.g_law_far m.F_law_far.kp m.b_law_far .nil (fun _ => passG) (pa_cons (pv 5) pa_nil)) pa_nil)) (by rfl))
      (pss_cons (ps_asg (pg_call G_law_name hg (hr.mono (by decide)) (by rfl) m.g_law_name m.F_law_name.kp m.b_law_name .nil (fun _ => passG) (pa_cons (pe_tup (pa_cons (pv 8) (pa_cons (pv 9) pa_nil))) pa_nil)) (pg_name (i := 7) sc_law.nd rfl (.inl rfl)))
      (pss_one (ps_if (PW.pt (pw_or (pt_cmpR op_ne (pe_callB (call_repr hg hr) (by rfl) m.n_repr (by decide +kernel) (pa_cons (pg_call G_name_of hg (hr.mono (by decide)) (by rfl) m.g_name_of m.F_name_of.kp m.b_name_of .nil (fun _ => passG) (pa_cons (pv 8) (pa_cons (pv 9) pa_nil))) pa_nil)) (pe_callB (call_repr hg hr) (by rfl) m.n_repr (by decide +kernel) (pa_cons (pv 7) pa_nil)) (nomark _)) (pw_or1 (pt_not (pt_val (pg_call G_law_next_right hg (hr.mono (by decide)) (by rfl) m.g_law_next_right m.F_law_next_right.kp m.b_law_next_right .nil (fun _ => passG) (pa_cons (pv 8) (pa_cons (pv 9) (pa_cons (pv 7) pa_nil)))))))))
      (pss_one (ps_ret pe_bl))
      pss_nil))))))))
      (pss_one (ps_ret (pe_cmpR op_eq (pg_call G_name_of hg (hr.mono (by decide)) (by rfl) m.g_name_of m.F_name_of.kp m.b_name_of .nil (fun _ => passG) (pa_cons (pe_op op_pow pe_int pe_int) (pa_cons (pe_op op_pow pe_int pe_int) pa_nil))) (pe_op op_mul (pe_op op_pow pe_int pe_int) (pe_op op_add (pe_op op_mul pe_int (pe_op op_pow pe_int pe_int)) pe_int)) (nomark _))))))), ?_⟩
    walk_at "vc"
    refine ⟨40, rfl, by decide, fun p H1 B1 xs s1 L1 hc => ?_⟩
    walk_at "vc"
    refine ⟨⟨xs, L1.lstAt (by walk_at "mem")⟩, ?_⟩
    have hnamed := List.all_eq_true.mp cells_named
    refine comp_enum (fun i q acc H2 => acc = [] ∧ Led B1 H2 [(q, .lst []), (p, .lst xs)]) (fun q hq => ⟨rfl, L1.new hq⟩) (fun i q acc H2 r => r.2.lstAt (by walk_at "mem")) ?_ ?_
    · rintro q acc H2 ⟨rfl, L⟩
      walk_at "vc"
      refine NewK.of L fun e H3 L => ?_
      refine NeD.of (.lst (L.lstAt (by walk_at "mem")) .nil) (.lst (L.lstAt (by walk_at "mem")) .nil) rfl rfl ?_
      rw [eqv_refl_nil]
      walk_at "vc"
      refine LenK.ofL (L.seq (s1.seq hS)) ?_
      walk_at "vc"
      refine ⟨by omega, by omega, ?_⟩
      have sH3 : Same H H3 := s1.trans L.sm
      refine loop_range (fun i σ H' => ∃ y4 y5 y6 y7 y8 y9, σ = [some (.ref a), some (.ref p), none, none, y4, y5, y6, y7, y8, y9] ∧ Same H H') ⟨_, _, _, _, _, _, rfl, sH3⟩ (fun i σ H4 N hi h hN => ?_) (fun σ H4 h => ?_)
      · obtain ⟨y4, y5, y6, y7, y8, y9, rfl, sH4⟩ := h
        walk_at "vc"
        refine ⟨a, ns, (i : Int), rfl, sH4.seq hS, by omega, by omega, fun u H5 U => ?_⟩
        walk_at "vc"
        refine ⟨by omega, by omega, ?_⟩
        refine loop_range (fun j σ H' => ∃ y6 y7 y8 y9, σ = [some (.ref a), some (.ref p), none, none, some (.int i), some (.ref u), y6, y7, y8, y9] ∧ Urn H4 H' u [] (14 * j)) ⟨_, _, _, _, rfl, U⟩ (fun j σ H6 N2 hj h hN2 => ?_) (fun σ H6 h => ?_)
        · obtain ⟨y6, y7, y8, y9, rfl, U⟩ := h
          walk_at "vc"
          refine ⟨H4, u, [], _, rfl, U, by omega, fun H7 r U r0 r1 => ?_⟩
          refine ⟨H4, u, [], _, rfl, U, by omega, fun H8 d' U d0 d1 => ?_⟩
          walk_at "vc"
          refine U.new fun t H9 U => ?_
          refine ⟨t, r, d', rfl, U.led.tupAt (by walk_at "mem"), r0, r1, d0, d1, ?_⟩
          walk_at "vc"
          refine ⟨r, d', rfl, r0, r1, d0, d1, ?_⟩
          have hb : (nameC r d').natAbs < 2 ^ 110 := by
            have w0 : 0 ≤ r + d' := by omega
            have w1 : r + d' ≤ 2 * 10 ^ 15 := by omega
            have w2 : 0 ≤ (r + d') * (r + d' + 1) := Int.mul_nonneg w0 (by omega)
            have w3 : (r + d') * (r + d' + 1) ≤ (2 * 10 ^ 15) * (2 * 10 ^ 15 + 1) := Int.mul_le_mul w1 (by omega) (by omega) (by decide)
            unfold nameC
            omega
          walk_at "vc"
          refine RepK.int 110 hb (RepK.int 110 hb ?_)
          walk_at "vc"
          refine ⟨r, d', rfl, r0, r1, d0, d1, ?_⟩
          walk_at "vc"
          exact hN2 _ _ ⟨_, _, _, _, rfl, (U.sel .nil).up (by omega)⟩
        · obtain ⟨y6, y7, y8, y9, rfl, U⟩ := h
          exact hN _ _ ⟨_, _, _, _, _, _, rfl, sH4.trans U.led.sm⟩
      · obtain ⟨y4, y5, y6, y7, y8, y9, rfl, sH4⟩ := h
        walk_at "vc"
        refine ⟨_, _, rfl, by decide, by decide, by decide, by decide, ?_⟩
        walk_at "vc"
        walk_at "sds"
        rw [show nameC 1000000000000000 1000000000000000 = 2000000000000002000000000000000 by decide +kernel, decide_eq_true rfl]
        exact fin _
    · rintro i q acc H2 x N hx ⟨rfl, L⟩ hN
      obtain ⟨t, r, d', rfl, hrd, hB⟩ := hc.2 i x hx
      have hm : ((r, d'), i) ∈ (cellsC 40).zipIdx := List.mk_mem_zipIdx_iff_getElem?.mpr hrd
      have hz := hnamed _ hm
      simp only [Bool.and_eq_true, decide_eq_true_eq] at hz
      refine NewK.of L fun t2 H3 L => ?_
      unfold TurnK
      walk_at "vc"
      refine UnpK.of (L.tupAt (by walk_at "mem")) rfl ?_
      walk_at "vc"
      have hT : SqT K H3 t [.int r, .int d'] := .inl (.inl (L.sm _ _ hB))
      refine IxTK.of hT rfl (IxTK.of hT rfl ?_)
      refine ⟨_, _, rfl, by omega, by omega, by omega, by omega, ?_⟩
      walk_at "vc"
      have hi : i < (cellsC 40).length := (List.getElem?_eq_some_iff.mp hrd).1
      have hl40 := cells_len 40
      rw [hz.1]
      refine RepK.int 30 (by omega) (RepK.int 30 (by omega) ?_)
      walk_at "vc"
      exact hN _ _ ⟨rfl, L.sel (by walk_at "sel")⟩
theorem law_end {K : PySem.W.Frag} {H : Hp} {a : Addr} {ns : List Int} (hl : ns.length ≤ 63) (hb : ∀ z ∈ ns, Builtin.Int.intBits z ≤ 1048576) (hS : SqL K H a (ns.map V.int)) : sp_law K [.ref a] H (fun v _ => v = .bl true) fun _ _ _ => False := ⟨a, ns, rfl, hS, hl, fun _ => rfl⟩
end
theorem all_mk {l : PySem.W.OpenLaw} {w : World} {K : PySem.W.Frag} {h : Heap} {mg : Str → Option Value} {fa : Addr} (X : K.In h) (G : h.Ns mainGlobals mg) (hfa : mg "law" = some (.ref fa))
    {f0 f1 f2 f3 f4 f5 f6 f7 f8 f9 f10 f11 f12 : Addr} {od0 an0 od1 an1 od2 an2 od3 an3 od4 an4 od5 an5 od6 an6 od7 an7 od8 an8 od9 an9 od10 an10 od11 an11 od12 an12 : Option Addr} {sl0 sl1 sl2 sl3 sl4 sl5 sl6 sl7 sl8 sl9 sl10 sl11 sl12 : Array (Option Value)} {oc0 kV0 dc0 pm0 cd0 ct0 oc1 kV1 dc1 pm1 cd1 ct1 oc2 kV2 dc2 pm2 cd2 ct2 oc3 kV3 dc3 pm3 cd3 ct3 oc4 kV4 dc4 pm4 cd4 ct4 oc5 kV5 dc5 pm5 cd5 ct5 oc6 kV6 dc6 pm6 cd6 ct6 oc7 kV7 dc7 pm7 cd7 ct7 oc8 kV8 dc8 pm8 cd8 ct8 oc9 kV9 dc9 pm9 cd9 ct9 oc10 kV10 dc10 pm10 cd10 ct10 oc11 kV11 dc11 pm11 cd11 ct11 oc12 kV12 dc12 pm12 cd12 ct12 : Value} {tk0 : Tok}
    (a0 : PySem.W.nsIn K mainGlobals "_law_cells" = some (some (.ref f0)))
    (l0 : K.lookup f0 = some ⟨oc0, od0, .func (PySem.W.fnOf "_law_cells" "_law_cells" (defArgs s_law_cells) (defBody s_law_cells) (defScope s_law_cells) .none kV0 dc0 pm0 an0 cd0 ct0), sl0⟩)
    (c0 : PySem.W.codeIn K cd0 "_law_cells" = true)
    (k0 : PySem.W.keepIn K (.ref f0) = true)
    (a1 : PySem.W.nsIn K mainGlobals "_law_urn" = some (some (.ref f1)))
    (l1 : K.lookup f1 = some ⟨oc1, od1, .func (PySem.W.fnOf "_law_urn" "_law_urn" (defArgs s_law_urn) (defBody s_law_urn) (defScope s_law_urn) .none kV1 dc1 pm1 an1 cd1 ct1), sl1⟩)
    (c1 : PySem.W.codeIn K cd1 "_law_urn" = true)
    (k1 : PySem.W.keepIn K (.ref f1) = true)
    (a2 : PySem.W.nsIn K mainGlobals "is_integer" = some (some (.ref f2)))
    (l2 : K.lookup f2 = some ⟨oc2, od2, .func (PySem.W.fnOf "is_integer" "is_integer" (defArgs s_is_integer) (defBody s_is_integer) (defScope s_is_integer) .none kV2 dc2 pm2 an2 cd2 ct2), sl2⟩)
    (c2 : PySem.W.codeIn K cd2 "is_integer" = true)
    (k2 : PySem.W.keepIn K (.ref f2) = true)
    (a3 : PySem.W.nsIn K mainGlobals "is_integer_within" = some (some (.ref f3)))
    (l3 : K.lookup f3 = some ⟨oc3, od3, .func (PySem.W.fnOf "is_integer_within" "is_integer_within" (defArgs s_is_integer_within) (defBody s_is_integer_within) (defScope s_is_integer_within) .none kV3 dc3 pm3 an3 cd3 ct3), sl3⟩)
    (c3 : PySem.W.codeIn K cd3 "is_integer_within" = true)
    (k3 : PySem.W.keepIn K (.ref f3) = true)
    (a4 : PySem.W.nsIn K mainGlobals "_check_coordinate" = some (some (.ref f4)))
    (l4 : K.lookup f4 = some ⟨oc4, od4, .func (PySem.W.fnOf "_check_coordinate" "_check_coordinate" (defArgs s_check_coordinate) (defBody s_check_coordinate) (defScope s_check_coordinate) .none kV4 dc4 pm4 an4 cd4 ct4), sl4⟩)
    (c4 : PySem.W.codeIn K cd4 "_check_coordinate" = true)
    (k4 : PySem.W.keepIn K (.ref f4) = true)
    (a5 : PySem.W.nsIn K mainGlobals "_cells_before" = some (some (.ref f5)))
    (l5 : K.lookup f5 = some ⟨oc5, od5, .func (PySem.W.fnOf "_cells_before" "_cells_before" (defArgs s_cells_before) (defBody s_cells_before) (defScope s_cells_before) .none kV5 dc5 pm5 an5 cd5 ct5), sl5⟩)
    (c5 : PySem.W.codeIn K cd5 "_cells_before" = true)
    (k5 : PySem.W.keepIn K (.ref f5) = true)
    (a6 : PySem.W.nsIn K mainGlobals "name_of" = some (some (.ref f6)))
    (l6 : K.lookup f6 = some ⟨oc6, od6, .func (PySem.W.fnOf "name_of" "name_of" (defArgs s_name_of) (defBody s_name_of) (defScope s_name_of) .none kV6 dc6 pm6 an6 cd6 ct6), sl6⟩)
    (c6 : PySem.W.codeIn K cd6 "name_of" = true)
    (k6 : PySem.W.keepIn K (.ref f6) = true)
    (a7 : PySem.W.nsIn K mainGlobals "_law_name" = some (some (.ref f7)))
    (l7 : K.lookup f7 = some ⟨oc7, od7, .func (PySem.W.fnOf "_law_name" "_law_name" (defArgs s_law_name) (defBody s_law_name) (defScope s_law_name) .none kV7 dc7 pm7 an7 cd7 ct7), sl7⟩)
    (c7 : PySem.W.codeIn K cd7 "_law_name" = true)
    (k7 : PySem.W.keepIn K (.ref f7) = true)
    (a8 : PySem.W.nsIn K mainGlobals "_law_dip" = some (some (.ref f8)))
    (l8 : K.lookup f8 = some ⟨oc8, od8, .func (PySem.W.fnOf "_law_dip" "_law_dip" (defArgs s_law_dip) (defBody s_law_dip) (defScope s_law_dip) .none kV8 dc8 pm8 an8 cd8 ct8), sl8⟩)
    (c8 : PySem.W.codeIn K cd8 "_law_dip" = true)
    (k8 : PySem.W.keepIn K (.ref f8) = true)
    (a9 : PySem.W.nsIn K mainGlobals "_law_ten" = some (some (.ref f9)))
    (l9 : K.lookup f9 = some ⟨oc9, od9, .func (PySem.W.fnOf "_law_ten" "_law_ten" (defArgs s_law_ten) (defBody s_law_ten) (defScope s_law_ten) .none kV9 dc9 pm9 an9 cd9 ct9), sl9⟩)
    (c9 : PySem.W.codeIn K cd9 "_law_ten" = true)
    (k9 : PySem.W.keepIn K (.ref f9) = true)
    (a10 : PySem.W.nsIn K mainGlobals "_law_far" = some (some (.ref f10)))
    (l10 : K.lookup f10 = some ⟨oc10, od10, .func (PySem.W.fnOf "_law_far" "_law_far" (defArgs s_law_far) (defBody s_law_far) (defScope s_law_far) .none kV10 dc10 pm10 an10 cd10 ct10), sl10⟩)
    (c10 : PySem.W.codeIn K cd10 "_law_far" = true)
    (k10 : PySem.W.keepIn K (.ref f10) = true)
    (a11 : PySem.W.nsIn K mainGlobals "_law_next_right" = some (some (.ref f11)))
    (l11 : K.lookup f11 = some ⟨oc11, od11, .func (PySem.W.fnOf "_law_next_right" "_law_next_right" (defArgs s_law_next_right) (defBody s_law_next_right) (defScope s_law_next_right) .none kV11 dc11 pm11 an11 cd11 ct11), sl11⟩)
    (c11 : PySem.W.codeIn K cd11 "_law_next_right" = true)
    (k11 : PySem.W.keepIn K (.ref f11) = true)
    (a12 : PySem.W.nsIn K mainGlobals "law" = some (some (.ref f12)))
    (l12 : K.lookup f12 = some ⟨oc12, od12, .func (PySem.W.fnOf "law" "law" (defArgs s_law) (defBody s_law) (defScope s_law) .none kV12 dc12 pm12 an12 cd12 ct12), sl12⟩)
    (c12 : PySem.W.codeIn K cd12 "law" = true)
    (k12 : PySem.W.keepIn K (.ref f12) = true)
    (z_bool : PySem.W.nsIn K mainGlobals "bool" = some none)
    (z_enumerate : PySem.W.nsIn K mainGlobals "enumerate" = some none)
    (z_int : PySem.W.nsIn K mainGlobals "int" = some none)
    (z_isinstance : PySem.W.nsIn K mainGlobals "isinstance" = some none)
    (z_len : PySem.W.nsIn K mainGlobals "len" = some none)
    (z_max : PySem.W.nsIn K mainGlobals "max" = some none)
    (z_min : PySem.W.nsIn K mainGlobals "min" = some none)
    (z_range : PySem.W.nsIn K mainGlobals "range" = some none)
    (z_repr : PySem.W.nsIn K mainGlobals "repr" = some none)
    (q0 : PySem.W.nsIn K mainGlobals "GREATEST_COORDINATE" = some (some (.int (1000000000000000) tk0))) :
    ∃ fd : FuncData, (∀ (s : Shared) (v : Value), BindsTo s fd ⟨[v], []⟩ [("script", v)]) ∧ ∀ bs : Heap, K.In bs → bs.Ns mainGlobals mg → Fg l.prog w K mg bs CX0 6 fa fd ["script"] (sp_law K) := by
  have e := hfa.symm.trans (PySem.W.mg_of X G a12)
  cases e
  have F0 := fun_mk (st := s_law_cells) l0 c0 k0
  have b0 := F0.binds (ps := ["diagonals"]) fun _ _ _ _ _ _ us hl => match us, hl with | [_], _ => rfl
  have F1 := fun_mk (st := s_law_urn) l1 c1 k1
  have b1 := F1.binds (ps := ["script", "k"]) fun _ _ _ _ _ _ us hl => match us, hl with | [_, _], _ => rfl
  have F2 := fun_mk (st := s_is_integer) l2 c2 k2
  have b2 := F2.binds (ps := ["value"]) fun _ _ _ _ _ _ us hl => match us, hl with | [_], _ => rfl
  have F3 := fun_mk (st := s_is_integer_within) l3 c3 k3
  have b3 := F3.binds (ps := ["value", "least", "greatest"]) fun _ _ _ _ _ _ us hl => match us, hl with | [_, _, _], _ => rfl
  have F4 := fun_mk (st := s_check_coordinate) l4 c4 k4
  have b4 := F4.binds (ps := ["value"]) fun _ _ _ _ _ _ us hl => match us, hl with | [_], _ => rfl
  have F5 := fun_mk (st := s_cells_before) l5 c5 k5
  have b5 := F5.binds (ps := ["diagonal"]) fun _ _ _ _ _ _ us hl => match us, hl with | [_], _ => rfl
  have F6 := fun_mk (st := s_name_of) l6 c6 k6
  have b6 := F6.binds (ps := ["right", "down"]) fun _ _ _ _ _ _ us hl => match us, hl with | [_, _], _ => rfl
  have F7 := fun_mk (st := s_law_name) l7 c7 k7
  have b7 := F7.binds (ps := ["cell"]) fun _ _ _ _ _ _ us hl => match us, hl with | [_], _ => rfl
  have F8 := fun_mk (st := s_law_dip) l8 c8 k8
  have b8 := F8.binds (ps := ["urn", "size"]) fun _ _ _ _ _ _ us hl => match us, hl with | [_, _], _ => rfl
  have F9 := fun_mk (st := s_law_ten) l9 c9 k9
  have b9 := F9.binds (ps := ["many"]) fun _ _ _ _ _ _ us hl => match us, hl with | [_], _ => rfl
  have F10 := fun_mk (st := s_law_far) l10 c10 k10
  have b10 := F10.binds (ps := ["urn"]) fun _ _ _ _ _ _ us hl => match us, hl with | [_], _ => rfl
  have F11 := fun_mk (st := s_law_next_right) l11 c11 k11
  have b11 := F11.binds (ps := ["right", "down", "due"]) fun _ _ _ _ _ _ us hl => match us, hl with | [_, _, _], _ => rfl
  have F12 := fun_mk (st := s_law) l12 c12 k12
  have b12 := F12.binds (ps := ["script"]) fun _ _ _ _ _ _ us hl => match us, hl with | [_], _ => rfl
  have m : Mo K mg ⟨f0, (PySem.W.fnOf "_law_cells" "_law_cells" (defArgs s_law_cells) (defBody s_law_cells) (defScope s_law_cells) .none kV0 dc0 pm0 an0 cd0 ct0), f1, (PySem.W.fnOf "_law_urn" "_law_urn" (defArgs s_law_urn) (defBody s_law_urn) (defScope s_law_urn) .none kV1 dc1 pm1 an1 cd1 ct1), f2, (PySem.W.fnOf "is_integer" "is_integer" (defArgs s_is_integer) (defBody s_is_integer) (defScope s_is_integer) .none kV2 dc2 pm2 an2 cd2 ct2), f3, (PySem.W.fnOf "is_integer_within" "is_integer_within" (defArgs s_is_integer_within) (defBody s_is_integer_within) (defScope s_is_integer_within) .none kV3 dc3 pm3 an3 cd3 ct3), f4, (PySem.W.fnOf "_check_coordinate" "_check_coordinate" (defArgs s_check_coordinate) (defBody s_check_coordinate) (defScope s_check_coordinate) .none kV4 dc4 pm4 an4 cd4 ct4), f5, (PySem.W.fnOf "_cells_before" "_cells_before" (defArgs s_cells_before) (defBody s_cells_before) (defScope s_cells_before) .none kV5 dc5 pm5 an5 cd5 ct5), f6, (PySem.W.fnOf "name_of" "name_of" (defArgs s_name_of) (defBody s_name_of) (defScope s_name_of) .none kV6 dc6 pm6 an6 cd6 ct6), f7, (PySem.W.fnOf "_law_name" "_law_name" (defArgs s_law_name) (defBody s_law_name) (defScope s_law_name) .none kV7 dc7 pm7 an7 cd7 ct7), f8, (PySem.W.fnOf "_law_dip" "_law_dip" (defArgs s_law_dip) (defBody s_law_dip) (defScope s_law_dip) .none kV8 dc8 pm8 an8 cd8 ct8), f9, (PySem.W.fnOf "_law_ten" "_law_ten" (defArgs s_law_ten) (defBody s_law_ten) (defScope s_law_ten) .none kV9 dc9 pm9 an9 cd9 ct9), f10, (PySem.W.fnOf "_law_far" "_law_far" (defArgs s_law_far) (defBody s_law_far) (defScope s_law_far) .none kV10 dc10 pm10 an10 cd10 ct10), f11, (PySem.W.fnOf "_law_next_right" "_law_next_right" (defArgs s_law_next_right) (defBody s_law_next_right) (defScope s_law_next_right) .none kV11 dc11 pm11 an11 cd11 ct11), fa, (PySem.W.fnOf "law" "law" (defArgs s_law) (defBody s_law) (defScope s_law) .none kV12 dc12 pm12 an12 cd12 ct12)⟩ := by
    constructor
    · exact F0
    · exact b0
    · exact PySem.W.mg_of X G a0
    · exact F1
    · exact b1
    · exact PySem.W.mg_of X G a1
    · exact F2
    · exact b2
    · exact PySem.W.mg_of X G a2
    · exact F3
    · exact b3
    · exact PySem.W.mg_of X G a3
    · exact F4
    · exact b4
    · exact PySem.W.mg_of X G a4
    · exact F5
    · exact b5
    · exact PySem.W.mg_of X G a5
    · exact F6
    · exact b6
    · exact PySem.W.mg_of X G a6
    · exact F7
    · exact b7
    · exact PySem.W.mg_of X G a7
    · exact F8
    · exact b8
    · exact PySem.W.mg_of X G a8
    · exact F9
    · exact b9
    · exact PySem.W.mg_of X G a9
    · exact F10
    · exact b10
    · exact PySem.W.mg_of X G a10
    · exact F11
    · exact b11
    · exact PySem.W.mg_of X G a11
    · exact F12
    · exact b12
    · exact PySem.W.mg_of X G a12
    · exact PySem.W.mg_none_of X G z_bool
    · exact PySem.W.mg_none_of X G z_enumerate
    · exact PySem.W.mg_none_of X G z_int
    · exact PySem.W.mg_none_of X G z_isinstance
    · exact PySem.W.mg_none_of X G z_len
    · exact PySem.W.mg_none_of X G z_max
    · exact PySem.W.mg_none_of X G z_min
    · exact PySem.W.mg_none_of X G z_range
    · exact PySem.W.mg_none_of X G z_repr
    · exact ⟨_, PySem.W.mg_of X G q0⟩
  refine ⟨(PySem.W.fnOf "law" "law" (defArgs s_law) (defBody s_law) (defScope s_law) .none kV12 dc12 pm12 an12 cd12 ct12), fun s v => .of_eq rfl, fun bs _ _ => ?_⟩
  have G_law_cells := ok_law_cells (P := l.prog) (w := w) (bs := bs) m 
  have G_law_urn := ok_law_urn (P := l.prog) (w := w) (bs := bs) m 
  have G_is_integer := ok_is_integer (P := l.prog) (w := w) (bs := bs) m 
  have G_is_integer_within := ok_is_integer_within (P := l.prog) (w := w) (bs := bs) m G_is_integer
  have G_check_coordinate := ok_check_coordinate (P := l.prog) (w := w) (bs := bs) m G_is_integer_within
  have G_cells_before := ok_cells_before (P := l.prog) (w := w) (bs := bs) m 
  have G_name_of := ok_name_of (P := l.prog) (w := w) (bs := bs) m G_check_coordinate G_cells_before
  have G_law_name := ok_law_name (P := l.prog) (w := w) (bs := bs) m 
  have G_law_dip := ok_law_dip (P := l.prog) (w := w) (bs := bs) m 
  have G_law_ten := ok_law_ten (P := l.prog) (w := w) (bs := bs) m 
  have G_law_far := ok_law_far (P := l.prog) (w := w) (bs := bs) m G_law_dip G_law_ten
  have G_law_next_right := ok_law_next_right (P := l.prog) (w := w) (bs := bs) m G_name_of
  have G_law := ok_law (P := l.prog) (w := w) (bs := bs) m G_law_cells G_law_urn G_name_of G_law_name G_law_far G_law_next_right
  exact G_law
end My
open PySem PySem.W PyProof.Rows
set_option maxHeartbeats 0 in
theorem PySem.Challenge.cw_splitnames_k08_names_of_cells_holds : PySem.Challenge.rw_splitnames_k08_names_of_cells.Holds := by
  w_on; o_law; k_head; (case hw => w_witness2)
  k_fill
  refine Vg.walk_g (l := PySem.Challenge.rw_splitnames_k08_names_of_cells) (n := 63) (k := 6) (x := "script") (C := fun _ => L2.CX0) (sp := fun w => My.sp_law _) rfl (by decide) rfl ⟨rfl, by decide, by decide⟩ (fun w h Y => PySem.W.kIn_of Y) ?F (fun _ _ a ns hl hb _ hS => My.law_end hl hb hS) (fun _ _ _ _ _ h => h)
  case F =>
    intro w mg fa h KX G hmg
    refine' My.all_mk KX G hmg ?a0 ?l0 ?c0 ?k0 ?a1 ?l1 ?c1 ?k1 ?a2 ?l2 ?c2 ?k2 ?a3 ?l3 ?c3 ?k3 ?a4 ?l4 ?c4 ?k4 ?a5 ?l5 ?c5 ?k5 ?a6 ?l6 ?c6 ?k6 ?a7 ?l7 ?c7 ?k7 ?a8 ?l8 ?c8 ?k8 ?a9 ?l9 ?c9 ?k9 ?a10 ?l10 ?c10 ?k10 ?a11 ?l11 ?c11 ?k11 ?a12 ?l12 ?c12 ?k12 ?z_bool ?z_enumerate ?z_int ?z_isinstance ?z_len ?z_max ?z_min ?z_range ?z_repr ?q0
    (case a0 => k_is)
    (case l0 => k_is)
    (case c0 => k_is)
    (case k0 => k_is)
    (case a1 => k_is)
    (case l1 => k_is)
    (case c1 => k_is)
    (case k1 => k_is)
    (case a2 => k_is)
    (case l2 => k_is)
    (case c2 => k_is)
    (case k2 => k_is)
    (case a3 => k_is)
    (case l3 => k_is)
    (case c3 => k_is)
    (case k3 => k_is)
    (case a4 => k_is)
    (case l4 => k_is)
    (case c4 => k_is)
    (case k4 => k_is)
    (case a5 => k_is)
    (case l5 => k_is)
    (case c5 => k_is)
    (case k5 => k_is)
    (case a6 => k_is)
    (case l6 => k_is)
    (case c6 => k_is)
    (case k6 => k_is)
    (case a7 => k_is)
    (case l7 => k_is)
    (case c7 => k_is)
    (case k7 => k_is)
    (case a8 => k_is)
    (case l8 => k_is)
    (case c8 => k_is)
    (case k8 => k_is)
    (case a9 => k_is)
    (case l9 => k_is)
    (case c9 => k_is)
    (case k9 => k_is)
    (case a10 => k_is)
    (case l10 => k_is)
    (case c10 => k_is)
    (case k10 => k_is)
    (case a11 => k_is)
    (case l11 => k_is)
    (case c11 => k_is)
    (case k11 => k_is)
    (case a12 => k_is)
    (case l12 => k_is)
    (case c12 => k_is)
    (case k12 => k_is)
    (case z_bool => k_is)
    (case z_enumerate => k_is)
    (case z_int => k_is)
    (case z_isinstance => k_is)
    (case z_len => k_is)
    (case z_max => k_is)
    (case z_min => k_is)
    (case z_range => k_is)
    (case z_repr => k_is)
    (case q0 => k_is)

