import PyProof.Rows.All
import Wide.All
import OpenK.AllK
import Wide.FinOn
import PyProof.ReprRoads
import HandS.ForMost
import HandS.ForExc
import HandS.Wide
import HandS.EndBits
import HandS.FStrTup
import HandS.Flow
import HandS.IsInst
import HandS.SetFor
import HandS.Conv
import HandS.Style
import HandS.Sort
import PyProof.StrBlock2
import HandS.Text
import HandS.StrMore
import HandS.Property
import HandS.MethStar
import HandS.ClsMeth
import HandS.WordsExc
import HandS.ExcOwn
import HandS.RaiseMore
import HandS.FStr
import HandS.TryOnly
import HandS.ExcIs
import HandS.NoneIn
import KE.DataMinMax
import Flt.Sum
import HandS.SlotsOwn
import HandS.More
import HandS.WordsDict
import PySem.Challenge.RW_splitnames_k57_whole_no_process_waits
set_option Elab.async false
set_option linter.all false
set_option maxRecDepth 100000
set_option maxHeartbeats 2000000
namespace Vg
open PySem PySem.Spec PyProof.Rows L2

/-- a def's promise where no repr is under way around the call -/
structure Fg (P : Program) (w : World) (K : PySem.W.Frag) (mg : Str → Option Value) (bs : Heap) (C : CXT) (n : Nat) (f : Addr) (fd : FuncData) (ps : List Str) (sp : Sp) : Prop where
  ar : ∀ vs H Q E, sp vs H Q E → vs.length = ps.length
  go : ∀ (A : Around) (fr : List Env) (s : Shared) (H : Hp) (gs : Args) (us : List Value) (vs : List V) (Q : VK) (E : XK), A.guards = some [] → Room n A → Env0 P w K mg bs A fr s H →
    BindsTo s fd gs (ps.zip us) → Vals vs us → sp vs H Q E → codeAny (model P w) A (.call (.ref f) gs) (CR C fr P w H s Q E) s

section
variable {P : Program} {w : World} {K : PySem.W.Frag} {mg : Str → Option Value} {bs : Heap} {C : CXT} {n : Nat} {f : Addr} {fd : FuncData} {ps : List Str} {sp : Sp}
theorem Fg.up {m : Nat} (F : Fg P w K mg bs C n f fd ps sp) (h : n ≤ m) : Fg P w K mg bs C m f fd ps sp :=
  ⟨F.ar, fun A fr s H gs us vs Q E g r => F.go A fr s H gs us vs Q E g (r.mono h)⟩
theorem Fg.weaker {sq : Sp} (F : Fg P w K mg bs C n f fd ps sp) (h : ∀ vs H Q E, sq vs H Q E → sp vs H Q E) : Fg P w K mg bs C n f fd ps sq :=
  ⟨fun vs H Q E q => F.ar vs H Q E (h _ _ _ _ q), fun A fr s H gs us vs Q E g r e b v q => F.go A fr s H gs us vs Q E g r e b v (h _ _ _ _ q)⟩

/-- from a body's reading -/
theorem Fg.mk' {N : List Str} {nm qual : Str} {pr : Arguments} {body : List Stmt} {sc : Scope} {dV kV doc pm cdv ct oc : Value} {an od : Option Addr} {osl : Array (Option Value)}
    (lk : K.lookup f = some ⟨oc, od, .func (PySem.W.fnOf nm qual pr body sc dV kV doc pm an cdv ct), osl⟩) (hc : PySem.W.codeIn K cdv qual = true) (S : FnScope N ps sc)
    (ar : ∀ vs H Q E, sp vs H Q E → vs.length = ps.length)
    (hb : ∀ (A : Around) (fr : List Env) (s : Shared) (H : Hp) (vs : List V) (Q : VK) (E : XK), A.guards = some [] → Room n (A.deeper (envOfC qual sc s.heap.objs.size f cdv)) → sp vs H Q E →
      ∃ t, PSs (cxOf C P w K mg bs N qual sc f cdv A fr s H E) body t ∧ t { nx := fun _ H' => Q .non H', rt := Q } (start N vs) H) :
    Fg P w K mg bs C (n + 1) f (PySem.W.fnOf nm qual pr body sc dV kV doc pm an cdv ct) ps sp := by
  refine ⟨ar, fun A fr s H gs us vs Q E hg rm e0 bd rv q => ?_⟩
  have ln := ar _ _ _ _ q
  have kx : K.In s.heap := e0.mod.kin.keeps (fun b o z => (e0.bs b o z).1)
  have nl : s.heap.NoLimit := e0.mod.nolimit.keeps (fun b o z => (e0.bs b o z).1)
  have kd : ∀ y ∈ ps.zip us, sc.names.lookup y.1 = some .local ∨ (sc.names.lookup y.1 = some .cell ∧ ((cellsFrom (s.heap.objs.size + 1) sc.names []).lookup y.1).isSome = true) := by
    rintro ⟨y, v⟩ hy
    cases S.par y (List.of_mem_zip hy).1 with
    | inl z => exact Or.inl z
    | inr z => exact Or.inr ⟨z, PySem.W.cellsFrom_some _ _ _ (Or.inl z)⟩
  refine codeAny_call_function rm.depth (kx _ _ lk) rfl S.co S.gen rfl (PySem.W.codeRec_of kx hc) (bd _ _ _ _ ?_)
  refine wpAny_newFunctionEnv_cells S.kind kd fun en he s1 x => ?_
  subst he
  refine ⟨nl.keeps x.toInCall.keep, codeAny_func ?_⟩
  obtain ⟨t, ht, hq⟩ := hb A fr s H vs Q E hg (rm.deeper _) q
  have I : Inv (cxOf C P w K mg bs N qual sc f cdv A fr s H E) [] (start N vs) H s1 := inv_start S rm.hd e0 ln rv x
  refine wpAny_mono (ht.run [] s1 (start N vs) H _ I hq) (fun fl s' z => ?_) fun e s' z => z
  cases fl with
  | ret u =>
    obtain ⟨v, σ', H', J, r, q'⟩ := z
    exact ⟨v, H', J.os, J.bare, J.base, J.hok, r, q'⟩
  | next =>
    obtain ⟨σ', H', J, q'⟩ := z
    exact ⟨V.non, H', J.os, J.bare, J.base, J.hok, rfl, q'⟩
  | brk => exact z.elim fun _ z => z.elim fun _ z => z.2.elim
  | cont => exact z.elim fun _ z => z.elim fun _ z => z.2.elim
/-- a def of the text; the body may raise -/
theorem okX {N : List Str} {x qual : Str} {st : Stmt} (F : Fun K x qual st f fd) (S : FnScope N ps (defScope st)) (ar : ∀ vs H Q E, sp vs H Q E → vs.length = ps.length)
    (hb : ∀ (cdv : Value) (A : Around) (fr : List Env) (s : Shared) (H : Hp) (vs : List V) (Q : VK) (E : XK), A.guards = some [] → Room n (A.deeper (envOfC qual (defScope st) s.heap.objs.size f cdv)) → sp vs H Q E →
      ∃ t, PSs (cxOf C P w K mg bs N qual (defScope st) f cdv A fr s H E) (defBody st) t ∧ t { nx := fun _ H' => Q .non H', rt := Q } (start N vs) H) : Fg P w K mg bs C (n + 1) f fd ps sp := by
  obtain ⟨oc, od, kV, doc, pm, an, cdv, ct, osl, rfl, lk, hc⟩ := F.ex
  exact Fg.mk' lk hc S ar fun A fr s H vs Q E => hb cdv A fr s H vs Q E
/-- a def of the text that lets nothing out -/
theorem ok {N : List Str} {x qual : Str} {st : Stmt} (F : Fun K x qual st f fd) (S : FnScope N ps (defScope st)) (ar : ∀ vs H Q E, sp vs H Q E → vs.length = ps.length)
    (hb : ∀ (cdv : Value) (A : Around) (fr : List Env) (s : Shared) (H : Hp) (vs : List V) (Q : VK) (E : XK), A.guards = some [] → Room n (A.deeper (envOfC qual (defScope st) s.heap.objs.size f cdv)) → sp vs H Q E →
      ∃ t, PSs (cxOf CX0 P w K mg bs N qual (defScope st) f cdv A fr s H E).nox (defBody st) t ∧ t { nx := fun _ H' => Q .non H', rt := Q } (start N vs) H) : Fg P w K mg bs CX0 (n + 1) f fd ps sp := by
  obtain ⟨oc, od, kV, doc, pm, an, cdv, ct, osl, rfl, lk, hc⟩ := F.ex
  refine Fg.mk' lk hc S ar fun A fr s H vs Q E g r q => ?_
  obtain ⟨t, h1, h2⟩ := hb cdv A fr s H vs Q E g r q
  exact ⟨t, h1.nox, h2⟩
end

section
variable {X : Cx} {C : CXT} {n : Nat} {f : Addr} {fd : FuncData} {ps : List Str} {sp : Sp} {dvs : List V} {ds : List Value} {E : XK} {x m : Str} {p pos apos : Pos} {e o : Expr} {es : List Expr} {ta : TE} {t : TA}
theorem goS {pins : List (Addr × Obj)} {σ : L2.St} {H : Hp} {s : Shared} {Q : VK} {us : List Value} {vs : List V} (F : Fg X.prog X.w X.K X.mg X.base C n f fd ps sp) (g : X.A.guards = some []) (r : Room n X.A)
    (b : Binds X.K fd ps ds) (d : Vals dvs ds) {E : XK} (hx : PassesAt C X σ E) (I : Inv X pins σ H s) (v : Vals vs us) (h : sp (vs ++ dvs) H Q E) : wpAny (model X.prog X.w) X.A (call (.ref f) us) (EP X pins σ Q) X.xe s := by
  have v2 : Vals (vs ++ dvs) (us ++ ds) := v.append d
  have hl : (us ++ ds).length = ps.length := v2.length ▸ F.ar _ _ _ _ h
  refine wpAny_call (codeAny_mono (F.go X.A X.stack s H ⟨us, []⟩ (us ++ ds) (vs ++ dvs) Q E g r I.env0 (b s us I.kIn hl) v2 h) fun z s' hz => ?_)
  match z, hz with
  | .error e, hz => exact hx pins H s e s' I hz
  | .ok (.ret u), hz => exact I.after hz
/-- f(..) -/
def tG (sp : Sp) (dvs : List V) (E : L2.St → XK) (t : TA) : TE := fun σ H Q => t σ H fun vs H1 => sp (vs ++ dvs) H1 Q (E σ)
def tMG (C : Addr) (m : Str) (sp : Sp) (dvs : List V) (E : L2.St → XK) (ta : TE) (t : TA) : TE := fun σ H Q => ta σ H fun x H1 => ∃ a dx fs, x = .ref a ∧ H1 a = some (.ins C dx fs) ∧ fs.lookup m = none ∧
  t σ H1 fun vs H2 => sp (x :: (vs ++ dvs)) H2 Q (E σ)
theorem passG {X : Cx} {σ : L2.St} : PassesAt CX0 X σ E0 := fun _ _ _ _ _ _ h => h.elim
theorem pg_call {E : L2.St → XK} (F : Fg X.prog X.w X.K X.mg X.base C n f fd ps sp) (g : X.A.guards = some []) (r : Room n X.A) (hg : Gl X x) (hm : X.mg x = some (.ref f)) (hk : PySem.W.keepIn X.K (.ref f) = true)
    (b : Binds X.K fd ps ds) (d : Vals dvs ds) (hx : ∀ σ, PassesAt C X σ (E σ)) (ha : PA X (e :: es) t) (hdb : (x == ("__debug__" : Str)) = false := by decide)
    (he : starEach (e :: es) X.env = (false, eval e X.env) :: starEach es X.env := by rfl) (hp : (backTo pos (starEach es X.env)).any (·.1) = false := by rfl) :
    PE X (.Call (.Name x p) (e :: es) [] pos) (tG sp dvs E t) := by
  refine ⟨fun pins s σ H Q I h => ?_⟩
  refine wpAny_Call_Name_kw (ld_glob I hg hm (PySem.W.callWith_K (h₀ := X.base) I.ok.mod.kin hk (thn (ha.run pos pins s σ H _ I h) ?_) he hp) hdb)
  rintro us s1 ⟨vs, H1, J, v, q⟩
  exact ⟨J.kIn, goS F g r b d (hx σ) J v q⟩
theorem pg_call0 {E : L2.St → XK} (F : Fg X.prog X.w X.K X.mg X.base C n f fd ps sp) (g : X.A.guards = some []) (r : Room n X.A) (hg : Gl X x) (hm : X.mg x = some (.ref f)) (hk : PySem.W.keepIn X.K (.ref f) = true)
    (b : Binds X.K fd ps ds) (d : Vals dvs ds) (hx : ∀ σ, PassesAt C X σ (E σ)) (hdb : (x == ("__debug__" : Str)) = false := by decide) : PE X (.Call (.Name x p) [] [] pos) (tG sp dvs E tNil) := by
  refine ⟨fun pins s σ H Q I h => ?_⟩
  exact wpAny_Call_Name_kw (ld_glob I hg hm (PySem.W.callWith_K0 I.kIn hk (goS (us := []) F g r b d (hx σ) I .nil h)) hdb)
theorem pg_meth {Cl : Addr} {E : L2.St → XK} {pl : Sem Bool} (he : PE X o ta) (c : Cls X.K Cl) (hm : Meth X.K Cl m f) (F : Fg X.prog X.w X.K X.mg X.base C n f fd ps sp) (g : X.A.guards = some []) (r : Room n X.A)
    (b : Binds X.K fd ps ds) (d : Vals dvs ds) (hx : ∀ σ, PassesAt C X σ (E σ)) (ha : PA X (e :: es) t)
    (hst : starEach (e :: es) X.env = (false, eval e X.env) :: starEach es X.env := by rfl) (hp : (backTo pos (starEach es X.env)).any (·.1) = false := by rfl)
    (ht : eval (.Call (.Attribute o m apos) (e :: es) [] pos) X.env = (do
      let ov ← eval o X.env
      standAt apos.atName
      let (f, first) ← holding [ov] (getMethod ov m pl)
      callWith pos f first (backTo pos (starEach (e :: es) X.env)) (backToKw pos (keywordEach [] X.env))) := by rfl) :
    PE X (.Call (.Attribute o m apos) (e :: es) [] pos) (tMG Cl m sp dvs E ta t) := by
  refine ⟨fun pins s σ H Q I h => ?_⟩
  refine PySem.W.methodCall_KW (pl := pl) (thn (he.run pins s σ H _ I h) ?_) ht
  rintro u s1 ⟨y, H1, J, ry, a, dx, fs, ey, ea, l, q⟩
  subst ey
  obtain rfl : u = Value.ref a := ry
  refine getmeth_ok J ea c hm l (PySem.W.callWith_K (first := [.ref a]) (h₀ := X.base) I.ok.mod.kin hm.kp (thn (ha.run pos pins s1 σ H1 _ J q) ?_) hst hp)
  rintro us s2 ⟨vs, H2, J2, v, q2⟩
  exact ⟨J2.kIn, goS (us := .ref a :: us) (vs := .ref a :: vs) F g r b d (hx σ) J2 (.cons rfl v) q2⟩
theorem pg_meth0 {Cl : Addr} {E : L2.St → XK} {pl : Sem Bool} (he : PE X o ta) (c : Cls X.K Cl) (hm : Meth X.K Cl m f) (F : Fg X.prog X.w X.K X.mg X.base C n f fd ps sp) (g : X.A.guards = some []) (r : Room n X.A)
    (b : Binds X.K fd ps ds) (d : Vals dvs ds) (hx : ∀ σ, PassesAt C X σ (E σ))
    (ht : eval (.Call (.Attribute o m apos) [] [] pos) X.env = (do
      let ov ← eval o X.env
      standAt apos.atName
      let (f, first) ← holding [ov] (getMethod ov m pl)
      callWith pos f first (backTo pos (starEach [] X.env)) (backToKw pos (keywordEach [] X.env))) := by rfl) :
    PE X (.Call (.Attribute o m apos) [] [] pos) (tMG Cl m sp dvs E ta tNil) := by
  refine ⟨fun pins s σ H Q I h => ?_⟩
  refine PySem.W.methodCall_KW (pl := pl) (thn (he.run pins s σ H _ I h) ?_) ht
  rintro u s1 ⟨y, H1, J, ry, a, dx, fs, ey, ea, l, q⟩
  subst ey
  obtain rfl : u = Value.ref a := ry
  exact getmeth_ok J ea c hm l (PySem.W.callWith_K0 (first := [.ref a]) J.kIn hm.kp (goS (us := [.ref a]) (vs := [.ref a]) F g r b d (hx σ) J (.cons rfl .nil) q))
theorem make_guards {A : Around} {D : Addr} {us : List Value} {kw : List (Str × Value)} (g : A.guards = some []) : (A.under (.builtin "type.__call__" ⟨.ref D :: us, kw⟩)).guards = some [] := by
  first
  | exact g
  | (have h : (Code.builtin "type.__call__" ⟨.ref D :: us, kw⟩).guards = [] := by
       first | rfl | simp [Code.guards, Code.isGuard, guardIds]
     show pushGuards _ A.guards = _
     rw [h, g]; rfl)
/-- C(..) -/
def tKG (Cl : Addr) (sp : Sp) (dvs : List V) (E : L2.St → XK) (t : TA) : TE := fun σ H Q => t σ H fun vs H1 => ∀ x dx, H1 x = none → H1 dx = none → dx ≠ x →
  sp (.ref x :: (vs ++ dvs)) (upd (upd H1 dx (.own x)) x (.ins Cl dx [])) (fun v H2 => v = .non ∧ Q (.ref x) H2) (E σ)
theorem goK {Cl : Addr} {pins : List (Addr × Obj)} {σ : L2.St} {H : Hp} {s : Shared} {Q : VK} {us : List Value} {vs : List V} {E : XK} (M : Mk X.K Cl f) (F : Fg X.prog X.w X.K X.mg X.base C n f fd ps sp) (g : X.A.guards = some [])
    (r : Room (n + 1) X.A) (b : Binds X.K fd ps ds) (d : Vals dvs ds) (hx : PassesAt C X σ E) (I : Inv X pins σ H s) (v : Vals vs us)
    (h : ∀ x dx, H x = none → H dx = none → dx ≠ x → sp (.ref x :: (vs ++ dvs)) (upd (upd H dx (.own x)) x (.ins Cl dx [])) (fun v H2 => v = .non ∧ Q (.ref x) H2) E) :
    wpAny (model X.prog X.w) X.A (call (.ref Cl) us) (EP X pins σ Q) X.xe s := by
  have q := h (s.heap.objs.size + 1) s.heap.objs.size (I.hok.fresh (Nat.le_succ _)) (I.hok.fresh (Nat.le_refl _)) (Nat.ne_of_lt (Nat.lt_succ_self _))
  have J := Inv.made (C := Cl) I
  have v2 : Vals (V.ref (s.heap.objs.size + 1) :: (vs ++ dvs)) (Value.ref (s.heap.objs.size + 1) :: (us ++ ds)) := .cons rfl (v.append d)
  have hl : (Value.ref (s.heap.objs.size + 1) :: us ++ ds).length = ps.length := (v2.length.symm.trans (F.ar _ _ _ _ q) : _)
  refine wpAny_call (make_map (f := f) I.kIn M.makes M.init (beq_iff_eq.mp M.fn) (codeAny_mono (F.go _ X.stack _ _ ⟨Value.ref (s.heap.objs.size + 1) :: us, []⟩ (Value.ref (s.heap.objs.size + 1) :: (us ++ ds)) _ _ E
    (make_guards g) (r.make Cl us []) (J.env0.make Cl us []) (b _ (Value.ref (s.heap.objs.size + 1) :: us) J.kIn hl) v2 q) fun z s' hz => ?_))
  match z, hz with
  | .error e, hz => exact hx pins _ _ e s' J hz
  | .ok (.ret u), hz =>
    obtain ⟨y, H', J3, ry, ey, q3⟩ := J.after hz
    subst ey
    exact ⟨ry, ⟨V.ref (s.heap.objs.size + 1), H', J3, rfl, q3⟩⟩
theorem pg_make {Cl : Addr} {E : L2.St → XK} (M : Mk X.K Cl f) (F : Fg X.prog X.w X.K X.mg X.base C n f fd ps sp) (g : X.A.guards = some []) (r : Room (n + 1) X.A) (hg : Gl X x) (hm : X.mg x = some (.ref Cl))
    (b : Binds X.K fd ps ds) (d : Vals dvs ds) (hx : ∀ σ, PassesAt C X σ (E σ)) (ha : PA X (e :: es) t) (hdb : (x == ("__debug__" : Str)) = false := by decide)
    (he : starEach (e :: es) X.env = (false, eval e X.env) :: starEach es X.env := by rfl) (hp : (backTo pos (starEach es X.env)).any (·.1) = false := by rfl) :
    PE X (.Call (.Name x p) (e :: es) [] pos) (tKG Cl sp dvs E t) := by
  refine ⟨fun pins s σ H Q I h => ?_⟩
  refine wpAny_Call_Name_kw (ld_glob I hg hm (PySem.W.callWith_K (h₀ := X.base) I.ok.mod.kin M.kp (thn (ha.run pos pins s σ H _ I h) ?_) he hp) hdb)
  rintro us s1 ⟨vs, H1, J, v, q⟩
  exact ⟨J.kIn, goK M F g r b d (hx σ) J v q⟩
theorem pg_make0 {Cl : Addr} {E : L2.St → XK} (M : Mk X.K Cl f) (F : Fg X.prog X.w X.K X.mg X.base C n f fd ps sp) (g : X.A.guards = some []) (r : Room (n + 1) X.A) (hg : Gl X x) (hm : X.mg x = some (.ref Cl))
    (b : Binds X.K fd ps ds) (d : Vals dvs ds) (hx : ∀ σ, PassesAt C X σ (E σ)) (hdb : (x == ("__debug__" : Str)) = false := by decide) : PE X (.Call (.Name x p) [] [] pos) (tKG Cl sp dvs E tNil) := by
  refine ⟨fun pins s σ H Q I h => ?_⟩
  exact wpAny_Call_Name_kw (ld_glob I hg hm (PySem.W.callWith_K0 I.kIn M.kp (goK (us := []) M F g r b d (hx σ) I .nil h)) hdb)
end

/-! ### the law's own call -/
section
variable {P : Program} {w : World} {K : PySem.W.Frag} {mg mb : Str → Option Value} {C : CXT} {n : Nat} {fa a : Addr} {fd : FuncData} {x : Str} {sp : Sp} {s1 : Shared} {us : List Value} {ns : List Int}
/-- from an abstract heap that tracks the script at most -/
theorem law_from (H : Hp) (KX : K.In s1.heap) (n1 : s1.heap.Ns mainGlobals mg) (n2 : s1.heap.Ns builtinsNs mb) (n3 : ∀ x : Str, x ≠ "__name__" → mb x = bootBuiltins x) (n4 : s1.heap.NoLimit) (n5 : s1.gens = #[])
    (ha : s1.heap.get? a = some { cls := .type "list", data := .seq us.toArray }) (hr : Room n callerA)
    (F : ∀ bs : Heap, K.In bs → bs.Ns mainGlobals mg → (s1.heap.NoSeer → ∃ mm, bs.Ns sysModules mm) → Fg P w K mg bs C n fa fd [x] sp) (hb : ∀ (s : Shared) (u : Value), BindsTo s fd ⟨[u], []⟩ [(x, u)])
    (hO : Only H) (hok : HOk P w H s1.heap) (hA : ∀ b, H b ≠ none → b = a ∧ K.lookup a = none) (q : sp [.ref a] H (fun v _ => v = .bl true) fun _ _ _ => False)
    (hC : ∀ e s', C [] H s1 (fun _ _ _ => False) e s' → False) :
    codeAny (model P w) callerA (.call (.ref fa) ⟨[.ref a], []⟩) (fun r s' => r = .ok (.ret (.bool true)) ∧ OldK s1.heap s'.heap ∧ s'.os = s1.os ∧ AllBare s'.gens) s1 := by
  have nf : ∀ {b : Addr}, b ≠ a → H b = none := fun {b} hb => Classical.byContradiction fun z => hb (hA b z).1
  have und : ∀ {b : Addr} {o : Obj}, s1.heap.get? b = some o → H b = none → (hidT s1.heap H).get? b = some o := fun z1 z2 => hidT_get z1 z2
  have nd : ∀ {b : Addr} {o : Obj} {es : Array DictEntry} {ep : Nat}, s1.heap.get? b = some o → o.data = .dict es ep → H b = none := by
    intro b o es ep z1 z2
    refine nf fun e => ?_
    subst e
    rw [ha] at z1
    cases z1
    exact absurd z2 (by intro z; cases z)
  have nsH : ∀ {b : Addr} {m : Str → Option Value}, s1.heap.Ns b m → (hidT s1.heap H).Ns b m := fun ⟨o, es, ep, z1, z2, r⟩ => ⟨o, es, ep, und z1 (nd z1 z2), z2, r⟩
  have kH : K.In (hidT s1.heap H) := by
    intro b o z
    refine und (KX b o z) (Classical.byContradiction fun c => ?_)
    obtain ⟨e, l⟩ := hA b c
    rw [e, l] at z
    cases z
  have md : Mod K mg (hidT s1.heap H) := ⟨kH, nsH n1, ⟨mb, nsH n2, n3⟩, n4.elim fun mc z => ⟨mc, nsH z.1, z.2⟩⟩
  have e0 : Env0 P w K mg (hidT s1.heap H) callerA [] s1 H := ⟨rfl, md, fun b o z => of_hidT z, Nat.le_of_eq (hidT_size _ _), trivial, fun b z => (List.not_mem_nil z).elim, hok, AllBare.of_eq n5⟩
  refine codeAny_mono ((F _ kH (nsH n1) fun z => z.mods.elim fun mm h => ⟨mm, nsH h.1⟩).go callerA [] s1 H ⟨[.ref a], []⟩ [.ref a] [.ref a] _ _ rfl hr e0 (hb s1 (.ref a)) (.cons rfl .nil) q) fun r s' z => ?_
  match r, z with
  | .error e, z => exact (hC e s' z).elim
  | .ok (.ret u), ⟨v, H', o1, o2, un, hok', rv, ev⟩ =>
    have ev' : v = .bl true := ev
    subst ev'
    obtain rfl : u = Value.bool true := rv
    refine ⟨rfl, OldK.of_keep fun b o z => ?_, o1, o2⟩
    rcases hO b with c | ⟨ob, xs, c⟩
    · exact un.keep b o z c (fun y => (List.not_mem_nil y).elim) (fun y => (List.not_mem_nil y).elim)
    · obtain ⟨z1, _⟩ := hok b _ c
      obtain ⟨z2, _⟩ := hok' b _ (un.frzs b ob _ c)
      rw [z] at z1
      cases z1
      exact z2
theorem law_go (KX : K.In s1.heap) (n1 : s1.heap.Ns mainGlobals mg) (n2 : s1.heap.Ns builtinsNs mb) (n3 : ∀ x : Str, x ≠ "__name__" → mb x = bootBuiltins x) (n4 : s1.heap.NoLimit) (n5 : s1.gens = #[])
    (ha : s1.heap.get? a = some { cls := .type "list", data := .seq us.toArray }) (hi : IntsAre us ns) (hl : ns.length ≤ sizeLine) (hr : Room n callerA)
    (F : ∀ bs : Heap, K.In bs → bs.Ns mainGlobals mg → (s1.heap.NoSeer → ∃ mm, bs.Ns sysModules mm) → Fg P w K mg bs C n fa fd [x] sp) (hb : ∀ (s : Shared) (u : Value), BindsTo s fd ⟨[u], []⟩ [(x, u)])
    (q : ∀ H : Hp, Only H → SqL K H a (ns.map V.int) → sp [.ref a] H (fun v _ => v = .bl true) fun _ _ _ => False) (hC : ∀ H e s', C [] H s1 (fun _ _ _ => False) e s' → False) :
    codeAny (model P w) callerA (.call (.ref fa) ⟨[.ref a], []⟩) (fun r s' => r = .ok (.ret (.bool true)) ∧ OldK s1.heap s'.heap ∧ s'.os = s1.os ∧ AllBare s'.gens) s1 := by
  have lu := hi.length
  cases hk : K.lookup a with
  | some o =>
    have e := KX a o hk
    rw [ha] at e
    cases e
    have hO : Only (fun _ => none) := fun _ => Or.inl rfl
    refine law_from (fun _ => none) KX n1 n2 n3 n4 n5 ha hr F hb hO (fun b u z => (by cases z)) (fun b z => absurd rfl z) (q _ hO (Or.inr ⟨_, us.toArray, _, hk, rfl, rfl, rfl, ?_, ?_⟩)) fun e s' => hC _ e s'
    · rw [List.size_toArray, lu]
      exact hl
    · exact vals_ints hi
  | none =>
    let H0 : Hp := fun b => if b = a then some (.frz { cls := .type "list", data := .seq us.toArray } (.lst (ns.map V.int))) else none
    have h1 : H0 a = some (.frz { cls := .type "list", data := .seq us.toArray } (.lst (ns.map V.int))) := if_pos rfl
    have h2 : ∀ {b : Addr}, b ≠ a → H0 b = none := fun z => if_neg z
    have hO : Only H0 := fun b => by
      by_cases c : b = a
      · subst c
        exact Or.inr ⟨_, _, h1⟩
      · exact Or.inl (h2 c)
    refine law_from H0 KX n1 n2 n3 n4 n5 ha hr F hb hO (fun b u z => ?_) (fun b z => ⟨Classical.byContradiction fun c => z (h2 c), hk⟩) (q _ hO (Or.inl (Or.inr ⟨_, h1⟩))) fun e s' => hC _ e s'
    by_cases c : b = a
    · subst c
      cases h1.symm.trans z
      exact ⟨ha, by rw [List.length_map]; exact hl, us, _, vals_ints hi, ha⟩
    · cases (h2 c).symm.trans z
end
theorem walk_q {l : PySem.W.OpenLaw} {n k : Nat} {q : Program} {loose : List Str} {XP : (Str → Option Value) → Heap → Prop} {YP : World → Heap → Prop} {d : DefRec} {K : Params → PySem.W.Frag} {C : World → CXT} {sp : World → Sp} {x : Str}
    (hn : l.most = some n) (hn2 : n ≤ sizeLine) (hdf : d.params.defaults = []) (hr : Room k callerA) (hY : ∀ (w : World) (h : Heap), YP w h → (K w.params).In h)
    (F : ∀ (w : World) (mg : Str → Option Value) (fa : Addr) (h : Heap), (K w.params).In h → h.Ns mainGlobals mg → mg d.name = some (.ref fa) →
      ∃ fd : FuncData, (∀ (s : Shared) (u : Value), BindsTo s fd ⟨[u], []⟩ [(x, u)]) ∧ ∀ bs : Heap, (K w.params).In bs → bs.Ns mainGlobals mg → (PyProof.Rows.importsNone q = true → ∃ mm, bs.Ns sysModules mm) → Fg l.prog w (K w.params) mg bs (C w) k fa fd [x] (sp w))
    (hsp : ∀ (w : World) (H : Hp) (a : Addr) (ns : List Int), ns.length ≤ n → (∀ z ∈ ns, Builtin.Int.intBits z ≤ 1048576) → Only H → SqL (K w.params) H a (ns.map V.int) → sp w [.ref a] H (fun v _ => v = .bl true) fun _ _ _ => False)
    (hC : ∀ (w : World) (H : Hp) (s : Shared) (e : Value) (s' : Shared), C w [] H s (fun _ _ _ => False) e s' → False) :
    PySem.W.WalkO q loose XP YP l.row.toRowW d [] (fun f vs => PySem.call f vs) := by
  refine Att.attach_callB hn hdf fun w s0 s1 mg mb fa o pm cd doc a us ns G Y ho hd hcd hmg hobj hi hlen hbits hg => ?_
  obtain ⟨fd, hb, hF⟩ := F w mg fa _ (hY w _ Y) G.T.g hmg
  exact law_go (hY w _ Y) G.T.g G.T.b G.T.builtins G.T.nolimit hg hobj hi (Nat.le_trans hlen hn2) hr (fun bs h1 h2 h3 => hF bs h1 h2 fun z => h3 (G.T.seer z)) hb (fun H hO hS => hsp w H a ns hlen hbits hO hS) fun H e s' => hC w H s1 e s'
theorem walk_g {l : PySem.W.OpenLaw} {n k : Nat} {q : Program} {loose : List Str} {XP : (Str → Option Value) → Heap → Prop} {YP : World → Heap → Prop} {d : DefRec} {K : Params → PySem.W.Frag} {C : World → CXT} {sp : World → Sp} {x : Str}
    (hn : l.most = some n) (hn2 : n ≤ sizeLine) (hdf : d.params.defaults = []) (hr : Room k callerA) (hY : ∀ (w : World) (h : Heap), YP w h → (K w.params).In h)
    (F : ∀ (w : World) (mg : Str → Option Value) (fa : Addr) (h : Heap), (K w.params).In h → h.Ns mainGlobals mg → mg d.name = some (.ref fa) →
      ∃ fd : FuncData, (∀ (s : Shared) (u : Value), BindsTo s fd ⟨[u], []⟩ [(x, u)]) ∧ ∀ bs : Heap, (K w.params).In bs → bs.Ns mainGlobals mg → Fg l.prog w (K w.params) mg bs (C w) k fa fd [x] (sp w))
    (hsp : ∀ (w : World) (H : Hp) (a : Addr) (ns : List Int), ns.length ≤ n → (∀ z ∈ ns, Builtin.Int.intBits z ≤ 1048576) → Only H → SqL (K w.params) H a (ns.map V.int) → sp w [.ref a] H (fun v _ => v = .bl true) fun _ _ _ => False)
    (hC : ∀ (w : World) (H : Hp) (s : Shared) (e : Value) (s' : Shared), C w [] H s (fun _ _ _ => False) e s' → False) :
    PySem.W.WalkO q loose XP YP l.row.toRowW d [] (fun f vs => PySem.call f vs) :=
  walk_q hn hn2 hdf hr hY (fun w mg fa h h1 h2 h3 => let ⟨fd, hb, hF⟩ := F w mg fa h h1 h2 h3; ⟨fd, hb, fun bs k1 k2 _ => hF bs k1 k2⟩) hsp hC
end Vg


set_option Elab.async false
set_option linter.all false
set_option maxRecDepth 100000
set_option maxHeartbeats 2000000
namespace Vg
open PySem PySem.Spec PyProof.Rows L2

/-! ### how long a text repr gives -/
theorem lt_one {n : Nat} (ts : List Str) (h : ∀ t ∈ ts, t.length ≤ n) : piled ts ≤ ts.length * (n + 2) := by
  induction ts with
  | nil => exact Nat.zero_le _
  | cons t r ih =>
    have h1 := h t List.mem_cons_self
    have h2 := ih fun u hu => h u (List.mem_cons_of_mem _ hu)
    rw [piled_cons, List.length_cons, Nat.succ_mul]
    omega
theorem listText_le (ts : List Str) : (listText ts).length ≤ piled ts + 2 := by
  cases ts with
  | nil => exact Nat.le_refl _
  | cons t r =>
    have h := textFrom_length_pos r 1 (("[" : Str) ++ (if (0 : Nat) > 0 then ", " else "" : String) ++ t) (Nat.succ_pos 0)
    have e : (("[" : Str) ++ (if (0 : Nat) > 0 then ", " else "" : String) ++ t).length = 1 + t.length := by
      rw [strLen_append, strLen_append]; rfl
    have x : (listText (t :: r)).length = (textFrom 0 "[" (t :: r)).length + 1 := by
      show (textFrom 0 "[" (t :: r) ++ "]").length = _
      rw [strLen_append]; rfl
    have y : textFrom 0 "[" (t :: r) = textFrom 1 (("[" : Str) ++ (if (0 : Nat) > 0 then ", " else "" : String) ++ t) r := rfl
    rw [x, y, h, e, piled_cons]
    omega
theorem shownAll_map : ∀ ds : List PyData, PyData.shownAll ds = ds.map PyData.shown
  | [] => rfl
  | d :: r => by
    rw [PyData.shownAll, shownAll_map r]; rfl
theorem showableAll_all : ∀ ds : List PyData, (∀ d ∈ ds, d.showable = true) → PyData.showableAll ds = true
  | [], _ => rfl
  | d :: r, h => by
    rw [PyData.showableAll, h d List.mem_cons_self, showableAll_all r fun e he => h e (List.mem_cons_of_mem _ he)]; rfl
theorem hasDictAll_all : ∀ ds : List PyData, (∀ d ∈ ds, d.hasDict = false) → PyData.hasDictAll ds = false
  | [], _ => rfl
  | d :: r, h => by
    rw [PyData.hasDictAll, h d List.mem_cons_self, hasDictAll_all r fun e he => h e (List.mem_cons_of_mem _ he)]; rfl
theorem depthAll_le {k : Nat} : ∀ ds : List PyData, (∀ d ∈ ds, d.depth ≤ k) → PyData.depthAll ds ≤ k
  | [], _ => Nat.zero_le _
  | d :: r, h => by
    rw [PyData.depthAll]
    exact Nat.max_le.mpr ⟨h d List.mem_cons_self, depthAll_le r fun e he => h e (List.mem_cons_of_mem _ he)⟩
/-- data that repr writes in at most n signs, nested at most k deep -/
structure Shw (n k : Nat) (d : PyData) : Prop where
  sh : d.showable = true
  nd : d.hasDict = false
  dp : d.depth ≤ k
  sz : d.shown.length ≤ n
theorem Shw.up {n k m j : Nat} {d : PyData} (h : Shw n k d) (h1 : n ≤ m) (h2 : k ≤ j) : Shw m j d := ⟨h.sh, h.nd, Nat.le_trans h.dp h2, Nat.le_trans h.sz h1⟩
theorem Shw.non : Shw 4 1 .none := ⟨rfl, rfl, by decide +kernel, by decide +kernel⟩
theorem Shw.bl (b : Bool) : Shw 5 1 (.bool b) := by cases b <;> exact ⟨rfl, rfl, by decide +kernel, by decide +kernel⟩
theorem Shw.str (x : Str) (h : ∀ c ∈ x.cps.toList, c < 16 ^ 8) : Shw (10 * x.length + 2) 1 (.str x) := ⟨by rw [PyData.showable], by rw [PyData.hasDict], by simp [PyData.depth], by rw [PyData.shown]; exact StrLaws.reprText_len x h⟩
theorem Shw.int {k : Nat} {i : Int} (hk : 0 < k) (hk2 : k ≤ 1920) (h : i.natAbs < 2 ^ k) : Shw (k + 1) 1 (.int i) := by
  refine ⟨?_, by rw [PyData.hasDict], by simp [PyData.depth], ?_⟩
  · rw [PyData.showable]
    exact decide_eq_true (Nat.lt_of_lt_of_le (PySem.Flt.log2_lt_of hk h) hk2)
  · rw [PyData.shown]
    show (Str.ofString (toString i)).length ≤ _
    rw [PySem.ofString_length]
    exact int_text_length_le hk (PySem.Flt.log2_lt_of hk h)
theorem Shw.lst {n k : Nat} {ds : List PyData} (h : ∀ d ∈ ds, Shw n k d) : Shw (ds.length * (n + 2) + 2) (k + 1) (.list ds) := by
  refine ⟨?_, ?_, ?_, ?_⟩
  · rw [PyData.showable]
    exact showableAll_all ds fun d hd => (h d hd).sh
  · rw [PyData.hasDict]
    exact hasDictAll_all ds fun d hd => (h d hd).nd
  · simp only [PyData.depth]
    have := depthAll_le ds fun d hd => (h d hd).dp
    omega
  · rw [PyData.shown, shownAll_map]
    refine Nat.le_trans (listText_le _) ?_
    have := lt_one (n := n) (ds.map PyData.shown) (by
      intro t ht
      obtain ⟨d, hd, rfl⟩ := List.mem_map.mp ht
      exact (h d hd).sz)
    rw [List.length_map] at this
    omega
theorem Shw.tup {n k : Nat} {ds : List PyData} (h : ∀ d ∈ ds, Shw n k d) : Shw (ds.length * (n + 2) + 2) (k + 1) (.tuple ds) := by
  refine ⟨?_, ?_, ?_, ?_⟩
  · rw [PyData.showable]
    exact showableAll_all ds fun d hd => (h d hd).sh
  · rw [PyData.hasDict]
    exact hasDictAll_all ds fun d hd => (h d hd).nd
  · simp only [PyData.depth]
    have := depthAll_le ds fun d hd => (h d hd).dp
    omega
  · rw [PyData.shown, shownAll_map]
    refine Nat.le_trans (fmt_text _) ?_
    have := lt_one (n := n) (ds.map PyData.shown) (by
      intro t ht
      obtain ⟨d, hd, rfl⟩ := List.mem_map.mp ht
      exact (h d hd).sz)
    rw [List.length_map] at this
    omega

/-! ### repr -/
def rRepr (K : PySem.W.Frag) : List V → Hp → VK → Prop := fun xs H Q => ∃ x d, xs = [x] ∧ Dp K H x d ∧ Shw 16000000 60 d ∧ Q (.str d.shown) H
theorem call_repr {X : Cx} {n : Nat} (g : X.A.guards = some []) (r : Room n X.A) : CallR X (.builtin "repr") (rRepr X.K) := by
  intro pins s σ H xs us Q I rv h
  obtain ⟨x, d, rfl, hd, sw, q⟩ := h
  obtain ⟨u, rfl, ru⟩ := vals1 rv
  have hz : d.shown.length ≤ sizeLine := Nat.le_trans sw.sz (by decide)
  have hu := r.units
  cases hd with
  | non =>
    cases ru
    rw [PyData.shown] at q
    exact PySem.P.repr_of_none ⟨.str _, H, I.tok _, ⟨_, rfl⟩, q⟩
  | bl b =>
    cases ru
    rw [PyData.shown] at q
    exact PySem.P.repr_of_bool ⟨.str _, H, I.tok _, ⟨_, rfl⟩, q⟩
  | int i =>
    obtain ⟨t, rfl⟩ := ru
    have hs := sw.sh
    rw [PyData.showable] at hs
    rw [PyData.shown] at q
    exact PySem.P.repr_of_int (of_decide_eq_true hs) ⟨.str _, H, I.tok _, ⟨_, rfl⟩, q⟩
  | str y =>
    obtain ⟨t, rfl⟩ := ru
    rw [PyData.shown] at hz q
    exact PySem.P.repr_of_str ⟨.str _, H, I.tok _, ⟨_, rfl⟩, q⟩ hz
  | lst hs ha =>
    obtain rfl : u = Value.ref _ := ru
    obtain ⟨as, rd⟩ := Dp.reads I _ _ _ (Dp.lst hs ha) rfl
    refine repr_of_reads' rd sw.sh (fun z => by rw [sw.nd] at z; cases z) g (by have := sw.dp; omega) (fun _ _ z => z) (fun h' u tk hk => ?_) hz
    exact ⟨.str _, H, I.call' (s' := { s with heap := h', toks := tk }) (ch := []) rfl (Un.kept hk) (I.hok.kept hk) I.bare (fun b z => (List.not_mem_nil z).elim), ⟨u, rfl⟩, q⟩
  | tup hs ha =>
    obtain rfl : u = Value.ref _ := ru
    obtain ⟨as, rd⟩ := Dp.reads I _ _ _ (Dp.tup hs ha) rfl
    refine repr_of_reads' rd sw.sh (fun z => by rw [sw.nd] at z; cases z) g (by have := sw.dp; omega) (fun _ _ z => z) (fun h' u tk hk => ?_) hz
    exact ⟨.str _, H, I.call' (s' := { s with heap := h', toks := tk }) (ch := []) rfl (Un.kept hk) (I.hok.kept hk) I.bare (fun b z => (List.not_mem_nil z).elim), ⟨u, rfl⟩, q⟩

/-! ### x ** k of great numbers -/
theorem op_powW {X : Cx} : OpR X (binaryOp .Pow) (rI (fun i j => 0 ≤ j ∧ (Builtin.Int.intBits i : Int) * j ≤ 2 ^ 27) fun i j => .int (i ^ j.toNat)) := opI fun _ _ _ _ _ _ _ hc q => pow_int hc.1 hc.2 q
theorem bits_le {i : Int} {n : Nat} (hn : 0 < n) (h : i.natAbs < 2 ^ n) : Builtin.Int.intBits i ≤ n := by
  have := PySem.Flt.log2_lt_of hn h
  unfold Builtin.Int.intBits
  split <;> omega
end Vg


set_option Elab.async false
set_option linter.all false
set_option maxRecDepth 100000
set_option maxHeartbeats 2000000
namespace Vg
open PySem PySem.Spec PyProof.Rows L2

/-! ### the ledger: over a heap B that stands, what is owned -/
structure Led (B H : Hp) (l : List (Addr × HO)) : Prop where
  sm : Same B H
  nd : (l.map (·.1)).Nodup
  fr : ∀ e ∈ l, B e.1 = none
  hs : ∀ e ∈ l, H e.1 = some e.2
inductive Put : List (Addr × HO) → Addr → HO → List (Addr × HO) → Prop
  | hd {p : Addr} {o o' : HO} {l : List (Addr × HO)} : Put ((p, o) :: l) p o' ((p, o') :: l)
  | tl {e : Addr × HO} {p : Addr} {o' : HO} {l l' : List (Addr × HO)} : Put l p o' l' → Put (e :: l) p o' (e :: l')
/-- the entries of l' are, one by one, entries of l -/
inductive Pick : List (Addr × HO) → Addr × HO → List (Addr × HO) → Prop
  | hd {e : Addr × HO} {l : List (Addr × HO)} : Pick (e :: l) e l
  | tl {d e : Addr × HO} {l l' : List (Addr × HO)} : Pick l e l' → Pick (d :: l) e (d :: l')
inductive Sel : List (Addr × HO) → List (Addr × HO) → Prop
  | nil {l : List (Addr × HO)} : Sel l []
  | all {l : List (Addr × HO)} : Sel l l
  | cons {e : Addr × HO} {l r l' : List (Addr × HO)} : Pick l e r → Sel r l' → Sel l (e :: l')
  | skip {e : Addr × HO} {l l' : List (Addr × HO)} : Sel l l' → Sel (e :: l) l'
section
variable {B H : Hp} {l l' : List (Addr × HO)} {p q : Addr} {o o' : HO}
theorem Led.nil (H : Hp) : Led H H [] := ⟨Same.refl H, List.nodup_nil, fun _ h => (List.not_mem_nil h).elim, fun _ h => (List.not_mem_nil h).elim⟩
theorem Led.at (L : Led B H l) (h : (p, o) ∈ l) : H p = some o := L.hs _ h
theorem Led.seq {K : PySem.W.Frag} {a : Addr} {xs : List V} (L : Led B H l) (h : SqL K B a xs) : SqL K H a xs := L.sm.seq h
theorem Led.lstAt {K : PySem.W.Frag} {a : Addr} {xs : List V} (L : Led B H l) (h : (a, HO.lst xs) ∈ l) : SqL K H a xs := Or.inl (Or.inl (L.at h))
theorem Led.tupAt {K : PySem.W.Frag} {a : Addr} {xs : List V} (L : Led B H l) (h : (a, HO.tup xs) ∈ l) : SqT K H a xs := Or.inl (Or.inl (L.at h))
theorem Led.new (L : Led B H l) (h : H p = none) : Led B (upd H p o) ((p, o) :: l) := by
  have hb : B p = none := L.sm.free h
  have ne : ∀ e ∈ l, e.1 ≠ p := fun e he z => by
    have := L.hs e he
    rw [z, h] at this
    cases this
  refine ⟨fun a u z => ?_, ?_, fun e he => ?_, fun e he => ?_⟩
  · rw [upd_ne (ne_of_none (L.sm a u z) h)]
    exact L.sm a u z
  · rw [List.map_cons]
    refine List.nodup_cons.mpr ⟨fun z => ?_, L.nd⟩
    obtain ⟨e, he, e2⟩ := List.mem_map.mp z
    exact ne e he e2
  · rcases List.mem_cons.mp he with z | z
    · rw [z]; exact hb
    · exact L.fr e z
  · rcases List.mem_cons.mp he with z | z
    · rw [z]; exact upd_same
    · rw [upd_ne (ne e z)]; exact L.hs e z
theorem Put.map (h : Put l p o' l') : l'.map (·.1) = l.map (·.1) := by
  induction h with
  | hd => rfl
  | tl _ ih => rw [List.map_cons, List.map_cons, ih]
theorem Put.mem (h : Put l p o' l') : ∀ e ∈ l', e = (p, o') ∨ e ∈ l := by
  induction h with
  | hd => intro e he; exact (List.mem_cons.mp he).imp id fun z => List.mem_cons_of_mem _ z
  | tl _ ih =>
    intro e he
    rcases List.mem_cons.mp he with z | z
    · exact Or.inr (z ▸ List.mem_cons_self)
    · exact (ih e z).imp id fun z => List.mem_cons_of_mem _ z
theorem Put.of (h : Put l p o' l') : p ∈ l.map (·.1) := by
  induction h with
  | hd => exact List.mem_cons_self
  | tl _ ih => exact List.mem_cons_of_mem _ ih
theorem Put.pm (h : Put l p o' l') : (p, o') ∈ l' := by
  induction h with
  | hd => exact List.mem_cons_self
  | tl _ ih => exact List.mem_cons_of_mem _ ih
theorem mem_apart {l : List (Addr × HO)} (nd : (l.map (·.1)).Nodup) {e d : Addr × HO} (h1 : e ∈ l) (h2 : d ∈ l) (h : e.1 = d.1) : e = d := by
  induction l with
  | nil => cases h1
  | cons x r ih =>
    rw [List.map_cons] at nd
    obtain ⟨n1, n2⟩ := List.nodup_cons.mp nd
    rcases List.mem_cons.mp h1 with z1 | z1
    · rcases List.mem_cons.mp h2 with z2 | z2
      · rw [z1, z2]
      · exact (n1 (by rw [← z1, h]; exact List.mem_map_of_mem z2)).elim
    · rcases List.mem_cons.mp h2 with z2 | z2
      · exact (n1 (by rw [← z2, ← h]; exact List.mem_map_of_mem z1)).elim
      · exact ih n2 z1 z2
theorem Led.put (L : Led B H l) (h : Put l p o' l') : Led B (upd H p o') l' := by
  obtain ⟨e0, he0, e1⟩ := List.mem_map.mp h.of
  have hp : B p = none := by rw [← e1]; exact L.fr e0 he0
  have nd' : (l'.map (·.1)).Nodup := by rw [h.map]; exact L.nd
  have pm : (p, o') ∈ l' := h.pm
  refine ⟨fun a u z => ?_, nd', fun e he => ?_, fun e he => ?_⟩
  · rw [upd_ne (ne_of_none z hp)]
    exact L.sm a u z
  · rcases h.mem e he with z | z
    · rw [z]; exact hp
    · exact L.fr e z
  · by_cases c : e.1 = p
    · have e2 : e = (p, o') := mem_apart nd' he pm c
      rw [e2]; exact upd_same
    · rw [upd_ne c]
      rcases h.mem e he with z | z
      · exact absurd (by rw [z]) c
      · exact L.hs e z
theorem Pick.sub {e : Addr × HO} (h : Pick l e l') : (∀ d ∈ e :: l', d ∈ l) ∧ ((l.map (·.1)).Nodup → ((e :: l').map (·.1)).Nodup) := by
  induction h with
  | hd => exact ⟨fun _ h => h, fun h => h⟩
  | @tl d e l l' _ ih =>
    refine ⟨fun c hc => ?_, fun n => ?_⟩
    · rcases List.mem_cons.mp hc with z | z
      · exact List.mem_cons_of_mem _ (ih.1 c (z ▸ List.mem_cons_self))
      · rcases List.mem_cons.mp z with z | z
        · exact z ▸ List.mem_cons_self
        · exact List.mem_cons_of_mem _ (ih.1 c (List.mem_cons_of_mem _ z))
    · rw [List.map_cons] at n
      obtain ⟨n1, n2⟩ := List.nodup_cons.mp n
      have n3 := ih.2 n2
      rw [List.map_cons] at n3
      obtain ⟨n4, n5⟩ := List.nodup_cons.mp n3
      rw [List.map_cons, List.map_cons]
      refine List.nodup_cons.mpr ⟨fun z => ?_, List.nodup_cons.mpr ⟨fun z => ?_, n5⟩⟩
      · rcases List.mem_cons.mp z with z | z
        · exact n1 (by rw [← z]; exact List.mem_map_of_mem (ih.1 e List.mem_cons_self))
        · exact n4 z
      · obtain ⟨c, hc, ec⟩ := List.mem_map.mp z
        exact n1 (by rw [← ec]; exact List.mem_map_of_mem (ih.1 c (List.mem_cons_of_mem _ hc)))
theorem Sel.sub (h : Sel l l') : (∀ d ∈ l', d ∈ l) ∧ ((l.map (·.1)).Nodup → (l'.map (·.1)).Nodup) := by
  induction h with
  | nil => exact ⟨fun _ h => (List.not_mem_nil h).elim, fun _ => List.nodup_nil⟩
  | all => exact ⟨fun _ h => h, fun h => h⟩
  | @skip e l l' _ ih => exact ⟨fun d hd => List.mem_cons_of_mem _ (ih.1 d hd), fun n => ih.2 (by rw [List.map_cons] at n; exact (List.nodup_cons.mp n).2)⟩
  | @cons e l r l' hp hs ih =>
    obtain ⟨p1, p2⟩ := hp.sub
    refine ⟨fun d hd => ?_, fun n => ?_⟩
    · rcases List.mem_cons.mp hd with z | z
      · exact p1 d (z ▸ List.mem_cons_self)
      · exact p1 d (List.mem_cons_of_mem _ (ih.1 d z))
    · have n2 := p2 n
      rw [List.map_cons] at n2
      obtain ⟨n3, n4⟩ := List.nodup_cons.mp n2
      rw [List.map_cons]
      refine List.nodup_cons.mpr ⟨fun z => n3 ?_, ih.2 n4⟩
      obtain ⟨d, hd, ed⟩ := List.mem_map.mp z
      rw [← ed]; exact List.mem_map_of_mem (ih.1 d hd)
/-- keep some entries, in any order -/
theorem Led.sel (L : Led B H l) (h : Sel l l') : Led B H l' := ⟨L.sm, h.sub.2 L.nd, fun e he => L.fr e (h.sub.1 e he), fun e he => L.hs e (h.sub.1 e he)⟩
theorem Led.drop {n : Nat} (L : Led B H l) : Led B H (l.drop n) := ⟨L.sm, (L.nd.sublist ((List.drop_sublist n l).map _)), fun e he => L.fr e (List.mem_of_mem_drop he), fun e he => L.hs e (List.mem_of_mem_drop he)⟩
/-- what a callee, that was given H as a base, leaves -/
theorem Led.join {H' : Hp} {m : List (Addr × HO)} (L : Led B H l) (M : Led H H' m) : Led B H' (m ++ l) := by
  refine ⟨L.sm.trans M.sm, ?_, fun e he => ?_, fun e he => ?_⟩
  · rw [List.map_append]
    refine List.nodup_append.mpr ⟨M.nd, L.nd, fun a ha b hb z => ?_⟩
    obtain ⟨e, he, e1⟩ := List.mem_map.mp ha
    obtain ⟨d, hd, d1⟩ := List.mem_map.mp hb
    have h1 := M.fr e he
    have h2 := L.hs d hd
    rw [e1, z] at h1
    rw [d1, h1] at h2
    cases h2
  · rcases List.mem_append.mp he with z | z
    · exact L.sm.free (M.fr e z)
    · exact L.fr e z
  · rcases List.mem_append.mp he with z | z
    · exact M.hs e z
    · exact M.sm _ _ (L.hs e z)
theorem Led.same {H' : Hp} (L : Led B H l) (s : Same H H') : Led B H' l := ⟨L.sm.trans s, L.nd, L.fr, fun e he => s _ _ (L.hs e he)⟩
theorem Led.base {B' : Hp} (L : Led B H l) (h : Same B' B) : Led B' H l := ⟨h.trans L.sm, L.nd, fun e he => h.free (L.fr e he), L.hs⟩
theorem less_put {l : List (Addr × HO)} (L : Led B H ((p, o) :: l)) : Led (upd B p o) H l := by
  have nd := L.nd
  rw [List.map_cons] at nd
  obtain ⟨n1, n2⟩ := List.nodup_cons.mp nd
  refine ⟨fun a u z => ?_, n2, fun e he => ?_, fun e he => L.hs e (List.mem_cons_of_mem _ he)⟩
  · by_cases c : a = p
    · subst c
      rw [upd_same] at z
      cases z
      exact L.hs _ List.mem_cons_self
    · rw [upd_ne c] at z
      exact L.sm a u z
  · rw [upd_ne fun z => n1 (by rw [← z]; exact List.mem_map.mpr ⟨e, he, rfl⟩)]
    exact L.fr e (List.mem_cons_of_mem _ he)
/-- what will not change any more goes to the base -/
theorem Led.sink (L : Led B H ((p, o) :: l)) : ∃ B', Same B B' ∧ B' p = some o ∧ Led B' H l := ⟨upd B p o, fun a u z => by rw [upd_ne (ne_of_none z (L.fr _ List.mem_cons_self))]; exact z, upd_same, less_put L⟩
/-- the heap without what is owned -/
def less (H : Hp) (ps : List Addr) : Hp := fun a => if a ∈ ps then none else H a
theorem Led.ofLess {l : List (Addr × HO)} (n : (l.map (·.1)).Nodup) (h : ∀ e ∈ l, H e.1 = some e.2) : Led (less H (l.map (·.1))) H l := by
  refine ⟨fun a u z => ?_, n, fun e he => ?_, h⟩
  · unfold less at z
    split at z
    · cases z
    · exact z
  · unfold less
    rw [if_pos (List.mem_map_of_mem he)]
end

/-! ### the readings, one step each -/
/-- a new object -/
def NewK (o : HO) (H : Hp) (G : Addr → Hp → Prop) : Prop := ∀ p, H p = none → G p (upd H p o)
/-- a list's item, a tuple's -/
def IxLK (K : PySem.W.Frag) (p : Addr) (i : Int) (H : Hp) (G : V → Prop) : Prop := ∃ xs v, SqL K H p xs ∧ atI xs i = some v ∧ G v
def IxTK (K : PySem.W.Frag) (p : Addr) (i : Int) (H : Hp) (G : V → Prop) : Prop := ∃ xs v, SqT K H p xs ∧ atI xs i = some v ∧ G v
/-- p[i] = v, p.append(v), p.extend(q) -/
def SetK (p : Addr) (i : Int) (v : V) (H : Hp) (G : Hp → Prop) : Prop := ∃ xs j, H p = some (.lst xs) ∧ ixN xs.length i = some j ∧ G (upd H p (.lst (xs.set j v)))
def AppK (p : Addr) (v : V) (H : Hp) (G : Hp → Prop) : Prop := ∃ xs, H p = some (.lst xs) ∧ xs.length < sizeLine ∧ G (upd H p (.lst (xs ++ [v])))
def ExtK (p q : Addr) (H : Hp) (G : Hp → Prop) : Prop := ∃ xs ys, H p = some (.lst xs) ∧ H q = some (.lst ys) ∧ xs.length + ys.length ≤ sizeLine ∧ G (upd H p (.lst (xs ++ ys)))
def CatK (p q : Addr) (H : Hp) (G : Addr → Hp → Prop) : Prop := ∃ xs ys, H p = some (.lst xs) ∧ H q = some (.lst ys) ∧ xs.length + ys.length ≤ sizeLine ∧ NewK (.lst (xs ++ ys)) H G
def LenK (K : PySem.W.Frag) (p : Addr) (H : Hp) (G : Int → Prop) : Prop := ∃ xs : List V, (SqL K H p xs ∨ SqT K H p xs) ∧ G xs.length
/-- a tuple's items, n of them -/
def UnpK (K : PySem.W.Frag) (p : Addr) (n : Nat) (H : Hp) (G : List V → Prop) : Prop := ∃ xs, SqT K H p xs ∧ xs.length = n ∧ G xs
def IterLK (K : PySem.W.Frag) (p : Addr) (H : Hp) (G : Prop) : Prop := (∃ xs, SqL K H p xs) ∧ G
def SlLK (K : PySem.W.Frag) (p : Addr) (lo hi : Option Int) (H : Hp) (G : Addr → Hp → Prop) : Prop := ∃ xs, SqL K H p xs ∧ NewK (.lst (cutV xs lo hi)) H G
/-- repr(x) -/
def RepK (K : PySem.W.Frag) (x : V) (H : Hp) (G : Str → Prop) : Prop := ∃ d, Dp K H x d ∧ Shw 16000000 60 d ∧ G d.shown
def InK (K : PySem.W.Frag) (neg : Bool) (x : V) (p : Addr) (H : Hp) (G : Bool → Prop) : Prop := ∃ xs, (SqL K H p xs ∨ SqT K H p xs) ∧ flatV x = true ∧ xs.all flatV = true ∧ G (if neg then !inV x xs else inV x xs)
section
variable {K : PySem.W.Frag} {B H : Hp} {l l' : List (Addr × HO)} {p q : Addr} {o : HO} {i : Int} {v : V} {xs ys : List V} {n : Nat}
theorem NewK.of {G : Addr → Hp → Prop} (L : Led B H l) (k : ∀ p H1, Led B H1 ((p, o) :: l) → G p H1) : NewK o H G := fun p hp => k p _ (L.new hp)
theorem NewK.ofS {G : Addr → Hp → Prop} (k : ∀ p H1, Same H H1 → H p = none → H1 p = some o → G p H1) : NewK o H G := fun p hp => k p _ (fun a u z => by rw [upd_ne (ne_of_none z hp)]; exact z) hp upd_same
theorem IxLK.of {G : V → Prop} (h : SqL K H p xs) (a : atI xs i = some v) (k : G v) : IxLK K p i H G := ⟨xs, v, h, a, k⟩
theorem IxTK.of {G : V → Prop} (h : SqT K H p xs) (a : atI xs i = some v) (k : G v) : IxTK K p i H G := ⟨xs, v, h, a, k⟩
theorem SetK.of {G : Hp → Prop} {j : Nat} (L : Led B H l) (h : (p, HO.lst xs) ∈ l) (a : ixN xs.length i = some j) (t : Put l p (.lst (xs.set j v)) l') (k : ∀ H1, Led B H1 l' → G H1) : SetK p i v H G := ⟨xs, j, L.at h, a, k _ (L.put t)⟩
theorem AppK.of {G : Hp → Prop} (L : Led B H l) (h : (p, HO.lst xs) ∈ l) (a : xs.length < sizeLine) (t : Put l p (.lst (xs ++ [v])) l') (k : ∀ H1, Led B H1 l' → G H1) : AppK p v H G := ⟨xs, L.at h, a, k _ (L.put t)⟩
theorem ExtK.of {G : Hp → Prop} (L : Led B H l) (h : (p, HO.lst xs) ∈ l) (h2 : (q, HO.lst ys) ∈ l) (a : xs.length + ys.length ≤ sizeLine) (t : Put l p (.lst (xs ++ ys)) l') (k : ∀ H1, Led B H1 l' → G H1) : ExtK p q H G := ⟨xs, ys, L.at h, L.at h2, a, k _ (L.put t)⟩
theorem CatK.of {G : Addr → Hp → Prop} (L : Led B H l) (h : (p, HO.lst xs) ∈ l) (h2 : (q, HO.lst ys) ∈ l) (a : xs.length + ys.length ≤ sizeLine) (k : ∀ p H1, Led B H1 ((p, .lst (xs ++ ys)) :: l) → G p H1) : CatK p q H G := ⟨xs, ys, L.at h, L.at h2, a, NewK.of L k⟩
theorem LenK.ofL {G : Int → Prop} (h : SqL K H p xs) (k : G xs.length) : LenK K p H G := ⟨xs, Or.inl h, k⟩
theorem LenK.ofT {G : Int → Prop} (h : SqT K H p xs) (k : G xs.length) : LenK K p H G := ⟨xs, Or.inr h, k⟩
theorem UnpK.of {G : List V → Prop} (h : SqT K H p xs) (e : xs.length = n) (k : G xs) : UnpK K p n H G := ⟨xs, h, e, k⟩
theorem IterLK.of {G : Prop} (h : SqL K H p xs) (k : G) : IterLK K p H G := ⟨⟨xs, h⟩, k⟩
theorem SlLK.of {G : Addr → Hp → Prop} {lo hi : Option Int} (L : Led B H l) (h : SqL K H p xs) (k : ∀ p H1, Led B H1 ((p, .lst (cutV xs lo hi)) :: l) → G p H1) : SlLK K p lo hi H G := ⟨xs, h, NewK.of L k⟩
variable {Q : VK} {j : Int}
theorem x_I {C : Int → Int → Prop} {g : Int → Int → V} : rI C g (.int i) (.int j) H Q ↔ C i j ∧ Q (g i j) H := ⟨fun ⟨_, _, e1, e2, c, q⟩ => by cases e1; cases e2; exact ⟨c, q⟩, fun ⟨c, q⟩ => ⟨i, j, rfl, rfl, c, q⟩⟩
theorem x_I0 {g : Int → Int → V} : rI0 g (.int i) (.int j) H Q ↔ Q (g i j) H := ⟨fun ⟨_, _, e1, e2, q⟩ => by cases e1; cases e2; exact q, fun q => ⟨i, j, rfl, rfl, q⟩⟩
theorem x_U {g : Int → V} : rU g (.int i) H Q ↔ Q (g i) H := ⟨fun ⟨_, e1, q⟩ => by cases e1; exact q, fun q => ⟨i, rfl, q⟩⟩
theorem x_eq {x y : V} : rEq x y H Q ↔ scal x y = true ∧ Q (.bl (decide (x = y))) H := ⟨fun h => h, fun h => h⟩
theorem x_ne {x y : V} : rNe x y H Q ↔ scal x y = true ∧ Q (.bl (!decide (x = y))) H := ⟨fun h => h, fun h => h⟩
theorem x_ixL : rIxL K (.ref p) (.int i) H Q ↔ IxLK K p i H fun v => Q v H := ⟨fun ⟨_, xs, _, v, e1, e2, a, b, q⟩ => by cases e1; cases e2; exact ⟨xs, v, a, b, q⟩, fun ⟨xs, v, a, b, q⟩ => ⟨p, xs, i, v, rfl, rfl, a, b, q⟩⟩
theorem x_ixT : rIxT K (.ref p) (.int i) H Q ↔ IxTK K p i H fun v => Q v H := ⟨fun ⟨_, xs, _, v, e1, e2, a, b, q⟩ => by cases e1; cases e2; exact ⟨xs, v, a, b, q⟩, fun ⟨xs, v, a, b, q⟩ => ⟨p, xs, i, v, rfl, rfl, a, b, q⟩⟩
theorem x_setL {N : Hp → Prop} : rSetL (.ref p) (.int i) v H N ↔ SetK p i v H N := ⟨fun ⟨_, xs, _, j, e1, e2, a, b, q⟩ => by cases e1; cases e2; exact ⟨xs, j, a, b, q⟩, fun ⟨xs, j, a, b, q⟩ => ⟨p, xs, i, j, rfl, rfl, a, b, q⟩⟩
theorem x_app : rAppend (.ref p) [v] H Q ↔ AppK p v H fun H1 => Q .non H1 := ⟨fun ⟨_, xs, _, e1, e2, a, b, q⟩ => by cases e1; cases e2; exact ⟨xs, a, b, q⟩, fun ⟨xs, a, b, q⟩ => ⟨p, xs, v, rfl, rfl, a, b, q⟩⟩
theorem x_ext : rExtend (.ref p) [.ref q] H Q ↔ ExtK p q H fun H1 => Q .non H1 := ⟨fun ⟨_, _, xs, ys, e1, e2, a, b, c, q⟩ => by cases e1; cases e2; exact ⟨xs, ys, a, b, c, q⟩, fun ⟨xs, ys, a, b, c, q'⟩ => ⟨p, q, xs, ys, rfl, rfl, a, b, c, q'⟩⟩
theorem x_cat : rCat (.ref p) (.ref q) H Q ↔ CatK p q H fun r H1 => Q (.ref r) H1 := ⟨fun ⟨_, _, xs, ys, e1, e2, a, b, c, q⟩ => by cases e1; cases e2; exact ⟨xs, ys, a, b, c, q⟩, fun ⟨xs, ys, a, b, c, q'⟩ => ⟨p, q, xs, ys, rfl, rfl, a, b, c, q'⟩⟩
theorem x_slL {lo hi : Option Int} : rSlL K (.ref p) lo hi H Q ↔ SlLK K p lo hi H fun r H1 => Q (.ref r) H1 := ⟨fun ⟨_, xs, e1, a, q⟩ => by cases e1; exact ⟨xs, a, q⟩, fun ⟨xs, a, q⟩ => ⟨p, xs, rfl, a, q⟩⟩
theorem x_in {neg : Bool} {x : V} : rIn K neg x (.ref p) H Q ↔ InK K neg x p H fun b => Q (.bl b) H := ⟨fun ⟨_, xs, e1, a, b, c, q⟩ => by cases e1; exact ⟨xs, a, b, c, q⟩, fun ⟨xs, a, b, c, q⟩ => ⟨p, xs, rfl, a, b, c, q⟩⟩
theorem x_repr {x : V} : rRepr K [x] H Q ↔ RepK K x H fun t => Q (.str t) H := ⟨fun ⟨_, d, e1, a, b, q⟩ => by cases e1; exact ⟨d, a, b, q⟩, fun ⟨d, a, b, q⟩ => ⟨x, d, rfl, a, b, q⟩⟩
end
section
variable {σ : L2.St} {H : Hp} {Q : VK} {D : Ends} {ta tb te : TE} {t u : TT} {s1 s2 : TS} {v : V} {i n : Nat} {r : R2} {K : PySem.W.Frag} {TQ : Bool → Hp → Prop} {AQ : List V → Hp → Prop} {al : TA}
theorem e_var : tVar i σ H Q = ∃ v, σ[i]? = some (some v) ∧ Q v H := propext ⟨fun h => h, fun h => h⟩
theorem e_c : tC v σ H Q = Q v H := propext ⟨fun h => h, fun h => h⟩
theorem e_op : tOp r ta tb σ H Q = ta σ H fun x H1 => tb σ H1 fun y H2 => r x y H2 Q := propext ⟨fun h => h, fun h => h⟩
theorem e_un {r : V → Hp → VK → Prop} : tUn r ta σ H Q = ta σ H fun x H1 => r x H1 Q := propext ⟨fun h => h, fun h => h⟩
theorem e_if : tIf t ta tb σ H Q = t σ H fun c H1 => if c = true then ta σ H1 Q else tb σ H1 Q := propext ⟨fun h => h, fun h => h⟩
theorem e_andV : tAndV ta tb σ H Q = ta σ H fun x H1 => ∃ c, x = .bl c ∧ if c = true then tb σ H1 Q else Q (.bl false) H1 := propext ⟨fun h => h, fun h => h⟩
theorem e_orV : tOrV ta tb σ H Q = ta σ H fun x H1 => ∃ c, x = .bl c ∧ if c = true then Q (.bl true) H1 else tb σ H1 Q := propext ⟨fun h => h, fun h => h⟩
theorem e_notV : tNotV ta σ H Q = ta σ H fun x H1 => ∃ c, x = .bl c ∧ Q (.bl (!c)) H1 := propext ⟨fun h => h, fun h => h⟩
theorem e_lst : tLst al σ H Q = al σ H fun xs H1 => xs.length ≤ sizeLine ∧ NewK (.lst xs) H1 fun p H2 => Q (.ref p) H2 := propext ⟨fun h => h, fun h => h⟩
theorem e_tup : tTup al σ H Q = al σ H fun xs H1 => xs.length ≤ sizeLine ∧ NewK (.tup xs) H1 fun p H2 => Q (.ref p) H2 := propext ⟨fun h => h, fun h => h⟩
theorem e_CB {r : List V → Hp → VK → Prop} : tCB r al σ H Q = al σ H fun vs H1 => r vs H1 Q := propext ⟨fun h => h, fun h => h⟩
theorem e_BM {T : String} {r : V → List V → Hp → VK → Prop} : tBM K T r ta al σ H Q = ta σ H fun x H1 => tyV K T x H1 ∧ al σ H1 fun xs H2 => r x xs H2 Q := propext ⟨fun h => h, fun h => h⟩
theorem e_BM0 {T : String} {r : V → List V → Hp → VK → Prop} : tBM0 K T r ta σ H Q = ta σ H fun x H1 => tyV K T x H1 ∧ r x [] H1 Q := propext ⟨fun h => h, fun h => h⟩
theorem e_G {sp : Sp} {dvs : List V} {E : L2.St → XK} : tG sp dvs E al σ H Q = al σ H fun vs H1 => sp (vs ++ dvs) H1 Q (E σ) := propext ⟨fun h => h, fun h => h⟩
theorem e_chain {r r' : R2} {tc : TE} : tChain r r' ta tb tc σ H Q = ta σ H fun x H1 => tb σ H1 fun y H2 => r x y H2 fun z H3 => ∃ k, z = .bl k ∧ if k = true then tc σ H3 fun z H4 => r' y z H4 Q else Q (.bl false) H3 := propext ⟨fun h => h, fun h => h⟩
theorem e_sl {r : V → Option Int → Option Int → Hp → VK → Prop} {tl th : TO} : tSl r te tl th σ H Q = te σ H fun x H1 => tl σ H1 fun l H2 => th σ H2 fun u H3 => r x l u H3 Q := propext ⟨fun h => h, fun h => h⟩
theorem e_part {OQ : Option Int → Hp → Prop} : tPart te σ H OQ = te σ H fun x H1 => ∃ i, x = .int i ∧ OQ (some i) H1 := propext ⟨fun h => h, fun h => h⟩
theorem e_nopart {OQ : Option Int → Hp → Prop} : tNoPart σ H OQ = OQ none H := propext ⟨fun h => h, fun h => h⟩
theorem a_nil : tNil σ H AQ = AQ [] H := propext ⟨fun h => h, fun h => h⟩
theorem a_cons : tCons ta al σ H AQ = ta σ H fun x H1 => al σ H1 fun xs H2 => AQ (x :: xs) H2 := propext ⟨fun h => h, fun h => h⟩
theorem e_callLen : tCB (fun xs H Q => ∃ p ys, xs = [V.ref p] ∧ (SqL K H p ys ∨ SqT K H p ys) ∧ Q (.int ys.length) H) (tCons ta tNil) σ H Q ↔ ta σ H fun x H1 => ∃ p, x = .ref p ∧ LenK K p H1 fun n => Q (.int n) H1 := Iff.of_eq (congrArg (ta σ H) (funext fun x => funext fun H1 => propext ⟨fun ⟨p, ys, e, h, q⟩ => by cases e; exact ⟨p, rfl, ys, h, q⟩, fun ⟨p, e, ys, h, q⟩ => ⟨p, ys, by rw [e], h, q⟩⟩))
theorem t_B : tB te σ H TQ = te σ H fun x H1 => ∃ c, x = .bl c ∧ TQ c H1 := propext ⟨fun h => h, fun h => h⟩
theorem t_test : tTest te σ H TQ = te σ H fun x H1 => ∃ c, x = .bl c ∧ TQ c H1 := propext ⟨fun h => h, fun h => h⟩
theorem t_and : tAnd t u σ H TQ = t σ H fun c H1 => if c = true then u σ H1 TQ else TQ false H1 := propext ⟨fun h => h, fun h => h⟩
theorem t_or : tOr t u σ H TQ = t σ H fun c H1 => if c = true then TQ true H1 else u σ H1 TQ := propext ⟨fun h => h, fun h => h⟩
theorem t_not : tNot t σ H TQ = t σ H fun c H1 => TQ (!c) H1 := propext ⟨fun h => h, fun h => h⟩
theorem t_yes : tYes σ H TQ = TQ true H := propext ⟨fun h => h, fun h => h⟩
theorem s_seq : tSeq s1 s2 D σ H = s1 { D with nx := s2 D } σ H := propext ⟨fun h => h, fun h => h⟩
theorem s_next : tNext D σ H = D.nx σ H := propext ⟨fun h => h, fun h => h⟩
theorem s_break : tBreak D σ H = D.bk σ H := propext ⟨fun h => h, fun h => h⟩
theorem s_cont : tCont D σ H = D.ct σ H := propext ⟨fun h => h, fun h => h⟩
theorem s_drop : tDrop te D σ H = te σ H fun _ H1 => D.nx σ H1 := propext ⟨fun h => h, fun h => h⟩
theorem s_ret : tRet te D σ H = te σ H D.rt := propext ⟨fun h => h, fun h => h⟩
theorem s_retN : tRetN D σ H = D.rt .non H := propext ⟨fun h => h, fun h => h⟩
theorem s_ifS : tIfS t s1 s2 D σ H = t σ H fun b H1 => if b = true then s1 D σ H1 else s2 D σ H1 := propext ⟨fun h => h, fun h => h⟩
theorem s_asg {g : TG} : tAsg te g D σ H = te σ H fun x H1 => g x σ H1 D.nx := propext ⟨fun h => h, fun h => h⟩
theorem s_aug {ti : TIp} : tAug i te ti D σ H = ∃ x, σ[i]? = some (some x) ∧ te σ H fun y H1 => ti x y H1 fun z H2 => D.nx (σ.set i (some z)) H2 := propext ⟨fun h => h, fun h => h⟩
variable {N : L2.St → Hp → Prop}
theorem s_par {j : Nat} : tPar i j al D σ H = al σ H fun vs H1 => ∃ v w, vs = [v, w] ∧ D.nx ((σ.set i (some v)).set j (some w)) H1 := propext ⟨fun h => h, fun h => h⟩
theorem g_name : gName i v σ H N = N (σ.set i (some v)) H := propext ⟨fun h => h, fun h => h⟩
theorem g_tup {gs : TGs} {a : Addr} : gTup K n gs (.ref a) σ H N ↔ UnpK K a n H fun xs => gs xs σ H N := ⟨fun ⟨_, xs, e, h, z, q⟩ => by cases e; exact ⟨xs, h, z, q⟩, fun ⟨xs, h, z, q⟩ => ⟨a, xs, rfl, h, z, q⟩⟩
theorem g_nil : gNil [] σ H N ↔ N σ H := ⟨fun h => h.2, fun h => ⟨rfl, h⟩⟩
theorem g_cons {g : TG} {gs : TGs} {v : V} {vs : List V} : gCons g gs (v :: vs) σ H N ↔ g v σ H fun σ' H' => gs vs σ' H' N := ⟨fun ⟨_, _, e, q⟩ => by cases e; exact q, fun q => ⟨v, vs, rfl, q⟩⟩
theorem g_sub {st : TSet} : gSub ta tb st v σ H N = ta σ H fun o H1 => tb σ H1 fun i H2 => st o i v H2 fun H3 => N σ H3 := propext ⟨fun h => h, fun h => h⟩
theorem i_list {R : It → Hp → Prop} : iList K te σ H R = te σ H fun x H1 => ∃ a, x = .ref a ∧ (∃ xs, SqL K H1 a xs) ∧ R (Itl K a) H1 := propext ⟨fun h => h, fun h => h⟩
theorem i_tup {R : It → Hp → Prop} : iTup K te σ H R = te σ H fun x H1 => ∃ a, x = .ref a ∧ (∃ xs, SqT K H1 a xs) ∧ R (Itt K a) H1 := propext ⟨fun h => h, fun h => h⟩
theorem i_rng1 {R : It → Hp → Prop} : iRng1 al σ H R = al σ H fun vs H1 => ∃ j : Int, vs = [.int j] ∧ -(2 ^ 62) ≤ j ∧ j < 2 ^ 62 ∧ R (Itr 0 j.toNat) H1 := propext ⟨fun h => h, fun h => h⟩
theorem i_rng2 {R : It → Hp → Prop} : iRng2 al σ H R = al σ H fun vs H1 => ∃ i j : Int, vs = [.int i, .int j] ∧ (-(2 ^ 62) ≤ i ∧ i < 2 ^ 62 ∧ -(2 ^ 62) ≤ j ∧ j < 2 ^ 62) ∧ R (Itr i (j - i).toNat) H1 := propext ⟨fun h => h, fun h => h⟩
theorem i_enum {R : It → Hp → Prop} : iEnum K al σ H R = al σ H fun vs H1 => ∃ a xs, vs = [.ref a] ∧ SqL K H1 a xs ∧ R (Ite K a) H1 := propext ⟨fun h => h, fun h => h⟩
/-- a loop, kept whole -/
def LoopK (J : It) (g : TG) (tb : TS) (D : Ends) (σ : L2.St) (H1 : Hp) : Prop := ∃ W : Nat → Nat → L2.St → Hp → Prop, (∃ m, W 0 m σ H1) ∧ ∀ i m σ H, W i m σ H →
  (J.stop i H ∧ D.nx σ H) ∨ (J.go i H ∧ ∃ N : L2.St → Hp → Prop, (∀ σ' H', N σ' H' → ∃ m', m' < m ∧ W (i + 1) m' σ' H') ∧ ∀ x H', J.yld i H x H' → g x σ H' fun σ2 H2 => tb { D with nx := N, ct := N, bk := D.nx } σ2 H2)
theorem s_for {wi : TI} {g : TG} {tb : TS} : tFor wi g tb D σ H = wi σ H fun J H1 => LoopK J g tb D σ H1 := propext ⟨fun h => h, fun h => h⟩
/-- a comprehension, kept whole -/
def LcK (J : It) (g : TG) (tt : TT) (te : TE) (vs : List Nat) (σ : L2.St) (H1 : Hp) (Q : VK) : Prop := tLc (fun _ H R => R J H) g tt te vs σ H1 Q
theorem e_lc {wi : TI} {g : TG} {tt : TT} {vs : List Nat} : tLc wi g tt te vs σ H Q = wi σ H fun J H1 => LcK J g tt te vs σ H1 Q := propext ⟨fun h => h, fun h => h⟩
end

section
variable {X : Cx}
def rLen (K : PySem.W.Frag) : List V → Hp → VK → Prop := fun xs H Q => ∃ p ys, xs = [.ref p] ∧ (SqL K H p ys ∨ SqT K H p ys) ∧ Q (.int ys.length) H
theorem cr_len : CallR X (.builtin "len") (rLen X.K) := call_len_seq
theorem x_len {K : PySem.W.Frag} {p : Addr} {H : Hp} {Q : VK} : rLen K [.ref p] H Q ↔ LenK K p H fun n => Q (.int n) H := ⟨fun ⟨_, ys, e, h, q⟩ => by cases e; exact ⟨ys, h, q⟩, fun ⟨ys, h, q⟩ => ⟨p, ys, rfl, h, q⟩⟩
def rMx : List V → Hp → VK → Prop := fun xs H Q => ∃ i j, xs = [.int i, .int j] ∧ Q (.int (max i j)) H
def rMn : List V → Hp → VK → Prop := fun xs H Q => ∃ i j, xs = [.int i, .int j] ∧ Q (.int (min i j)) H
theorem mx_eq (i j : Int) : (if j > i then j else i) = max i j := by split <;> omega
theorem mn_eq (i j : Int) : (if j < i then j else i) = min i j := by split <;> omega
theorem CallR.as {f : Value} {r r' : List V → Hp → VK → Prop} (h : CallR X f r) (i : ∀ xs H Q, r' xs H Q → r xs H Q) : CallR X f r' := fun pins s σ H xs us Q I v q => h pins s σ H xs us Q I v (i xs H Q q)
theorem cr_max2 (hc : X.calm = true) : CallR X (.builtin "max") rMx := CallR.as (call_max2 hc) fun _ _ _ ⟨i, j, e, q⟩ => ⟨i, j, e, by rw [mx_eq]; exact q⟩
theorem cr_min2 (hc : X.calm = true) : CallR X (.builtin "min") rMn := CallR.as (call_min2 hc) fun _ _ _ ⟨i, j, e, q⟩ => ⟨i, j, e, by rw [mn_eq]; exact q⟩
theorem x_mx {i j : Int} {H : Hp} {Q : VK} : rMx [.int i, .int j] H Q ↔ Q (.int (max i j)) H := ⟨fun ⟨_, _, e, q⟩ => by cases e; exact q, fun q => ⟨i, j, rfl, q⟩⟩
theorem x_mn {i j : Int} {H : Hp} {Q : VK} : rMn [.int i, .int j] H Q ↔ Q (.int (min i j)) H := ⟨fun ⟨_, _, e, q⟩ => by cases e; exact q, fun q => ⟨i, j, rfl, q⟩⟩
theorem k_cx {C : CXT} {P : Program} {w : World} {K : PySem.W.Frag} {mg : Str → Option Value} {bs : Heap} {N : List Str} {qual : Str} {sc : Scope} {f : Addr} {cd : Value} {A : Around} {fr : List Env} {s : Shared} {H : Hp} {E : XK} :
    (cxOf C P w K mg bs N qual sc f cd A fr s H E).nox.K = K := rfl
theorem k_cx2 {C : CXT} {P : Program} {w : World} {K : PySem.W.Frag} {mg : Str → Option Value} {bs : Heap} {N : List Str} {qual : Str} {sc : Scope} {f : Addr} {cd : Value} {A : Around} {fr : List Env} {s : Shared} {H : Hp} {E : XK} :
    (cxOf C P w K mg bs N qual sc f cd A fr s H E).K = K := rfl
end
/-! ### isinstance(x, T), T a built-in class -/
def tyB (K : PySem.W.Frag) (H : Hp) (x : V) (t : String) : Prop := TyX K H x (.type t)
def rIs (K : PySem.W.Frag) : List V → Hp → VK → Prop := fun xs H Q => ∃ x n t b, xs = [x, .ty n] ∧ tyB K H x t ∧ kitB t n = some b ∧ Q (.bl b) H
theorem cr_is {X : Cx} : CallR X (.builtin "isinstance") (rIs X.K) := CallR.as call_isi fun _ _ _ ⟨x, n, _, b, e, ht, hb, q⟩ => ⟨x, .ty n, _, _, b, e, ClsV.ty n, ht, kit_ty hb, q⟩
section
variable {K : PySem.W.Frag} {H : Hp} {Q : VK}
theorem ty_int {i : Int} {t : String} (h : tyB K H (.int i) t) : t = "int" := by
  cases h with
  | base h => cases h; rfl
theorem ty_bl {i : Bool} {t : String} (h : tyB K H (.bl i) t) : t = "bool" := by
  cases h with
  | base h => cases h; rfl
theorem ty_non {t : String} (h : tyB K H .non t) : t = "NoneType" := by
  cases h with
  | base h => cases h; rfl
theorem ty_str {i : Str} {t : String} (h : tyB K H (.str i) t) : t = "str" := by
  cases h with
  | base h => cases h; rfl
theorem x_is {x : V} {t n : String} {b : Bool} (h1 : tyB K H x t) (h2 : ∀ u, tyB K H x u → u = t) (h3 : kitB t n = some b) : rIs K [x, .ty n] H Q ↔ Q (.bl b) H := by
  constructor
  · rintro ⟨_, _, u, c, e, hu, hc, q⟩
    cases e
    rw [h2 u hu, h3] at hc
    cases hc
    exact q
  · intro q
    exact ⟨x, n, t, b, rfl, h1, h3, q⟩
theorem x_is_int {i : Int} : rIs K [.int i, .ty "int"] H Q ↔ Q (.bl true) H := x_is (.base (.int i)) (fun _ => ty_int) (by decide +kernel)
theorem x_is_bi {i : Int} : rIs K [.int i, .ty "bool"] H Q ↔ Q (.bl false) H := x_is (.base (.int i)) (fun _ => ty_int) (by decide +kernel)
theorem x_is_bool {i : Bool} : rIs K [.bl i, .ty "int"] H Q ↔ Q (.bl true) H := x_is (.base (.bl i)) (fun _ => ty_bl) (by decide +kernel)
theorem x_is_bb {i : Bool} : rIs K [.bl i, .ty "bool"] H Q ↔ Q (.bl true) H := x_is (.base (.bl i)) (fun _ => ty_bl) (by decide +kernel)
theorem x_is_nb : rIs K [.non, .ty "bool"] H Q ↔ Q (.bl false) H := x_is (.base .non) (fun _ => ty_non) (by decide +kernel)
theorem x_is_ni : rIs K [.non, .ty "int"] H Q ↔ Q (.bl false) H := x_is (.base .non) (fun _ => ty_non) (by decide +kernel)
theorem x_is_sb {i : Str} : rIs K [.str i, .ty "bool"] H Q ↔ Q (.bl false) H := x_is (.base (.str i)) (fun _ => ty_str) (by decide +kernel)
theorem x_is_si {i : Str} : rIs K [.str i, .ty "int"] H Q ↔ Q (.bl false) H := x_is (.base (.str i)) (fun _ => ty_str) (by decide +kernel)
theorem x_is_ib {i : Str} : rIs K [.str i, .ty "str"] H Q ↔ Q (.bl true) H := x_is (.base (.str i)) (fun _ => ty_str) (by decide +kernel)
/-- isinstance of an object -/
def IsK (K : PySem.W.Frag) (a : Addr) (n : String) (H : Hp) (G : Bool → Prop) : Prop := ∃ t b, tyB K H (.ref a) t ∧ kitB t n = some b ∧ G b
theorem x_isR {a : Addr} {n : String} : rIs K [.ref a, .ty n] H Q ↔ IsK K a n H fun b => Q (.bl b) H := ⟨fun ⟨_, _, t, b, e, h1, h2, q⟩ => by cases e; exact ⟨t, b, h1, h2, q⟩, fun ⟨t, b, h1, h2, q⟩ => ⟨_, _, t, b, rfl, h1, h2, q⟩⟩
theorem IsK.tup {a : Addr} {n : String} {xs : List V} {b : Bool} {G : Bool → Prop} (h : H a = some (.tup xs)) (k : kitB "tuple" n = some b) (q : G b) : IsK K a n H G := ⟨_, b, .base (.tup h), k, q⟩
theorem IsK.lst {a : Addr} {n : String} {xs : List V} {b : Bool} {G : Bool → Prop} (h : H a = some (.lst xs)) (k : kitB "list" n = some b) (q : G b) : IsK K a n H G := ⟨_, b, .base (.lst h), k, q⟩
end
/-! ### instances -/
def FldK (K : PySem.W.Frag) (p : Addr) (f : Str) (H : Hp) (G : V → Prop) : Prop := ∃ C dx fs v, H p = some (.ins C dx fs) ∧ Cls K C ∧ NoAttr K C f ∧ fs.lookup f = some v ∧ G v
def StK (K : PySem.W.Frag) (p : Addr) (f : Str) (y : V) (H : Hp) (G : Hp → Prop) : Prop := ∃ C dx fs, H p = some (.ins C dx fs) ∧ Cls K C ∧ NoAttr K C f ∧ fs.length < 1000 ∧ G (upd H p (.ins C dx (putF f y fs)))
section
variable {K : PySem.W.Frag} {B H : Hp} {l l' : List (Addr × HO)} {p C dx : Addr} {fs fs' : List (Str × V)} {f : Str} {v : V} {σ : L2.St} {Q : VK} {D : Ends} {ta tv : TE}
theorem e_fld : tFld K ta f σ H Q ↔ ta σ H fun x H1 => ∃ a, x = .ref a ∧ FldK K a f H1 fun v => Q v H1 := Iff.of_eq (congrArg (ta σ H) (funext fun x => funext fun H1 => propext ⟨fun ⟨a, C, dx, fs, v, e, r⟩ => ⟨a, e, C, dx, fs, v, r⟩, fun ⟨a, e, C, dx, fs, v, r⟩ => ⟨a, C, dx, fs, v, e, r⟩⟩))
theorem s_fld : sFld K ta tv f D σ H ↔ tv σ H fun y H1 => ta σ H1 fun x H2 => ∃ a, x = .ref a ∧ StK K a f y H2 fun H3 => D.nx σ H3 := Iff.of_eq (congrArg (tv σ H) (funext fun y => funext fun H1 => congrArg (ta σ H1) (funext fun x => funext fun H2 => propext ⟨fun ⟨a, C, dx, fs, e, r⟩ => ⟨a, e, C, dx, fs, r⟩, fun ⟨a, e, C, dx, fs, r⟩ => ⟨a, C, dx, fs, e, r⟩⟩)))
theorem FldK.of {G : V → Prop} (L : Led B H l) (m : (p, HO.ins C dx fs) ∈ l) (c : Cls K C) (n : NoAttr K C f) (e : fs.lookup f = some v) (k : G v) : FldK K p f H G := ⟨C, dx, fs, v, L.at m, c, n, e, k⟩
theorem StK.of {G : Hp → Prop} (L : Led B H l) (m : (p, HO.ins C dx fs) ∈ l) (c : Cls K C) (n : NoAttr K C f) (e : putF f v fs = fs') (t : Put l p (.ins C dx fs') l') (k : ∀ H1, Led B H1 l' → G H1) (h : fs.length < 1000 := by first | decide | (simp only [List.length_cons, List.length_nil]; decide) | omega) : StK K p f v H G :=
  ⟨C, dx, fs, L.at m, c, n, h, by rw [e]; exact k _ (L.put t)⟩
/-- o.m(..) -/
def MtK (p C : Addr) (m : Str) (H : Hp) (G : Prop) : Prop := ∃ dx fs, H p = some (.ins C dx fs) ∧ fs.lookup m = none ∧ G
theorem e_MG {m : Str} {sp : Sp} {dvs : List V} {E : L2.St → XK} {t : TA} : tMG C m sp dvs E ta t σ H Q ↔ ta σ H fun x H1 => ∃ a, x = .ref a ∧ MtK a C m H1 (t σ H1 fun vs H2 => sp (x :: (vs ++ dvs)) H2 Q (E σ)) :=
  Iff.of_eq (congrArg (ta σ H) (funext fun x => funext fun H1 => propext ⟨fun ⟨a, dx, fs, e, r1, r2, r3⟩ => ⟨a, e, dx, fs, r1, r2, r3⟩, fun ⟨a, e, dx, fs, r1, r2, r3⟩ => ⟨a, dx, fs, e, r1, r2, r3⟩⟩))
theorem MtK.of {m : Str} {G : Prop} (L : Led B H l) (h : (p, HO.ins C dx fs) ∈ l) (e : fs.lookup m = none) (k : G) : MtK p C m H G := ⟨dx, fs, L.at h, e, k⟩
/-- C(..) -/
def MkK (C : Addr) (H : Hp) (G : Addr → Hp → Prop) : Prop := ∀ x dx, H x = none → H dx = none → dx ≠ x → G x (upd (upd H dx (.own x)) x (.ins C dx []))
theorem e_KG {sp : Sp} {dvs : List V} {E : L2.St → XK} {t : TA} : tKG C sp dvs E t σ H Q = t σ H fun vs H1 => MkK C H1 fun x H2 => sp (.ref x :: (vs ++ dvs)) H2 (fun v H3 => v = .non ∧ Q (.ref x) H3) (E σ) := propext ⟨fun h => h, fun h => h⟩
theorem MkK.of {G : Addr → Hp → Prop} (L : Led B H l) (k : ∀ x dx H1, Led B H1 ((x, .ins C dx []) :: l) → G x H1) : MkK C H G := fun x dx hx hd ne =>
  k x dx _ (((L.new hd).new (by rw [upd_ne ne.symm]; exact hx)).sel (.cons .hd (.skip .all)))
/-! ### lists again -/
def RptK (l : Addr) (n : Int) (H : Hp) (G : Addr → Hp → Prop) : Prop := ∃ xs, H l = some (.lst xs) ∧ -(2 ^ 63) ≤ n ∧ n < 2 ^ 63 ∧ xs.length * n.toNat ≤ sizeLine ∧ NewK (.lst (List.replicate n.toNat xs).flatten) H G
theorem x_rpt {a : Addr} {n : Int} : rRep (.ref a) (.int n) H Q ↔ RptK a n H fun p H1 => Q (.ref p) H1 := ⟨fun ⟨_, _, xs, e1, e2, h, h1, h2, h3, q⟩ => by cases e1; cases e2; exact ⟨xs, h, h1, h2, h3, q⟩, fun ⟨xs, h, h1, h2, h3, q⟩ => ⟨a, n, xs, rfl, rfl, h, h1, h2, h3, q⟩⟩
theorem flat_one {α : Type} (n : Nat) (x : α) : (List.replicate n [x]).flatten = List.replicate n x := by
  induction n with
  | zero => rfl
  | succ n ih => rw [List.replicate_succ, List.flatten_cons, ih, List.replicate_succ]; rfl
theorem RptK.of {a : Addr} {n : Nat} {G : Addr → Hp → Prop} (L : Led B H l) (h : (a, HO.lst [v]) ∈ l) (hn : n ≤ 100000) (k : ∀ p H1, Led B H1 ((p, .lst (List.replicate n v)) :: l) → G p H1) : RptK a (n : Int) H G :=
  ⟨[v], L.at h, by omega, by omega, Nat.le_trans (m := 100000) (by rw [Int.toNat_natCast]; simpa using hn) (by decide), by rw [Int.toNat_natCast, flat_one]; exact NewK.of L k⟩
def RemK (a : Addr) (n : Int) (H : Hp) (G : Hp → Prop) : Prop := ∃ (ns : List Int) (j : Nat), H a = some (.lst (ns.map V.int)) ∧ ns[j]? = some n ∧ (∀ m : Nat, m < j → ns[m]? ≠ some n) ∧ G (upd H a (.lst ((ns.eraseIdx j).map V.int)))
theorem x_rem {a : Addr} {n : Int} : rRemI (.ref a) [.int n] H Q ↔ RemK a n H fun H1 => Q .non H1 := ⟨fun ⟨_, ns, _, j, e1, e2, h, h1, h2, q⟩ => by cases e1; cases e2; exact ⟨ns, j, h, h1, h2, q⟩, fun ⟨ns, j, h, h1, h2, q⟩ => ⟨a, ns, n, j, rfl, rfl, h, h1, h2, q⟩⟩
theorem first_at {n : Int} : ∀ {ns : List Int}, n ∈ ns → ∃ j, ns[j]? = some n ∧ (∀ m : Nat, m < j → ns[m]? ≠ some n) ∧ ns.eraseIdx j = ns.erase n
  | [], h => (List.not_mem_nil h).elim
  | x :: r, h => by
    by_cases c : x = n
    · subst c
      exact ⟨0, rfl, fun m hm => absurd hm (Nat.not_lt_zero _), by rw [List.erase_cons_head]; rfl⟩
    · obtain ⟨j, h1, h2, h3⟩ := first_at ((List.mem_cons.mp h).resolve_left fun z => c z.symm)
      refine ⟨j + 1, h1, fun m hm => ?_, ?_⟩
      · cases m with
        | zero => intro z; exact c (Option.some.inj z)
        | succ m => exact h2 m (by omega)
      · rw [List.erase_cons_tail (by simpa using c), List.eraseIdx_cons_succ, h3]
theorem RemK.of {a : Addr} {n : Int} {ns : List Int} {G : Hp → Prop} (L : Led B H l) (h : (a, HO.lst (ns.map V.int)) ∈ l) (hm : n ∈ ns) (t : Put l a (.lst ((ns.erase n).map V.int)) l') (k : ∀ H1, Led B H1 l' → G H1) : RemK a n H G := by
  obtain ⟨j, h1, h2, h3⟩ := first_at hm
  exact ⟨ns, j, L.at h, h1, h2, by rw [h3]; exact k _ (L.put t)⟩
def MinK (K : PySem.W.Frag) (a : Addr) (H : Hp) (G : Int → Prop) : Prop := ∃ ns : List Int, SqL K H a (ns.map V.int) ∧ 0 < ns.length ∧ ∀ m, m ∈ ns → (∀ y, y ∈ ns → m ≤ y) → G m
theorem x_min {a : Addr} : rMin K [.ref a] H Q ↔ MinK K a H fun m => Q (.int m) H := ⟨fun ⟨_, ns, e, r⟩ => by cases e; exact ⟨ns, r⟩, fun ⟨ns, r⟩ => ⟨a, ns, rfl, r⟩⟩
theorem e_lrg1 {te : L2.St → Hp → (Int → Int → Hp → Prop) → Prop} : tLstRg te σ H Q = te σ H fun a b H1 => RgOk a b ∧ NewK (.lst (rgV a b)) H1 fun p H2 => Q (.ref p) H2 := propext ⟨fun h => h, fun h => h⟩
theorem e_rg1 {R : Int → Int → Hp → Prop} : tRg1 ta σ H R = ta σ H fun x H1 => ∃ n, x = .int n ∧ R 0 n H1 := propext ⟨fun h => h, fun h => h⟩
def rRev : V → List V → Hp → VK → Prop := rReverse
def RevK (a : Addr) (H : Hp) (G : Hp → Prop) : Prop := ∃ xs, H a = some (.lst xs) ∧ G (upd H a (.lst xs.reverse))
theorem x_rev {a : Addr} : rReverse (.ref a) [] H Q ↔ RevK a H fun H1 => Q .non H1 := ⟨fun ⟨_, xs, e, _, h, q⟩ => by cases e; exact ⟨xs, h, q⟩, fun ⟨xs, h, q⟩ => ⟨a, xs, rfl, rfl, h, q⟩⟩
theorem RevK.of {a : Addr} {xs : List V} {G : Hp → Prop} (L : Led B H l) (h : (a, HO.lst xs) ∈ l) (t : Put l a (.lst xs.reverse) l') (k : ∀ H1, Led B H1 l' → G H1) : RevK a H G := ⟨xs, L.at h, k _ (L.put t)⟩
theorem s_augS {to ti te : TE} {tget : V → V → Hp → VK → Prop} {tip : TIp} {tset : TSet} : tAugS to ti te tget tip tset D σ H = to σ H fun o H1 => ti σ H1 fun i H2 => tget o i H2 fun x H3 => te σ H3 fun y H4 => tip x y H4 fun z H5 => tset o i z H5 fun H6 => D.nx σ H6 := propext ⟨fun h => h, fun h => h⟩
theorem x_ip {g : Int → Int → Int} {i j : Int} : ipI g (.int i) (.int j) H Q ↔ Q (.int (g i j)) H := ⟨fun ⟨_, _, e1, e2, q⟩ => by cases e1; cases e2; exact q, fun q => ⟨i, j, rfl, rfl, q⟩⟩
theorem i_rng3 {al : TA} {R : It → Hp → Prop} : iRng3 al σ H R = al σ H fun vs H1 => ∃ (i j c : Int) (n : Nat), vs = [.int i, .int j, .int c] ∧ RgC i j c n ∧ R (Itc i c n) H1 := propext ⟨fun h => h, fun h => h⟩
end
theorem pget_list {X : Cx} : PGet X (rIxL X.K) := by
  intro pins s σ H x y v u Q I rx ry h
  obtain ⟨p, xs, i, z, rfl, rfl, hq, he, q⟩ := h
  cases rx
  obtain ⟨t, rfl⟩ := ry
  obtain ⟨its, r, pl, hz⟩ := I.list hq
  obtain ⟨j, h1, h2, h3, h4, h5⟩ := atI_get he
  obtain ⟨w, ew, rw'⟩ := r.get h2
  have hl := r.length
  have hn := line63
  have fin : EP X pins σ Q w s := ⟨z, H, I, rw', q⟩
  by_cases h0 : 0 ≤ i
  · have hj : i.toNat = j := by
      have h1' := h1
      rw [seqIndex_of h0 h5] at h1'
      exact Option.some.inj h1'
    exact wpAny_getItem_list pl.isList h0 (by omega) (by rw [hj]; simpa using ew) fin
  · have hj : (i + (its.toArray.size : Int)).toNat = j := by
      have h1' := h1
      rw [seqIndex_neg (by omega) h4] at h1'
      rw [List.size_toArray, ← hl]
      exact Option.some.inj h1'
    exact wpAny_getItem_list_neg pl.isList (by omega) (by rw [List.size_toArray] <;> omega) (by omega) (by rw [hj]; simpa using ew) fin
/-! ### loops, kept whole -/
section
variable {K : PySem.W.Frag} {g : TG} {tb : TS} {D : Ends} {σ : L2.St} {H : Hp} {a : Addr} {xs : List V} {lo : Int} {n : Nat}
theorem loop_list (Pv : Nat → L2.St → Hp → Prop) (h0 : Pv 0 σ H) (hl : ∀ i σ H, i ≤ xs.length → Pv i σ H → SqL K H a xs)
    (hs : ∀ i x σ H (N : L2.St → Hp → Prop), xs[i]? = some x → Pv i σ H → (∀ σ' H', Pv (i + 1) σ' H' → N σ' H') → g x σ H fun σ2 H2 => tb { D with nx := N, ct := N, bk := D.nx } σ2 H2) (hd : ∀ σ H, Pv xs.length σ H → D.nx σ H) : LoopK (Itl K a) g tb D σ H :=
  for_list Pv h0 hl (fun i x σ H e p => hs i x σ H _ e p fun _ _ z => z) hd
theorem loop_tup (Pv : Nat → L2.St → Hp → Prop) (h0 : Pv 0 σ H) (hl : ∀ i σ H, i ≤ xs.length → Pv i σ H → SqT K H a xs)
    (hs : ∀ i x σ H (N : L2.St → Hp → Prop), xs[i]? = some x → Pv i σ H → (∀ σ' H', Pv (i + 1) σ' H' → N σ' H') → g x σ H fun σ2 H2 => tb { D with nx := N, ct := N, bk := D.nx } σ2 H2) (hd : ∀ σ H, Pv xs.length σ H → D.nx σ H) : LoopK (Itt K a) g tb D σ H :=
  for_tup Pv h0 hl (fun i x σ H e p => hs i x σ H _ e p fun _ _ z => z) hd
theorem loop_range (Pv : Nat → L2.St → Hp → Prop) (h0 : Pv 0 σ H)
    (hs : ∀ i σ H (N : L2.St → Hp → Prop), i < n → Pv i σ H → (∀ σ' H', Pv (i + 1) σ' H' → N σ' H') → g (.int (lo + i)) σ H fun σ2 H2 => tb { D with nx := N, ct := N, bk := D.nx } σ2 H2) (hd : ∀ σ H, Pv n σ H → D.nx σ H) : LoopK (Itr lo n) g tb D σ H :=
  for_range Pv h0 (fun i σ H e p => hs i σ H _ e p fun _ _ z => z) hd
theorem loop_rangeC {c : Int} (Pv : Nat → L2.St → Hp → Prop) (h0 : Pv 0 σ H)
    (hs : ∀ i σ H (N : L2.St → Hp → Prop), i < n → Pv i σ H → (∀ σ' H', Pv (i + 1) σ' H' → N σ' H') → g (.int (lo + (i : Nat) * c)) σ H fun σ2 H2 => tb { D with nx := N, ct := N, bk := D.nx } σ2 H2) (hd : ∀ σ H, Pv n σ H → D.nx σ H) : LoopK (Itc lo c n) g tb D σ H :=
  for_rangeC Pv h0 (fun i σ H e p => hs i σ H _ e p fun _ _ z => z) hd
variable {tt : TT} {te : TE} {vs : List Nat} {Q : VK}
/-- what a turn of a comprehension does, N behind it -/
def TurnK (g : TG) (tt : TT) (te : TE) (vs : List Nat) (σ : L2.St) (p : Addr) (N : Hp → Prop) (x : V) (H : Hp) : Prop :=
  g x (wipe σ vs) H fun σ2 H2 => wipe σ2 vs = wipe σ vs ∧ tt σ2 H2 fun b H3 => if b = true then te σ2 H3 fun y H4 => AppK p y H4 N else N H3
theorem comp_gen {J : It} (n : Nat) (R : Nat → Addr → List V → Hp → Prop) (h0 : ∀ p, H p = none → R 0 p [] (upd H p (.lst [])))
    (hn : ∀ p acc H', R n p acc H' → J.stop n H' ∧ Q (.ref p) H')
    (hs : ∀ i p acc H', i < n → R i p acc H' → J.go i H' ∧ ∀ x H2, J.yld i H' x H2 → TurnK g tt te vs σ p (fun H3 => ∃ acc, R (i + 1) p acc H3) x H2) : LcK J g tt te vs σ H Q := by
  intro p hp
  refine ⟨fun i m H' => m = n - i ∧ i ≤ n ∧ ∃ acc, R i p acc H', ⟨n, rfl, Nat.zero_le _, [], h0 p hp⟩, ?_⟩
  rintro i m H' ⟨rfl, hi, acc, r⟩
  by_cases c : i < n
  · obtain ⟨r1, r2⟩ := hs i p acc H' c r
    exact Or.inr ⟨r1, fun H'' => ∃ acc, R (i + 1) p acc H'', fun H'' z => ⟨n - (i + 1), by omega, rfl, c, z⟩, fun x H2 y => r2 x H2 y⟩
  · have e : i = n := by omega
    subst e
    exact Or.inl (hn p acc H' r)
/-- over a list that stands -/
theorem comp_list (R : Nat → Addr → List V → Hp → Prop) (h0 : ∀ p, H p = none → R 0 p [] (upd H p (.lst []))) (hl : ∀ i p acc H', R i p acc H' → SqL K H' a xs)
    (hn : ∀ p acc H', R xs.length p acc H' → Q (.ref p) H') (hs : ∀ i p acc H' x (N : Hp → Prop), xs[i]? = some x → R i p acc H' → (∀ acc H3, R (i + 1) p acc H3 → N H3) → TurnK g tt te vs σ p N x H') : LcK (Itl K a) g tt te vs σ H Q := by
  refine comp_gen xs.length R h0 (fun p acc H' r => ⟨⟨xs, hl _ _ _ _ r, Nat.le_refl _⟩, hn p acc H' r⟩) fun i p acc H' hi r => ?_
  refine ⟨⟨xs, xs[i], hl _ _ _ _ r, List.getElem?_eq_getElem hi⟩, ?_⟩
  rintro x H2 ⟨rfl, hx⟩
  exact hs i p acc _ x _ (hx xs (hl _ _ _ _ r)) r fun acc H3 z => ⟨acc, z⟩
theorem comp_tup (R : Nat → Addr → List V → Hp → Prop) (h0 : ∀ p, H p = none → R 0 p [] (upd H p (.lst []))) (hl : ∀ i p acc H', R i p acc H' → SqT K H' a xs)
    (hn : ∀ p acc H', R xs.length p acc H' → Q (.ref p) H') (hs : ∀ i p acc H' x (N : Hp → Prop), xs[i]? = some x → R i p acc H' → (∀ acc H3, R (i + 1) p acc H3 → N H3) → TurnK g tt te vs σ p N x H') : LcK (Itt K a) g tt te vs σ H Q := by
  refine comp_gen xs.length R h0 (fun p acc H' r => ⟨⟨xs, hl _ _ _ _ r, Nat.le_refl _⟩, hn p acc H' r⟩) fun i p acc H' hi r => ?_
  refine ⟨⟨xs, xs[i], hl _ _ _ _ r, List.getElem?_eq_getElem hi⟩, ?_⟩
  rintro x H2 ⟨rfl, hx⟩
  exact hs i p acc _ x _ (hx xs (hl _ _ _ _ r)) r fun acc H3 z => ⟨acc, z⟩
theorem comp_range (R : Nat → Addr → List V → Hp → Prop) (h0 : ∀ p, H p = none → R 0 p [] (upd H p (.lst [])))
    (hn : ∀ p acc H', R n p acc H' → Q (.ref p) H') (hs : ∀ i p acc H' (N : Hp → Prop), i < n → R i p acc H' → (∀ acc H3, R (i + 1) p acc H3 → N H3) → TurnK g tt te vs σ p N (.int (lo + i)) H') : LcK (Itr lo n) g tt te vs σ H Q := by
  refine comp_gen n R h0 (fun p acc H' r => ⟨Nat.le_refl _, hn p acc H' r⟩) fun i p acc H' hi r => ⟨hi, ?_⟩
  rintro x H2 ⟨rfl, rfl⟩
  exact hs i p acc _ _ hi r fun acc H3 z => ⟨acc, z⟩
/-- over enumerate of a list that stands -/
theorem comp_enum (R : Nat → Addr → List V → Hp → Prop) (h0 : ∀ p, H p = none → R 0 p [] (upd H p (.lst []))) (hl : ∀ i p acc H', R i p acc H' → SqL K H' a xs)
    (hn : ∀ p acc H', R xs.length p acc H' → Q (.ref p) H')
    (hs : ∀ i p acc H' x (N : Hp → Prop), xs[i]? = some x → R i p acc H' → (∀ acc H3, R (i + 1) p acc H3 → N H3) → NewK (.tup [.int (i : Nat), x]) H' fun t H2 => TurnK g tt te vs σ p N (.ref t) H2) : LcK (Ite K a) g tt te vs σ H Q := by
  refine comp_gen xs.length R h0 (fun p acc H' r => ⟨⟨xs, hl _ _ _ _ r, Nat.le_refl _⟩, hn p acc H' r⟩) fun i p acc H' hi r => ?_
  refine ⟨⟨xs, xs[i], hl _ _ _ _ r, List.getElem?_eq_getElem hi⟩, ?_⟩
  rintro v H2 ⟨t, x, rfl, ht, rfl, hx⟩
  exact hs i p acc _ x _ (hx xs (hl _ _ _ _ r)) r (fun acc H3 z => ⟨acc, z⟩) t ht
end

/-! ### small facts -/
theorem NeD.of {K : PySem.W.Frag} {H : Hp} {x y : V} {d e : PyData} {Q : VK} (h1 : Dp K H x d) (h2 : Dp K H y e) (s1 : SeqAt.shaped d = true) (s2 : SeqAt.shaped e = true) (q : Q (.bl (!PyData.eqv d e)) H) : rNeD K x y H Q := ⟨d, e, h1, h2, s1, s2, q⟩
theorem EqD.of {K : PySem.W.Frag} {H : Hp} {x y : V} {d e : PyData} {Q : VK} (h1 : Dp K H x d) (h2 : Dp K H y e) (s1 : SeqAt.shaped d = true) (s2 : SeqAt.shaped e = true) (q : Q (.bl (PyData.eqv d e)) H) : rEqD K x y H Q := ⟨d, e, h1, h2, s1, s2, q⟩
theorem RepK.of {K : PySem.W.Frag} {H : Hp} {x : V} {d : PyData} {n k : Nat} {G : Str → Prop} (h : Dp K H x d) (w : Shw n k d) (h1 : n ≤ 16000000) (h2 : k ≤ 60) (q : G d.shown) : RepK K x H G := ⟨d, h, w.up h1 h2, q⟩
theorem RepK.int {K : PySem.W.Frag} {H : Hp} {i : Int} {G : Str → Prop} (k : Nat) (h : i.natAbs < 2 ^ k) (q : G (PyData.int i).shown) (h0 : 0 < k := by decide) (h1 : k ≤ 1920 := by decide) : RepK K (.int i) H G := RepK.of (Dp.int i) (Shw.int h0 h1 h) (by omega) (by decide) q
theorem RepK.bl {K : PySem.W.Frag} {H : Hp} {b : Bool} {G : Str → Prop} (q : G (PyData.bool b).shown) : RepK K (.bl b) H G := RepK.of (Dp.bl b) (Shw.bl b) (by decide) (by decide) q
theorem canLayAll_all : ∀ ds : List PyData, (∀ d ∈ ds, d.canLay0 = true) → PyData.canLayAll0 ds = true
  | [], _ => rfl
  | d :: r, h => by
    rw [PyData.canLayAll0, h d List.mem_cons_self, canLayAll_all r fun e he => h e (List.mem_cons_of_mem _ he)]; rfl
/-- data that == takes -/
structure Eqd (k : Nat) (d : PyData) : Prop where
  c : d.canLay0 = true
  p : d.depth ≤ k
theorem Eqd.lst {k : Nat} {ds : List PyData} (h : ∀ d ∈ ds, Eqd k d) : Eqd (k + 1) (.list ds) := ⟨by rw [PyData.canLay0]; exact canLayAll_all ds fun d hd => (h d hd).c, by
  simp only [PyData.depth]
  have := depthAll_le ds fun d hd => (h d hd).p
  omega⟩
theorem Eqd.tup {k : Nat} {ds : List PyData} (h : ∀ d ∈ ds, Eqd k d) : Eqd (k + 1) (.tuple ds) := ⟨by rw [PyData.canLay0]; exact canLayAll_all ds fun d hd => (h d hd).c, by
  simp only [PyData.depth]
  have := depthAll_le ds fun d hd => (h d hd).p
  omega⟩
theorem Eqd.int (i : Int) : Eqd 1 (.int i) := ⟨by rw [PyData.canLay0], by simp [PyData.depth]⟩
theorem Eqd.str (i : Str) (h : PyData.strOk i = true) : Eqd 1 (.str i) := ⟨by rw [PyData.canLay0]; exact h, by simp [PyData.depth]⟩
theorem Eqd.bl (i : Bool) : Eqd 1 (.bool i) := ⟨by rw [PyData.canLay0], by simp [PyData.depth]⟩
theorem Eqd.non : Eqd 1 .none := ⟨by rw [PyData.canLay0], by simp [PyData.depth]⟩
theorem Eqd.sh {k : Nat} {d : PyData} (h : Eqd k d) (hk : k ≤ 64) : SeqAt.shaped d = true := by
  unfold SeqAt.shaped
  rw [h.c, Bool.true_and]
  exact decide_eq_true (Nat.le_trans h.p hk)
theorem eqv_nil (ds : List PyData) : PyData.eqv (.list ds) (.list []) = ds.isEmpty := by
  cases ds with
  | nil => exact rfl
  | cons d r => exact rfl
theorem EqD.nil {K : PySem.W.Frag} {H : Hp} {a b : Addr} {xs : List V} {ds : List PyData} {Q : VK} {k : Nat} (h : SqL K H a xs) (e : DpAll K H xs ds) (g : ∀ d ∈ ds, Eqd k d) (hk : k ≤ 60) (h2 : SqL K H b []) (q : Q (.bl ds.isEmpty) H) : rEqD K (.ref a) (.ref b) H Q :=
  EqD.of (.lst h e) (.lst h2 .nil) ((Eqd.lst g).sh (by omega)) ((Eqd.lst (k := 1) (ds := []) (fun _ z => (List.not_mem_nil z).elim)).sh (by decide)) (by rw [eqv_nil]; exact q)
theorem NeD.nil {K : PySem.W.Frag} {H : Hp} {a b : Addr} {xs : List V} {ds : List PyData} {Q : VK} {k : Nat} (h : SqL K H a xs) (e : DpAll K H xs ds) (g : ∀ d ∈ ds, Eqd k d) (hk : k ≤ 60) (h2 : SqL K H b []) (q : Q (.bl (!ds.isEmpty)) H) : rNeD K (.ref a) (.ref b) H Q :=
  NeD.of (.lst h e) (.lst h2 .nil) ((Eqd.lst g).sh (by omega)) ((Eqd.lst (k := 1) (ds := []) (fun _ z => (List.not_mem_nil z).elim)).sh (by decide)) (by rw [eqv_nil]; exact q)
theorem tyL {K : PySem.W.Frag} {H : Hp} {p : Addr} {xs : List V} (h : SqL K H p xs) : tyV K "list" (.ref p) H := Or.inl ⟨rfl, _, h⟩
theorem tri_even (t : Int) : t * (t + 1) % 2 = 0 := by
  rw [Int.mul_emod]
  have h : t % 2 = 0 ∨ t % 2 = 1 := by omega
  rcases h with h | h
  · rw [h, Int.zero_mul]; rfl
  · have e : (t + 1) % 2 = 0 := by omega
    rw [e, Int.mul_zero]; rfl
theorem eqv_refl_nil : PyData.eqv (.list []) (.list []) = true := by first | rfl | simp [PyData.eqv, PyData.eqvAll] | decide +kernel
theorem sc_ii {i j : Int} : scal (.int i) (.int j) = true ↔ True := iff_true_intro rfl
theorem sc_ss {i j : Str} : scal (.str i) (.str j) = true ↔ True := iff_true_intro rfl
theorem sc_bb {i j : Bool} : scal (.bl i) (.bl j) = true ↔ True := iff_true_intro rfl
theorem sc_nn : scal .non .non = true ↔ True := iff_true_intro rfl
theorem sc_ns {j : Str} : scal .non (.str j) = true ↔ True := iff_true_intro rfl
theorem sc_sn {j : Str} : scal (.str j) .non = true ↔ True := iff_true_intro rfl
theorem sc_ni {j : Int} : scal .non (.int j) = true ↔ True := iff_true_intro rfl
theorem sc_in {j : Int} : scal (.int j) .non = true ↔ True := iff_true_intro rfl
theorem tri (t : Int) : (t + 1) * (t + 1 + 1) / 2 = t * (t + 1) / 2 + (t + 1) := by
  have e : (t + 1) * (t + 1 + 1) = t * (t + 1) + 2 * (t + 1) := by
    rw [Int.mul_add (t + 1) (t + 1) 1, Int.add_mul t 1 (t + 1)]
    omega
  rw [e]
  omega
theorem atI_in {α : Type} {xs : List α} {i : Int} (h0 : 0 ≤ i) (h : i < xs.length) : atI xs i = some (xs[i.toNat]'(by omega)) := by
  unfold atI ixN
  rw [if_pos h0, if_pos h]
  show xs[i.toNat]? = _
  exact List.getElem?_eq_getElem _
theorem atI_map {ns : List Int} {i : Int} (h0 : 0 ≤ i) (h : i < ns.length) : ∃ n, n ∈ ns ∧ atI (ns.map V.int) i = some (.int n) := by
  have h2 : i < ((ns.map V.int).length : Nat) := by rw [List.length_map]; exact h
  refine ⟨ns[i.toNat]'(by omega), List.getElem_mem _, ?_⟩
  rw [atI_in h0 h2, List.getElem_map]
theorem two_pow (n : Nat) : (2 : Int) ^ n = ((2 ^ n : Nat) : Int) := by
  rw [Int.natCast_pow]; rfl
theorem abs_lt {i : Int} {n : Nat} (h0 : 0 ≤ i) (h : i < 2 ^ n) : i.natAbs < 2 ^ n := by
  rw [two_pow] at h
  omega
theorem pow_bits {i : Int} {n m : Nat} (hn : 0 < n) (h0 : 0 ≤ i) (h : i < 2 ^ n) (hm : n * m ≤ 2 ^ 27) : 0 ≤ (m : Int) ∧ (Builtin.Int.intBits i : Int) * (m : Int) ≤ 2 ^ 27 := by
  have h2 := bits_le hn (abs_lt h0 h)
  refine ⟨by omega, ?_⟩
  have h3 : Builtin.Int.intBits i * m ≤ 2 ^ 27 := Nat.le_trans (Nat.mul_le_mul_right m h2) hm
  have h4 : ((Builtin.Int.intBits i * m : Nat) : Int) ≤ ((2 ^ 27 : Nat) : Int) := Int.ofNat_le.mpr h3
  rw [Int.natCast_mul] at h4
  exact h4
theorem mul_w {i j : Int} {n : Nat} (hn : 0 < n) (h0 : 0 ≤ i) (h : i < 2 ^ n) (h1 : 0 ≤ j) (h2 : j < 2 ^ n) (hm : n + n ≤ 1000000) : CMulW i j := wide_mul (a := n) (b := n) (abs_lt h0 h) (abs_lt h1 h2) hn hn hm
theorem div_w {i j : Int} {n : Nat} (hn : 0 < n) (h0 : 0 < j) (h : j < 2 ^ n) (hm : n ≤ 9000) : CDivW i j := wide_div h0 (b := n) (abs_lt (by omega) h) hn hm
end Vg


set_option Elab.async false
set_option linter.all false
set_option maxRecDepth 100000
set_option maxHeartbeats 2000000
namespace Vg
open PySem PySem.Spec PyProof.Rows L2

/-! ### data of any kind, dicts within -/
def keyD : Key → PyData
  | .inl i => .int i
  | .inr x => .str x
mutual
inductive Dq (K : PySem.W.Frag) (H : Hp) : V → PyData → Prop
  | non : Dq K H .non .none
  | bl (b : Bool) : Dq K H (.bl b) (.bool b)
  | int (i : Int) : Dq K H (.int i) (.int i)
  | str (x : Str) : Dq K H (.str x) (.str x)
  | lst {a : Addr} {xs : List V} {ds : List PyData} : SqL K H a xs → DqAll K H xs ds → Dq K H (.ref a) (.list ds)
  | tup {a : Addr} {xs : List V} {ds : List PyData} : SqT K H a xs → DqAll K H xs ds → Dq K H (.ref a) (.tuple ds)
  | dct {a : Addr} {kvs : List (Key × V)} {ps : List (PyData × PyData)} : H a = some (.dK kvs) → ps.map (·.1) = kvs.map (fun kv => keyD kv.1) → DqAll K H (kvs.map (·.2)) (ps.map (·.2)) → Dq K H (.ref a) (.dict ps)
inductive DqAll (K : PySem.W.Frag) (H : Hp) : List V → List PyData → Prop
  | nil : DqAll K H [] []
  | cons {v : V} {vs : List V} {d : PyData} {ds : List PyData} : Dq K H v d → DqAll K H vs ds → DqAll K H (v :: vs) (d :: ds)
end
/-- sys.modules stands -/
def SM (bs : Heap) : Prop := ∃ mm, bs.Ns sysModules mm
section
variable {X : Cx} {pins : List (Addr × Obj)} {σ : L2.St} {H : Hp} {s : Shared}
theorem SM.ne (m : SM X.base) (I : L2.Inv X pins σ H s) {a : Addr} {o : Obj} {its : Array Value} {n : Nat} (h : s.heap.get? a = some o) (hd : o.data = .seq its n) : sysModules ≠ a := by
  intro e
  obtain ⟨mm, ob, es, ep, h1, h2, _⟩ := m
  have h3 := I.bk _ _ h1
  rw [e, h] at h3
  cases h3
  rw [hd] at h2
  cases h2
theorem keys_reads {P : Program} {w : World} {h : Heap} : ∀ {es : List DictEntry} {vs : List (Key × Value)}, Pairs (mixKind P w) es vs → ReadsAll h (es.map (·.key)) (vs.map fun kv => keyD kv.1) []
  | _, _, .nil => .nil
  | _, _, .cons (e := e) (kv := kv) h1 h2 r => by
    have ih := keys_reads (h := h) r
    rcases keyIs_shape (show keyIs kv.1 e.key = true from h1) with ⟨i, t, e1, e2⟩ | ⟨x, t, e1, e2⟩
    · rw [List.map_cons, List.map_cons, e2, e1]
      exact ReadsAll.cons (Reads.int i t) ih
    · rw [List.map_cons, List.map_cons, e2, e1]
      exact ReadsAll.cons (Reads.str x t) ih
theorem vals_of_pairs {P : Program} {w : World} : ∀ {es : List DictEntry} {vs : List (Key × Value)} {kvs : List (Key × V)}, Pairs (mixKind P w) es vs → KV kvs vs → Vals (kvs.map (·.2)) (es.map (·.val)) ∧ kvs.map (fun kv => keyD kv.1) = vs.map (fun kv => keyD kv.1)
  | _, _, _, .nil, .nil => ⟨.nil, rfl⟩
  | _, _, _, .cons h1 h2 r, .cons p q => by
    obtain ⟨i1, i2⟩ := vals_of_pairs r q
    refine ⟨.cons (by show L2.RelV _ (DictEntry.val _); rw [h2]; exact p.2) i1, ?_⟩
    rw [List.map_cons, List.map_cons, i2, p.1]
theorem size_snd : ∀ ps : List (PyData × PyData), sizeOf (ps.map (·.2)) ≤ sizeOf ps
  | [] => Nat.le_refl _
  | (k, v) :: r => by
    have := size_snd r
    simp only [List.map_cons, List.cons.sizeOf_spec, Prod.mk.sizeOf_spec]
    omega
mutual
theorem Dq.reads (m : SM X.base) (I : L2.Inv X pins σ H s) : ∀ (d : PyData) (v : V) (u : Value), Dq X.K H v d → RelV v u → ∃ as, Reads s.heap u d as ∧ sysModules ∉ as
  | .none, _, _, h, r => by
    cases h
    cases r
    exact ⟨_, Reads.none, List.not_mem_nil⟩
  | .bool b, _, _, h, r => by
    cases h
    cases r
    exact ⟨_, Reads.bool b, List.not_mem_nil⟩
  | .int i, _, _, h, r => by
    cases h
    obtain ⟨t, rfl⟩ := r
    exact ⟨_, Reads.int i t, List.not_mem_nil⟩
  | .str x, _, _, h, r => by
    cases h
    obtain ⟨t, rfl⟩ := r
    exact ⟨_, Reads.str x t, List.not_mem_nil⟩
  | .list ds, _, _, h, r => by
    cases h with
    | lst hs ha =>
      cases r
      obtain ⟨its, rv, ⟨o, n, ho, hc, _, hd⟩, _⟩ := I.list hs
      obtain ⟨as, hr, hn⟩ := DqAll.reads m I ds _ its ha rv
      exact ⟨_, Reads.list ho hc hd hr, fun z => (List.mem_cons.mp z).elim (m.ne I ho hd) hn⟩
  | .tuple ds, _, _, h, r => by
    cases h with
    | tup hs ha =>
      cases r
      obtain ⟨its, rv, ⟨o, ho, hc, n, hd⟩, _⟩ := I.tuple hs
      obtain ⟨as, hr, hn⟩ := DqAll.reads m I ds _ its ha rv
      exact ⟨_, Reads.tuple ho hc hd hr, hn⟩
  | .dict ps, _, _, h, r => by
    cases h with
    | dct hd hk ha =>
      cases r
      obtain ⟨_, lo, vs, kv, o, es, ep, ho, ex, hdat, _, pr, _⟩ := I.hok _ _ hd
      obtain ⟨v1, v2⟩ := vals_of_pairs pr kv
      obtain ⟨as, hr, hn⟩ := DqAll.reads m I (ps.map (·.2)) _ _ ha v1
      have hkeys := keys_reads (h := s.heap) pr
      rw [← v2, ← hk] at hkeys
      refine ⟨_, Reads.dict ho ex.1 hdat hkeys hr, fun z => ?_⟩
      rcases List.mem_cons.mp z with z | z
      · exact (beq_eq_false_iff_ne.mp lo) z.symm
      · exact hn z
termination_by d => sizeOf d
decreasing_by
  all_goals first
  | (simp only [PyData.dict.sizeOf_spec]; have := size_snd ps; omega)
  | (simp only [PyData.list.sizeOf_spec]; omega)
  | (simp only [PyData.tuple.sizeOf_spec]; omega)
theorem DqAll.reads (m : SM X.base) (I : L2.Inv X pins σ H s) : ∀ (ds : List PyData) (vs : List V) (us : List Value), DqAll X.K H vs ds → Vals vs us → ∃ as, ReadsAll s.heap us ds as ∧ sysModules ∉ as
  | [], _, _, h, r => by
    cases h
    cases r
    exact ⟨_, ReadsAll.nil, List.not_mem_nil⟩
  | d :: ds, _, _, h, r => by
    cases h with
    | cons h1 h2 =>
      cases r with
      | cons r1 r2 =>
        obtain ⟨as, q1, n1⟩ := Dq.reads m I d _ _ h1 r1
        obtain ⟨bs, q2, n2⟩ := DqAll.reads m I ds _ _ h2 r2
        exact ⟨_, ReadsAll.cons q1 q2, fun z => (List.mem_append.mp z).elim n1 n2⟩
termination_by ds => sizeOf ds
decreasing_by all_goals (simp only [List.cons.sizeOf_spec]; omega)
end
end
mutual
theorem Dq.of {K : PySem.W.Frag} {H : Hp} : ∀ {v : V} {d : PyData}, Dp K H v d → Dq K H v d
  | _, _, .non => .non
  | _, _, .bl b => .bl b
  | _, _, .int i => .int i
  | _, _, .str x => .str x
  | _, _, .lst h a => .lst h (DqAll.of a)
  | _, _, .tup h a => .tup h (DqAll.of a)
theorem DqAll.of {K : PySem.W.Frag} {H : Hp} : ∀ {v : List V} {d : List PyData}, DpAll K H v d → DqAll K H v d
  | _, _, .nil => .nil
  | _, _, .cons h r => .cons (Dq.of h) (DqAll.of r)
end
mutual
theorem Dq.mono {K : PySem.W.Frag} {H H' : Hp} (s : Same H H') : ∀ {v : V} {d : PyData}, Dq K H v d → Dq K H' v d
  | _, _, .non => .non
  | _, _, .bl b => .bl b
  | _, _, .int i => .int i
  | _, _, .str x => .str x
  | _, _, .lst h a => .lst (s.seq h) (DqAll.mono s a)
  | _, _, .tup (a := p) (xs := xs) h a => .tup (by
      rcases h with (h | ⟨o, h⟩) | h
      · exact Or.inl (Or.inl (s _ _ h))
      · exact Or.inl (Or.inr ⟨o, s _ _ h⟩)
      · exact Or.inr h) (DqAll.mono s a)
  | _, _, .dct h k a => .dct (s _ _ h) k (DqAll.mono s a)
theorem DqAll.mono {K : PySem.W.Frag} {H H' : Hp} (s : Same H H') : ∀ {v : List V} {d : List PyData}, DqAll K H v d → DqAll K H' v d
  | _, _, .nil => .nil
  | _, _, .cons h r => .cons (Dq.mono s h) (DqAll.mono s r)
end
/-- as Shw, dicts within -/
structure Shq (n k : Nat) (d : PyData) : Prop where
  sh : d.showable = true
  dp : d.depth ≤ k
  sz : d.shown.length ≤ n
theorem Shw.q {n k : Nat} {d : PyData} (h : Shw n k d) : Shq n k d := ⟨h.sh, h.dp, h.sz⟩
theorem Shq.up {n k m j : Nat} {d : PyData} (h : Shq n k d) (h1 : n ≤ m) (h2 : k ≤ j) : Shq m j d := ⟨h.sh, Nat.le_trans h.dp h2, Nat.le_trans h.sz h1⟩
theorem Shq.lst {n k : Nat} {ds : List PyData} (h : ∀ d ∈ ds, Shq n k d) : Shq (ds.length * (n + 2) + 2) (k + 1) (.list ds) := by
  refine ⟨?_, ?_, ?_⟩
  · rw [PyData.showable]
    exact showableAll_all ds fun d hd => (h d hd).sh
  · simp only [PyData.depth]
    have := depthAll_le ds fun d hd => (h d hd).dp
    omega
  · rw [PyData.shown, shownAll_map]
    refine Nat.le_trans (listText_le _) ?_
    have := lt_one (n := n) (ds.map PyData.shown) (by
      intro t ht
      obtain ⟨d, hd, rfl⟩ := List.mem_map.mp ht
      exact (h d hd).sz)
    rw [List.length_map] at this
    omega
theorem Shq.tup {n k : Nat} {ds : List PyData} (h : ∀ d ∈ ds, Shq n k d) : Shq (ds.length * (n + 2) + 2) (k + 1) (.tuple ds) := by
  refine ⟨?_, ?_, ?_⟩
  · rw [PyData.showable]
    exact showableAll_all ds fun d hd => (h d hd).sh
  · simp only [PyData.depth]
    have := depthAll_le ds fun d hd => (h d hd).dp
    omega
  · rw [PyData.shown, shownAll_map]
    refine Nat.le_trans (fmt_text _) ?_
    have := lt_one (n := n) (ds.map PyData.shown) (by
      intro t ht
      obtain ⟨d, hd, rfl⟩ := List.mem_map.mp ht
      exact (h d hd).sz)
    rw [List.length_map] at this
    omega
/-! ### repr of these -/
def RepQ (K : PySem.W.Frag) (x : V) (H : Hp) (G : Str → Prop) : Prop := ∃ d, Dq K H x d ∧ Shq 16000000 60 d ∧ G d.shown
def rReprQ (K : PySem.W.Frag) : List V → Hp → VK → Prop := fun xs H Q => ∃ x, xs = [x] ∧ RepQ K x H fun t => Q (.str t) H
theorem x_reprQ {K : PySem.W.Frag} {x : V} {H : Hp} {Q : VK} : rReprQ K [x] H Q ↔ RepQ K x H fun t => Q (.str t) H := ⟨fun ⟨_, e, q⟩ => by cases e; exact q, fun q => ⟨x, rfl, q⟩⟩
theorem call_reprQ {X : Cx} {n : Nat} (g : X.A.guards = some []) (r : Room n X.A) (m : SM X.base) : CallR X (.builtin "repr") (rReprQ X.K) := by
  intro pins s σ H xs us Q I rv h
  obtain ⟨x, rfl, d, hd, sw, q⟩ := h
  obtain ⟨u, rfl, ru⟩ := vals1 rv
  have hz : d.shown.length ≤ sizeLine := Nat.le_trans sw.sz (by decide)
  have hu := r.units
  obtain ⟨as, rd, hno⟩ := Dq.reads m I _ _ _ hd ru
  have rest : ∀ a, u = Value.ref a → wpAny (model X.prog X.w) X.A (call (.builtin "repr") [u]) (EP X pins σ Q) X.xe s := by
    rintro a rfl
    refine repr_of_reads' rd sw.sh (fun _ => hno) g (by have := sw.dp; omega) (fun _ _ z => z) (fun h' u tk hk => ?_) hz
    exact ⟨.str _, H, I.call' (s' := { s with heap := h', toks := tk }) (ch := []) rfl (Un.kept hk) (I.hok.kept hk) I.bare (fun b z => (List.not_mem_nil z).elim), ⟨u, rfl⟩, q⟩
  cases hd with
  | non =>
    cases ru
    rw [PyData.shown] at q
    exact PySem.P.repr_of_none ⟨.str _, H, I.tok _, ⟨_, rfl⟩, q⟩
  | bl b =>
    cases ru
    rw [PyData.shown] at q
    exact PySem.P.repr_of_bool ⟨.str _, H, I.tok _, ⟨_, rfl⟩, q⟩
  | int i =>
    obtain ⟨t, rfl⟩ := ru
    have hs := sw.sh
    rw [PyData.showable] at hs
    rw [PyData.shown] at q
    exact PySem.P.repr_of_int (of_decide_eq_true hs) ⟨.str _, H, I.tok _, ⟨_, rfl⟩, q⟩
  | str y =>
    obtain ⟨t, rfl⟩ := ru
    rw [PyData.shown] at hz q
    exact PySem.P.repr_of_str ⟨.str _, H, I.tok _, ⟨_, rfl⟩, q⟩ hz
  | lst hs ha => exact rest _ ru
  | tup hs ha => exact rest _ ru
  | dct hs hk ha => exact rest _ ru
/-! ### == of two lists of other lengths; list.count of flat things -/
def LenNe (K : PySem.W.Frag) (a b : Addr) (H : Hp) : Prop := ∃ xs ys : List V, SqL K H a xs ∧ SqL K H b ys ∧ xs.length ≠ ys.length
def rEqL (K : PySem.W.Frag) : R2 := fun x y H Q => rEqD K x y H Q ∨ ∃ a b, x = .ref a ∧ y = .ref b ∧ LenNe K a b H ∧ Q (.bl false) H
theorem op_eqL {X : Cx} (hu : X.A.units + 64 < cLine) : OpR X (compareOp .Eq) (rEqL X.K) := by
  intro pins s σ H x y v u Q I rx ry h
  rcases h with h | ⟨a, b, rfl, rfl, ⟨xs, ys, h1, h2, ne⟩, q⟩
  · exact op_eqD hu pins s σ H x y v u Q I rx ry h
  · cases rx
    cases ry
    obtain ⟨i1, r1, p1, _⟩ := I.list h1
    obtain ⟨i2, r2, p2, _⟩ := I.list h2
    refine SeqAt.eq_list_lengthsAt p1.isList p2.isList ?_ (by omega) ⟨.bl _, H, I, rfl, q⟩
    rw [bne_iff_ne, List.size_toArray, List.size_toArray, ← r1.length, ← r2.length]
    exact ne
def rCnt (K : PySem.W.Frag) : V → List V → Hp → VK → Prop := fun x vs H Q => ∃ (p : Addr) (xs : List V) (y : V), x = .ref p ∧ vs = [y] ∧ SqL K H p xs ∧ flatV y = true ∧ xs.all flatV = true ∧ Q (.int (xs.countP fun z => eqV z y : Nat)) H
theorem countP_eqU {y : V} : ∀ {xs : List V} {us : List Value}, Vals xs us → xs.all flatV = true → us.countP (eqU y) = xs.countP fun z => eqV z y
  | _, _, .nil, _ => rfl
  | _, _, .cons r rr, h => by
    rw [List.all_cons, Bool.and_eq_true] at h
    rw [List.countP_cons, List.countP_cons, countP_eqU rr h.2, eqU_of r h.1]
theorem mt_count {X : Cx} : MtR X "list.count" (rCnt X.K) := by
  intro pins s σ H x xs v us Q I rx rxs h
  obtain ⟨p, zs, y, rfl, rfl, hs, fy, fz, q⟩ := h
  cases rx
  obtain ⟨u, rfl, ru⟩ := rxs.one
  obtain ⟨its, rv, ⟨⟨cls, dd, data, sl⟩, n, ho, hc, hdn, hd⟩, hlen⟩ := I.list hs
  simp only at hc hd
  subst hc hd
  refine call_meets PySem.F.slot_list_count ⟨_, ho, rfl⟩ PySem.F.entry_list_count (PySem.F.args_list_count_2 _ _)
    (SeqAt.list_countAt p its.toArray n dd sl u (eqU y)) ⟨ho, fun z hz => mem_eqAt ru fy rv fz z (by simpa using hz), ?_⟩
  refine ⟨.int (zs.countP fun z => eqV z y : Nat), H, I.tok _, ⟨s.toks, ?_⟩, q⟩
  show Value.int ((its.toArray.toList.countP (eqU y) : Nat) : Int) s.toks = _
  rw [show its.toArray.toList = its from rfl, countP_eqU rv fz]
/-! ### forms -/
theorem pe_low {X : Cx} {e : Expr} {t t' : TE} (h : PE X e t) (i : ∀ σ H Q, t' σ H Q → t σ H Q) : PE X e t' := ⟨fun pins s σ H Q I q => h.run pins s σ H Q I (i _ _ _ q)⟩
def CntK (K : PySem.W.Frag) (y : V) (p : Addr) (H : Hp) (G : Int → Prop) : Prop := ∃ xs, SqL K H p xs ∧ flatV y = true ∧ xs.all flatV = true ∧ G (xs.countP fun z => eqV z y : Nat)
def RvLK (K : PySem.W.Frag) (a : Addr) (H : Hp) (G : Addr → Hp → Prop) : Prop := ∃ xs, SqL K H a xs ∧ NewK (.lst xs.reverse) H G
def TupK (K : PySem.W.Frag) (a : Addr) (H : Hp) (G : Addr → Hp → Prop) : Prop := ∃ xs, SqL K H a xs ∧ NewK (.tup xs) H G
def rTupL (K : PySem.W.Frag) : List V → Hp → VK → Prop := fun xs H Q => ∃ p, xs = [.ref p] ∧ TupK K p H fun r H1 => Q (.ref r) H1
theorem cr_tupL {X : Cx} : CallR X (.type "tuple") (rTupL X.K) := CallR.as call_tuple_of fun _ _ _ ⟨p, e, ys, h, q⟩ => ⟨p, ys, e, Or.inl ⟨h, q⟩⟩
def tD1 (s : Str) (v : V) : TE := fun _ H Q => NewK (.dK [(.inr s, v)]) H fun p H1 => Q (.ref p) H1
section
variable {K : PySem.W.Frag} {H : Hp} {Q : VK} {σ : L2.St} {te : TE}
theorem x_cnt {p : Addr} {y : V} : rCnt K (.ref p) [y] H Q ↔ CntK K y p H fun n => Q (.int n) H := ⟨fun ⟨_, xs, _, e, e2, h, f1, f2, q⟩ => by cases e; cases e2; exact ⟨xs, h, f1, f2, q⟩, fun ⟨xs, h, f1, f2, q⟩ => ⟨p, xs, y, rfl, rfl, h, f1, f2, q⟩⟩
theorem e_revL : tRevL K te σ H Q ↔ te σ H fun x H1 => ∃ a, x = .ref a ∧ RvLK K a H1 fun p H2 => Q (.ref p) H2 := Iff.of_eq (congrArg (te σ H) (funext fun x => funext fun H1 => propext ⟨fun ⟨a, xs, e, h, q⟩ => ⟨a, e, xs, h, q⟩, fun ⟨a, e, xs, h, q⟩ => ⟨a, xs, e, h, q⟩⟩))
theorem x_tupL {p : Addr} : rTupL K [.ref p] H Q ↔ TupK K p H fun r H1 => Q (.ref r) H1 := ⟨fun ⟨_, e, q⟩ => by cases e; exact q, fun q => ⟨p, rfl, q⟩⟩
theorem e_dn : tDNewK σ H Q = NewK (.dK []) H fun p H2 => Q (.ref p) H2 := propext ⟨fun h => h, fun h => h⟩
theorem e_d1 {s : Str} {v : V} : tD1 s v σ H Q = NewK (.dK [(.inr s, v)]) H fun p H1 => Q (.ref p) H1 := propext ⟨fun h => h, fun h => h⟩
end
theorem upd_upd {H : Hp} {p : Addr} {o o' : HO} : upd (upd H p o) p o' = upd H p o' := by
  funext a
  by_cases c : a = p
  · rw [c, upd_same, upd_same]
  · rw [upd_ne c, upd_ne c, upd_ne c]
theorem pe_d1 {X : Cx} {pos : Pos} {k e : Expr} {s : Str} {v : V} (hk : PE X k (tC (.str s))) (he : PE X e (tC v)) : PE X (.Dict [some k] [e] pos) (tD1 s v) := by
  refine pe_low (pe_disp (pps_cons hk he pps_nil) rfl rfl (List.cons_ne_nil _ _) (by show 1 ≤ 15; decide)) fun σ H Q q p hp => ?_
  refine ⟨upd_same, [(.inr s, v)], rfl, (by show 1 ≤ 15; decide), ?_⟩
  have := q p hp
  rw [show mergeK [] [(Sum.inr s, v)] = [(Sum.inr s, v)] from rfl, upd_upd]
  exact this
section
variable {K : PySem.W.Frag} {H : Hp} {Q : VK}
theorem x_isI_list {x : Int} : rIs K [.int x, .ty "list"] H Q ↔ Q (.bl false) H := x_is (.base (.int x)) (fun _ => ty_int) (by decide +kernel)
theorem x_isI_str {x : Int} : rIs K [.int x, .ty "str"] H Q ↔ Q (.bl false) H := x_is (.base (.int x)) (fun _ => ty_int) (by decide +kernel)
theorem x_isI_dict {x : Int} : rIs K [.int x, .ty "dict"] H Q ↔ Q (.bl false) H := x_is (.base (.int x)) (fun _ => ty_int) (by decide +kernel)
theorem x_isI_tuple {x : Int} : rIs K [.int x, .ty "tuple"] H Q ↔ Q (.bl false) H := x_is (.base (.int x)) (fun _ => ty_int) (by decide +kernel)
theorem x_isB_list {x : Bool} : rIs K [.bl x, .ty "list"] H Q ↔ Q (.bl false) H := x_is (.base (.bl x)) (fun _ => ty_bl) (by decide +kernel)
theorem x_isB_str {x : Bool} : rIs K [.bl x, .ty "str"] H Q ↔ Q (.bl false) H := x_is (.base (.bl x)) (fun _ => ty_bl) (by decide +kernel)
theorem x_isB_dict {x : Bool} : rIs K [.bl x, .ty "dict"] H Q ↔ Q (.bl false) H := x_is (.base (.bl x)) (fun _ => ty_bl) (by decide +kernel)
theorem x_isB_tuple {x : Bool} : rIs K [.bl x, .ty "tuple"] H Q ↔ Q (.bl false) H := x_is (.base (.bl x)) (fun _ => ty_bl) (by decide +kernel)
theorem x_isN_list : rIs K [.non, .ty "list"] H Q ↔ Q (.bl false) H := x_is (.base .non) (fun _ => ty_non) (by decide +kernel)
theorem x_isN_str : rIs K [.non, .ty "str"] H Q ↔ Q (.bl false) H := x_is (.base .non) (fun _ => ty_non) (by decide +kernel)
theorem x_isN_dict : rIs K [.non, .ty "dict"] H Q ↔ Q (.bl false) H := x_is (.base .non) (fun _ => ty_non) (by decide +kernel)
theorem x_isN_tuple : rIs K [.non, .ty "tuple"] H Q ↔ Q (.bl false) H := x_is (.base .non) (fun _ => ty_non) (by decide +kernel)
theorem x_isS_list {x : Str} : rIs K [.str x, .ty "list"] H Q ↔ Q (.bl false) H := x_is (.base (.str x)) (fun _ => ty_str) (by decide +kernel)
theorem x_isS_dict {x : Str} : rIs K [.str x, .ty "dict"] H Q ↔ Q (.bl false) H := x_is (.base (.str x)) (fun _ => ty_str) (by decide +kernel)
theorem x_isS_tuple {x : Str} : rIs K [.str x, .ty "tuple"] H Q ↔ Q (.bl false) H := x_is (.base (.str x)) (fun _ => ty_str) (by decide +kernel)
theorem IsK.lstL {a : Addr} {n : String} {xs : List V} {b : Bool} {G : Bool → Prop} (h : SqL K H a xs) (k : kitB "list" n = some b) (q : G b) : IsK K a n H G := by
  rcases h with (h | ⟨o, h⟩) | ⟨o, its, m, h, hc, _⟩
  · exact ⟨_, b, .base (.lst h), k, q⟩
  · exact ⟨_, b, .base (.frz h), k, q⟩
  · exact ⟨_, b, .kList h hc, k, q⟩
theorem IsK.dK {a : Addr} {n : String} {kvs : List (Key × V)} {b : Bool} {G : Bool → Prop} (h : H a = some (.dK kvs)) (k : kitB "dict" n = some b) (q : G b) : IsK K a n H G := ⟨_, b, .base (.dK h), k, q⟩
theorem EqL0 {a b : Addr} {xs : List V} (h : SqL K H a xs) (h2 : SqL K H b []) (q : Q (.bl xs.isEmpty) H) : rEqL K (.ref a) (.ref b) H Q := by
  cases xs with
  | nil => exact Or.inl (EqD.nil (k := 1) h .nil (fun _ z => (List.not_mem_nil z).elim) (by decide) h2 q)
  | cons x r => exact Or.inr ⟨a, b, rfl, rfl, ⟨_, _, h, h2, by simp⟩, q⟩
end
/-! ### how long a list's text is -/
def Wt (ds : List PyData) : Nat := piled (ds.map PyData.shown)
theorem piled_app (a b : List Str) : piled (a ++ b) = piled a + piled b := by
  induction a with
  | nil => simp [piled]
  | cons x r ih => unfold piled at *; simp only [List.cons_append, List.map_cons, List.sum_cons] at *; omega
theorem Wt.nil : Wt [] = 0 := rfl
theorem Wt.cons (d : PyData) (ds : List PyData) : Wt (d :: ds) = d.shown.length + 2 + Wt ds := by unfold Wt piled; simp only [List.map_cons, List.sum_cons]
theorem Wt.app (a b : List PyData) : Wt (a ++ b) = Wt a + Wt b := by unfold Wt; rw [List.map_append, piled_app]
theorem Wt.take (ds : List PyData) (n : Nat) : Wt (ds.take n) ≤ Wt ds := by
  have := Wt.app (ds.take n) (ds.drop n)
  rw [List.take_append_drop] at this
  omega
theorem Wt.drop (ds : List PyData) (n : Nat) : Wt (ds.drop n) ≤ Wt ds := by
  have := Wt.app (ds.take n) (ds.drop n)
  rw [List.take_append_drop] at this
  omega
theorem Wt.rev (ds : List PyData) : Wt ds.reverse = Wt ds := by
  induction ds with
  | nil => rfl
  | cons d r ih => rw [List.reverse_cons, Wt.app, ih, Wt.cons, Wt.cons, Wt.nil]; omega
structure Shd (k : Nat) (d : PyData) : Prop where
  sh : d.showable = true
  dp : d.depth ≤ k
theorem Shd.lst {k : Nat} {ds : List PyData} (h : ∀ d ∈ ds, Shd k d) : Shq (Wt ds + 2) (k + 1) (.list ds) := by
  refine ⟨?_, ?_, ?_⟩
  · rw [PyData.showable]
    exact showableAll_all ds fun d hd => (h d hd).sh
  · simp only [PyData.depth]
    have := depthAll_le ds fun d hd => (h d hd).dp
    omega
  · rw [PyData.shown, shownAll_map]
    exact listText_le _
theorem Shd.tup {k : Nat} {ds : List PyData} (h : ∀ d ∈ ds, Shd k d) : Shq (Wt ds + 2) (k + 1) (.tuple ds) := by
  refine ⟨?_, ?_, ?_⟩
  · rw [PyData.showable]
    exact showableAll_all ds fun d hd => (h d hd).sh
  · simp only [PyData.depth]
    have := depthAll_le ds fun d hd => (h d hd).dp
    omega
  · rw [PyData.shown, shownAll_map]
    exact fmt_text _
theorem Shq.d {n k : Nat} {d : PyData} (h : Shq n k d) : Shd k d := ⟨h.sh, h.dp⟩
theorem Shd.up {k j : Nat} {d : PyData} (h : Shd k d) (h2 : k ≤ j) : Shd j d := ⟨h.sh, Nat.le_trans h.dp h2⟩
section
variable {K : PySem.W.Frag} {H : Hp}
theorem DqAll.app : ∀ {xs ys : List V} {ds es : List PyData}, DqAll K H xs ds → DqAll K H ys es → DqAll K H (xs ++ ys) (ds ++ es)
  | _, _, _, _, .nil, h => h
  | _, _, _, _, .cons h r, h2 => .cons h (DqAll.app r h2)
theorem DqAll.take : ∀ {xs : List V} {ds : List PyData} (n : Nat), DqAll K H xs ds → DqAll K H (xs.take n) (ds.take n)
  | _, _, 0, _ => .nil
  | _, _, n + 1, .nil => .nil
  | _, _, n + 1, .cons h r => .cons h (DqAll.take n r)
theorem DqAll.drop : ∀ {xs : List V} {ds : List PyData} (n : Nat), DqAll K H xs ds → DqAll K H (xs.drop n) (ds.drop n)
  | _, _, 0, h => h
  | _, _, n + 1, .nil => .nil
  | _, _, n + 1, .cons h r => DqAll.drop n r
theorem DqAll.rev : ∀ {xs : List V} {ds : List PyData}, DqAll K H xs ds → DqAll K H xs.reverse ds.reverse
  | _, _, .nil => .nil
  | _, _, .cons h r => by
    rw [List.reverse_cons, List.reverse_cons]
    exact (DqAll.rev r).app (.cons h .nil)
theorem DqAll.len : ∀ {xs : List V} {ds : List PyData}, DqAll K H xs ds → xs.length = ds.length
  | _, _, .nil => rfl
  | _, _, .cons h r => by rw [List.length_cons, List.length_cons, DqAll.len r]
theorem DqAll.at : ∀ {xs : List V} {ds : List PyData} {i : Nat} {x : V}, DqAll K H xs ds → xs[i]? = some x → ∃ d, ds[i]? = some d ∧ Dq K H x d
  | _, _, 0, _, .cons h r, e => by cases e; exact ⟨_, rfl, h⟩
  | _, _, i + 1, _, .cons h r, e => DqAll.at (i := i) r e
end
/-- all that is owned goes to the base -/
theorem Led.sinkAll {H : Hp} : ∀ {l : List (Addr × HO)} {B : Hp}, Led B H l → ∃ B', Same B B' ∧ (∀ e ∈ l, B' e.1 = some e.2) ∧ Led B' H []
  | [], B, L => ⟨B, Same.refl B, fun e he => (List.not_mem_nil he).elim, L⟩
  | (p, o) :: l, B, L => by
    obtain ⟨B1, s1, h1, L1⟩ := L.sink
    obtain ⟨B2, s2, h2, L2⟩ := Led.sinkAll L1
    refine ⟨B2, s1.trans s2, fun e he => ?_, L2⟩
    rcases List.mem_cons.mp he with z | z
    · rw [z]; exact s2 _ _ h1
    · exact h2 e z
/-! ### lists whose text is short -/
def DW (K : PySem.W.Frag) (H : Hp) (m W k : Nat) (xs : List V) : Prop := ∃ ds, DqAll K H xs ds ∧ Wt ds ≤ W ∧ (∀ d ∈ ds, Shd k d) ∧ xs.length ≤ m
section
variable {K : PySem.W.Frag} {H H' : Hp} {m W k m2 W2 k2 : Nat} {xs ys : List V}
theorem DW.mono (s : Same H H') (h : DW K H m W k xs) : DW K H' m W k xs := by
  obtain ⟨ds, h1, h2⟩ := h
  exact ⟨ds, h1.mono s, h2⟩
theorem DW.up (h : DW K H m W k xs) (h1 : m ≤ m2) (h2 : W ≤ W2) (h3 : k ≤ k2) : DW K H m2 W2 k2 xs := by
  obtain ⟨ds, q1, q2, q3, q4⟩ := h
  exact ⟨ds, q1, by omega, fun d hd => (q3 d hd).up h3, by omega⟩
theorem DW.nil : DW K H 0 0 k [] := ⟨[], .nil, Nat.le_refl _, fun d hd => (List.not_mem_nil hd).elim, Nat.le_refl _⟩
theorem DW.one {v : V} {d : PyData} {n : Nat} (h : Dq K H v d) (w : Shq n k d) : DW K H 1 (n + 2) k [v] :=
  ⟨[d], .cons h .nil, by rw [Wt.cons, Wt.nil]; have := w.sz; omega, fun e he => by rw [List.mem_singleton.mp he]; exact w.d, Nat.le_refl _⟩
theorem DW.app (h : DW K H m W k xs) (h2 : DW K H m2 W2 k ys) : DW K H (m + m2) (W + W2) k (xs ++ ys) := by
  obtain ⟨ds, q1, q2, q3, q4⟩ := h
  obtain ⟨es, r1, r2, r3, r4⟩ := h2
  exact ⟨ds ++ es, q1.app r1, by rw [Wt.app]; omega, fun d hd => (List.mem_append.mp hd).elim (q3 d) (r3 d), by rw [List.length_append]; omega⟩
theorem DW.rev (h : DW K H m W k xs) : DW K H m W k xs.reverse := by
  obtain ⟨ds, q1, q2, q3, q4⟩ := h
  exact ⟨ds.reverse, q1.rev, by rw [Wt.rev]; exact q2, fun d hd => q3 d (List.mem_reverse.mp hd), by rw [List.length_reverse]; exact q4⟩
theorem DW.cut {lo hi : Option Int} (h : DW K H m W k xs) : DW K H m W k (cutV xs lo hi) := by
  obtain ⟨ds, q1, q2, q3, q4⟩ := h
  unfold cutV
  refine ⟨_, (q1.drop _).take _, Nat.le_trans (Wt.take _ _) (Nat.le_trans (Wt.drop _ _) q2), fun d hd => q3 d (List.mem_of_mem_drop (List.mem_of_mem_take hd)), ?_⟩
  rw [List.length_take, List.length_drop]
  omega
theorem DW.at {i : Nat} {x : V} (h : DW K H m W k xs) (e : xs[i]? = some x) : ∃ d, Dq K H x d ∧ Shq W k d := by
  obtain ⟨ds, q1, q2, q3, q4⟩ := h
  obtain ⟨d, hd, r⟩ := q1.at e
  have hm := List.mem_of_getElem? hd
  refine ⟨d, r, (q3 d hm).sh, (q3 d hm).dp, ?_⟩
  have : ∀ es : List PyData, d ∈ es → d.shown.length ≤ Wt es := by
    intro es he
    induction es with
    | nil => cases he
    | cons e r ih =>
      rw [Wt.cons]
      rcases List.mem_cons.mp he with z | z
      · rw [z]; omega
      · have := ih z; omega
  exact Nat.le_trans (this ds hm) q2
theorem DW.lst {p : Addr} (h : DW K H m W k xs) (hp : SqL K H p xs) : ∃ d, Dq K H (.ref p) d ∧ Shq (W + 2) (k + 1) d := by
  obtain ⟨ds, q1, q2, q3, q4⟩ := h
  exact ⟨_, .lst hp q1, (Shd.lst q3).up (by omega) (Nat.le_refl _)⟩
theorem DW.tup {p : Addr} (h : DW K H m W k xs) (hp : SqT K H p xs) : ∃ d, Dq K H (.ref p) d ∧ Shq (W + 2) (k + 1) d := by
  obtain ⟨ds, q1, q2, q3, q4⟩ := h
  exact ⟨_, .tup hp q1, (Shd.tup q3).up (by omega) (Nat.le_refl _)⟩
def isS : V → Bool
  | .str _ => true
  | _ => false
theorem Dq.isStr {v : V} {d : PyData} {Q : VK} (h : Dq K H v d) (q : Q (.bl (isS v)) H) : rIs K [v, .ty "str"] H Q := by
  cases h with
  | non => exact x_isN_str.mpr q
  | bl b => exact x_isB_str.mpr q
  | int i => exact x_isI_str.mpr q
  | str s => exact x_is_ib.mpr q
  | lst h _ => exact x_isR.mpr (IsK.lstL h (show kitB _ "str" = some false by decide +kernel) q)
  | tup h _ =>
    rcases h with (h | ⟨o, h⟩) | ⟨o, its, n, h, hc, _⟩
    · exact x_isR.mpr ⟨_, _, .base (.tup h), (show kitB _ "str" = some false by decide +kernel), q⟩
    · exact x_isR.mpr ⟨_, _, .fTuple h, (show kitB _ "str" = some false by decide +kernel), q⟩
    · exact x_isR.mpr ⟨_, _, .kTuple h hc, (show kitB _ "str" = some false by decide +kernel), q⟩
  | dct h _ _ => exact x_isR.mpr (IsK.dK h (show kitB _ "str" = some false by decide +kernel) q)
end
/-! ### dict(pairs), str(n), int(flag) -/
def DctK (K : PySem.W.Frag) (a : Addr) (H : Hp) (G : Addr → Hp → Prop) : Prop := ∃ ps kvs, SqL K H a (List.map V.ref ps) ∧ Paired (fun p (kv : Key × V) => SqT K H p [kV kv.1, kv.2]) ps kvs ∧ NewK (.dK (mergeK [] kvs)) H G
def rDctP (K : PySem.W.Frag) : List V → Hp → VK → Prop := fun xs H Q => ∃ a, xs = [.ref a] ∧ DctK K a H fun p H1 => Q (.ref p) H1
theorem cr_dctP {X : Cx} (hc : X.calm = true) : CallR X (.type "dict") (rDctP X.K) := CallR.as (call_dictP hc) fun _ _ _ ⟨a, e, ps, kvs, h1, h2, q⟩ => ⟨a, ps, kvs, e, h1, h2, q⟩
def rStrI : List V → Hp → VK → Prop := fun xs H Q => ∃ i : Int, xs = [.int i] ∧ i.natAbs.log2 < 1920 ∧ Q (.str (Str.ofString (toString i))) H
theorem cr_strI {X : Cx} : CallR X (.type "str") rStrI := call_str_int
def rIntB : List V → Hp → VK → Prop := fun xs H Q => ∃ k, xs = [.bl k] ∧ Q (.int (if k = true then 1 else 0)) H
theorem cr_intB {X : Cx} : CallR X (.type "int") rIntB := CallR.as call_int1 fun _ _ _ h => Or.inr h
section
variable {K : PySem.W.Frag} {H : Hp} {Q : VK}
theorem x_dctP {a : Addr} : rDctP K [.ref a] H Q ↔ DctK K a H fun p H1 => Q (.ref p) H1 := ⟨fun ⟨_, e, q⟩ => by cases e; exact q, fun q => ⟨a, rfl, q⟩⟩
theorem x_strI {i : Int} : rStrI [.int i] H Q ↔ i.natAbs.log2 < 1920 ∧ Q (.str (Str.ofString (toString i))) H := ⟨fun ⟨_, e, h, q⟩ => by cases e; exact ⟨h, q⟩, fun ⟨h, q⟩ => ⟨i, rfl, h, q⟩⟩
theorem x_intB {k : Bool} : rIntB [.bl k] H Q ↔ Q (.int (if k = true then 1 else 0)) H := ⟨fun ⟨_, e, q⟩ => by cases e; exact q, fun q => ⟨k, rfl, q⟩⟩
end
def KinK (H : Hp) (a : Addr) (y : V) (G : Bool → Prop) : Prop := ∃ o, DGet H a y o ∧ G o.isSome
section
variable {H : Hp} {Q : VK} {σ : L2.St} {ty td : TE}
theorem e_din : tDIn ty td σ H Q ↔ ty σ H fun y H1 => td σ H1 fun x H2 => ∃ a, x = .ref a ∧ KinK H2 a y fun b => Q (.bl b) H2 := ⟨fun h => (iff_of_eq (congrArg (ty σ H) (funext fun y => funext fun H1 => congrArg (td σ H1) (funext fun x => funext fun H2 => propext ⟨fun ⟨a, o, e, d, q⟩ => ⟨a, e, o, d, q⟩, fun ⟨a, e, o, d, q⟩ => ⟨a, o, e, d, q⟩⟩)))).mp h, fun h => (iff_of_eq (congrArg (ty σ H) (funext fun y => funext fun H1 => congrArg (td σ H1) (funext fun x => funext fun H2 => propext ⟨fun ⟨a, o, e, d, q⟩ => ⟨a, e, o, d, q⟩, fun ⟨a, e, o, d, q⟩ => ⟨a, o, e, d, q⟩⟩)))).mpr h⟩
theorem e_dnin : tDNotIn ty td σ H Q ↔ ty σ H fun y H1 => td σ H1 fun x H2 => ∃ a, x = .ref a ∧ KinK H2 a y fun b => Q (.bl !b) H2 := ⟨fun h => (iff_of_eq (congrArg (ty σ H) (funext fun y => funext fun H1 => congrArg (td σ H1) (funext fun x => funext fun H2 => propext ⟨fun ⟨a, o, e, d, q⟩ => ⟨a, e, o, d, q⟩, fun ⟨a, e, o, d, q⟩ => ⟨a, o, e, d, q⟩⟩)))).mp h, fun h => (iff_of_eq (congrArg (ty σ H) (funext fun y => funext fun H1 => congrArg (td σ H1) (funext fun x => funext fun H2 => propext ⟨fun ⟨a, o, e, d, q⟩ => ⟨a, e, o, d, q⟩, fun ⟨a, e, o, d, q⟩ => ⟨a, o, e, d, q⟩⟩)))).mpr h⟩
end
theorem KinK.str {H : Hp} {a : Addr} {s : Str} {kvs : List (Key × V)} {G : Bool → Prop} (h : H a = some (.dK kvs)) (q : G (valV kvs (Sum.inr s)).isSome) : KinK H a (.str s) G := ⟨_, DGet.k (k := Sum.inr s) h, q⟩
end Vg


set_option Elab.async false
set_option linter.all false
set_option maxRecDepth 100000
set_option maxHeartbeats 2000000
namespace Vg
open PySem PySem.Spec PyProof.Rows L2

/-! ### dicts: d[k], d[k] = v, k in d -/
def DGetK (H : Hp) (a : Addr) (y : V) (G : V → Prop) : Prop := ∃ v, DGet H a y (some v) ∧ G v
def DPutK (H : Hp) (a : Addr) (y v : V) (G : Hp → Prop) : Prop := ∃ H4, DPut H a y v H4 ∧ G H4
/-- an entry of the ledger is replaced, wherever it stands -/
def putL (l : List (Addr × HO)) (p : Addr) (o : HO) : List (Addr × HO) := l.map fun e => if e.1 = p then (p, o) else e
section
variable {K : PySem.W.Frag} {B H : Hp} {l l' : List (Addr × HO)} {p : Addr} {o o' : HO} {σ : L2.St} {Q : VK} {D : Ends} {td ty tv tx : TE}
theorem e_dget : tDGet td ty σ H Q = td σ H fun x H1 => ty σ H1 fun y H2 => ∃ a, x = .ref a ∧ DGetK H2 a y fun v => Q v H2 :=
  congrArg (td σ H) (funext fun x => funext fun H1 => congrArg (ty σ H1) (funext fun y => funext fun H2 => propext ⟨fun ⟨a, v, e, h, q⟩ => ⟨a, e, v, h, q⟩, fun ⟨a, e, v, h, q⟩ => ⟨a, v, e, h, q⟩⟩))
theorem e_dget2 : tDGet2 td ty tx σ H Q = td σ H fun x H1 => ∃ a, x = .ref a ∧ IsD H1 a ∧ ty σ H1 fun y H2 => tx σ H2 fun z H3 => ∃ o, DGet H3 a y o ∧ Q (o.getD z) H3 := propext ⟨fun h => h, fun h => h⟩
theorem s_dput : sDPut td ty tv D σ H = tv σ H fun v H1 => td σ H1 fun x H2 => ty σ H2 fun y H3 => ∃ a, x = .ref a ∧ DPutK H3 a y v fun H4 => D.nx σ H4 :=
  congrArg (tv σ H) (funext fun v => funext fun H1 => congrArg (td σ H1) (funext fun x => funext fun H2 => congrArg (ty σ H2) (funext fun y => funext fun H3 => propext ⟨fun ⟨a, H4, e, h, q⟩ => ⟨a, e, H4, h, q⟩, fun ⟨a, e, H4, h, q⟩ => ⟨a, H4, e, h, q⟩⟩)))
theorem e_dnT : tDNewT σ H Q = NewK (.dT []) H fun p H2 => Q (.ref p) H2 := propext ⟨fun h => h, fun h => h⟩
theorem putL_not (h : p ∉ l.map (·.1)) : putL l p o = l := by
  induction l with
  | nil => rfl
  | cons e r ih =>
    rw [List.map_cons, List.mem_cons, not_or] at h
    show (if e.1 = p then (p, o) else e) :: putL r p o = _
    rw [ih h.2, if_neg fun z => h.1 z.symm]
theorem putL_app (a b : List (Addr × HO)) : putL (a ++ b) p o = putL a p o ++ putL b p o := List.map_append
theorem putL_cons (e : Addr × HO) (b : List (Addr × HO)) : putL (e :: b) p o = (if e.1 = p then (p, o) else e) :: putL b p o := rfl
theorem putL_put (nd : (l.map (·.1)).Nodup) (h : (p, o) ∈ l) : Put l p o' (putL l p o') := by
  induction l with
  | nil => cases h
  | cons e r ih =>
    rw [List.map_cons] at nd
    obtain ⟨n1, n2⟩ := List.nodup_cons.mp nd
    rw [putL_cons]
    rcases List.mem_cons.mp h with z | z
    · rw [← z]
      dsimp only
      rw [if_pos rfl, putL_not (by rw [← z] at n1; exact n1)]
      exact .hd
    · rw [if_neg fun c => n1 (by rw [c]; exact List.mem_map_of_mem (f := (·.1)) z)]
      exact .tl (ih n2 z)
theorem putL_same (nd : (l.map (·.1)).Nodup) (h : (p, o) ∈ l) : putL l p o = l := by
  induction l with
  | nil => rfl
  | cons e r ih =>
    rw [List.map_cons] at nd
    obtain ⟨n1, n2⟩ := List.nodup_cons.mp nd
    rw [putL_cons]
    rcases List.mem_cons.mp h with z | z
    · rw [← z]
      dsimp only
      rw [if_pos rfl, putL_not (by rw [← z] at n1; exact n1)]
    · rw [if_neg fun c => n1 (by rw [c]; exact List.mem_map_of_mem (f := (·.1)) z), ih n2 z]
theorem Led.putL (L : Led B H l) (h : (p, o) ∈ l) : Led B (upd H p o') (putL l p o') := L.put (putL_put L.nd h)
theorem StK.ofM {C dx : Addr} {fs fs' : List (Str × V)} {f : Str} {v : V} {G : Hp → Prop} (L : Led B H l) (m : (p, HO.ins C dx fs) ∈ l) (c : Cls K C) (n : NoAttr K C f) (e : putF f v fs = fs') (k : ∀ H1, Led B H1 (Vg.putL l p (.ins C dx fs')) → G H1) (h : fs.length < 1000 := by first | decide | (simp only [List.length_cons, List.length_nil]; decide) | omega) : StK K p f v H G :=
  ⟨C, dx, fs, L.at m, c, n, h, by rw [e]; exact k _ (L.putL m)⟩
theorem DGetK.k {k : Key} {v : V} {kvs : List (Key × V)} {G : V → Prop} (L : Led B H l) (m : (p, HO.dK kvs) ∈ l) (e : valV kvs k = some v) (q : G v) : DGetK H p (kV k) G := ⟨v, by rw [← e]; exact DGet.k (L.at m), q⟩
theorem DGetK.s {k : Str} {v : V} {kvs : List (Key × V)} {G : V → Prop} (L : Led B H l) (m : (p, HO.dK kvs) ∈ l) (e : valV kvs (.inr k) = some v) (q : G v) : DGetK H p (.str k) G := DGetK.k (k := .inr k) L m e q
theorem DGetK.t {b : Addr} {k : List Key} {v : V} {kvs : List (List Key × V)} {G : V → Prop} (L : Led B H l) (m : (p, HO.dT kvs) ∈ l) (hb : H b = some (.tup (k.map kV))) (e : valV kvs k = some v) (q : G v) : DGetK H p (.ref b) G := ⟨v, by rw [← e]; exact DGet.t (L.at m) hb, q⟩
theorem DPutK.k {k : Key} {v : V} {kvs : List (Key × V)} {G : Hp → Prop} (L : Led B H l) (m : (p, HO.dK kvs) ∈ l) (hl : kvs.length < sizeLine) (t : Put l p (.dK (putK kvs k v)) l') (q : ∀ H1, Led B H1 l' → G H1) : DPutK H p (kV k) v G := ⟨_, DPut.k (L.at m) hl, q _ (L.put t)⟩
theorem DPutK.t {b : Addr} {k : List Key} {v : V} {kvs : List (List Key × V)} {G : Hp → Prop} (L : Led B H l) (m : (p, HO.dT kvs) ∈ l) (hb : H b = some (.tup (k.map kV))) (hl : kvs.length < sizeLine) (t : Put l p (.dT (putK kvs k v)) l') (q : ∀ H1, Led B H1 l' → G H1) : DPutK H p (.ref b) v G := ⟨_, DPut.t (L.at m) hb hl, q _ (L.put t)⟩
theorem KinK.t {b : Addr} {k : List Key} {kvs : List (List Key × V)} {G : Bool → Prop} (L : Led B H l) (m : (p, HO.dT kvs) ∈ l) (hb : H b = some (.tup (k.map kV))) (q : G (valV kvs k).isSome) : KinK H p (.ref b) G := ⟨_, DGet.t (L.at m) hb, q⟩
/-- an entry of the ledger goes to the base -/
theorem Led.sinkM (L : Led B H l) (h : Pick l (p, o) l') : ∃ B', Same B B' ∧ B' p = some o ∧ Led B' H l' := (L.sel (.cons h .all)).sink
end
/-! ### a display of pairs -/
def DoneK (p : Addr) (ps : List (V × V)) (H : Hp) (G : Hp → Prop) : Prop := H p = some (.dK []) ∧ ∃ kvs : List (Key × V), ps = kvs.map (fun kv => (kV kv.1, kv.2)) ∧ kvs.length ≤ 15 ∧ G (upd H p (.dK (mergeK [] kvs)))
section
variable {B H : Hp} {l l' : List (Addr × HO)} {p : Addr} {σ : L2.St} {Q : VK} {trs : List (TE × TE)} {PQ : List (V × V) → Hp → Prop} {tk tv : TE}
theorem e_disp : tDisp trs σ H Q = NewK (.dK []) H fun p H1 => tPairs trs σ H1 fun ps H2 => DoneK p ps H2 fun H3 => Q (.ref p) H3 := propext ⟨fun h => h, fun h => h⟩
theorem tp_nil : tPairs [] σ H PQ = PQ [] H := propext ⟨fun h => h, fun h => h⟩
theorem tp_cons : tPairs ((tk, tv) :: trs) σ H PQ = tk σ H fun x H1 => tv σ H1 fun y H2 => tPairs trs σ H2 fun ps H3 => PQ ((x, y) :: ps) H3 := propext ⟨fun h => h, fun h => h⟩
theorem DoneK.of {ps : List (V × V)} {G : Hp → Prop} (kvs : List (Key × V)) (L : Led B H l) (m : (p, HO.dK []) ∈ l) (e : ps = kvs.map (fun kv => (kV kv.1, kv.2))) (h15 : kvs.length ≤ 15) (t : Put l p (.dK (mergeK [] kvs)) l') (k : ∀ H1, Led B H1 l' → G H1) : DoneK p ps H G :=
  ⟨L.at m, kvs, e, h15, k _ (L.put t)⟩
theorem Led.perm (L : Led B H l) (h : l.Perm l') : Led B H l' := ⟨L.sm, (h.map (·.1)).nodup_iff.mp L.nd, fun e he => L.fr e (h.mem_iff.mpr he), fun e he => L.hs e (h.mem_iff.mpr he)⟩
end
/-! ### sorted of pairs of ints -/
def SrtPK (K : PySem.W.Frag) (a : Addr) (H : Hp) (G : Addr → Hp → Prop) : Prop := ∃ xs, SqL K H a xs ∧ (∀ x ∈ xs, ∃ t i j, x = V.ref t ∧ H t = some (.tup [.int i, .int j])) ∧ ∀ ys : List V, ys.Perm xs → NewK (.lst ys) H G
theorem x_sortedP {K : PySem.W.Frag} {a : Addr} {H : Hp} {Q : VK} : rSortedP K [.ref a] H Q ↔ SrtPK K a H fun p H1 => Q (.ref p) H1 :=
  ⟨fun ⟨_, xs, e, h1, h2, q⟩ => by cases e; exact ⟨xs, h1, h2, fun ys hp p hn => q ys p hp hn⟩, fun ⟨xs, h1, h2, q⟩ => ⟨a, xs, rfl, h1, h2, fun ys p hp hn => q ys hp p hn⟩⟩
/-! ### zip in a comprehension -/
section
variable {K : PySem.W.Frag} {g : TG} {D : Ends} {σ : L2.St} {H : Hp} {a b : Addr} {xs ys : List V} {tt : TT} {te : TE} {vs : List Nat} {Q : VK}
theorem i_zip {al : TA} {R : It → Hp → Prop} : iZip K al σ H R = al σ H fun vs H1 => ∃ a b xs ys, vs = [.ref a, .ref b] ∧ SqL K H1 a xs ∧ SqL K H1 b ys ∧ R (Itz K a b) H1 := propext ⟨fun h => h, fun h => h⟩
theorem comp_zip (hl : xs.length = ys.length) (R : Nat → Addr → List V → Hp → Prop) (h0 : ∀ p, H p = none → R 0 p [] (upd H p (.lst []))) (hq : ∀ i p acc H', R i p acc H' → SqL K H' a xs ∧ SqL K H' b ys)
    (hn : ∀ p acc H', R xs.length p acc H' → Q (.ref p) H')
    (hs : ∀ i p acc H' x y (N : Hp → Prop), xs[i]? = some x → ys[i]? = some y → R i p acc H' → (∀ acc H3, R (i + 1) p acc H3 → N H3) → NewK (.tup [x, y]) H' fun t H2 => TurnK g tt te vs σ p N (.ref t) H2) : LcK (Itz K a b) g tt te vs σ H Q := by
  refine comp_gen xs.length R h0 (fun p acc H' r => ⟨?_, hn p acc H' r⟩) fun i p acc H' hi r => ?_
  · obtain ⟨q1, q2⟩ := hq _ _ _ _ r
    exact ⟨xs, ys, q1, q2, Or.inl (Nat.le_refl _)⟩
  · obtain ⟨q1, q2⟩ := hq _ _ _ _ r
    have hi2 : i < ys.length := by omega
    refine ⟨⟨xs, ys, _, _, q1, q2, List.getElem?_eq_getElem hi, List.getElem?_eq_getElem hi2⟩, ?_⟩
    rintro v H2 ⟨T, x, y, rfl, hT, rfl, f1, f2⟩
    exact hs i p acc _ x y _ (f1 xs q1) (f2 ys q2) r (fun acc H3 z => ⟨acc, z⟩) T hT
end
end Vg


set_option Elab.async false
set_option linter.all false
set_option maxRecDepth 100000
set_option maxHeartbeats 2000000
namespace Vg
open PySem PySem.Spec PyProof.Rows L2

/-! ### texts: join, split, isdigit, isascii, int, s[i], s * n -/
def rJoinS (K : PySem.W.Frag) : V → List V → Hp → VK → Prop := fun x xs H Q => ∃ a p, ∃ ys : List Str, x = .str a ∧ xs = [.ref p] ∧ (SqL K H p (ys.map V.str) ∨ SqT K H p (ys.map V.str)) ∧ (ys.map (·.length)).sum + ys.length * a.length ≤ 16777216 ∧ Q (.str (Txt.join a ys)) H
def JoinK (K : PySem.W.Frag) (a : Str) (p : Addr) (H : Hp) (G : Str → Prop) : Prop := ∃ ys : List Str, (SqL K H p (ys.map V.str) ∨ SqT K H p (ys.map V.str)) ∧ (ys.map (·.length)).sum + ys.length * a.length ≤ 16777216 ∧ G (Txt.join a ys)
def rSplitS : V → List V → Hp → VK → Prop := fun x xs H Q => ∃ a b, x = .str a ∧ xs = [.str b] ∧ (b.length == 0) = false ∧ a.length + 2 ≤ sizeLine ∧ rNewStrs (Txt.split a b) H Q
def SplitK (a b : Str) (H : Hp) (G : Addr → Hp → Prop) : Prop := (b.length == 0) = false ∧ a.length + 2 ≤ sizeLine ∧ NewK (.lst ((Txt.split a b).map V.str)) H G
def rAsciiS : V → List V → Hp → VK → Prop := fun x xs H Q => ∃ a, x = .str a ∧ xs = [] ∧ True ∧ Q (.bl (Txt.isascii a)) H
def rDigitS : V → List V → Hp → VK → Prop := fun x xs H Q => ∃ a, x = .str a ∧ xs = [] ∧ True ∧ Q (.bl (Txt.isdigit a)) H
def rIntS : List V → Hp → VK → Prop := fun xs H Q => ∃ a n, xs = [.str a] ∧ PySem.intText? a = some n ∧ a.length ≤ 640 ∧ Q (.int n) H
def IntSK (a : Str) (G : Int → Prop) : Prop := ∃ n, PySem.intText? a = some n ∧ a.length ≤ 640 ∧ G n
def rLenS : List V → Hp → VK → Prop := fun xs H Q => ∃ z : Str, xs = [.str z] ∧ z.length ≤ sizeLine ∧ Q (.int z.length) H
def rMulS : R2 := fun x y H Q => ∃ a n, x = .str a ∧ y = .int n ∧ MulOk a n ∧ Q (.str (Txt.mul a n)) H
def IxSK (z : Str) (i : Int) (G : V → Prop) : Prop := z.length ≤ sizeLine ∧ ∃ c, atI z.cps.toList i = some c ∧ G (.str ⟨#[c]⟩)
section
variable {X : Cx} {K : PySem.W.Frag} {H : Hp} {Q : VK} {a b : Str} {p : Addr} {i : Int}
theorem mt_joinS : MtR X "str.join" (rJoinS X.K) := mt_join
theorem mt_splitS : MtR X "str.split" rSplitS := mt_split
theorem mt_asciiS : MtR X "str.isascii" rAsciiS := mt_isascii
theorem mt_digitS : MtR X "str.isdigit" rDigitS := mt_isdigit
theorem cr_intS : CallR X (.type "int") rIntS := call_int_str
theorem cr_lenS : CallR X (.builtin "len") rLenS := call_len_str
theorem op_mulS : OpR X (binaryOp .Mult) rMulS := by
  intro pins s σ H x y v u Q I rx ry h
  obtain ⟨a, n, rfl, rfl, hok, q⟩ := h
  obtain ⟨t, rfl⟩ := rx
  obtain ⟨t', rfl⟩ := ry
  exact SB.mul hok fun t2 k => ⟨.str (Txt.mul a n), H, I.tok _, ⟨t2, rfl⟩, q⟩
theorem x_joinS : rJoinS K (.str a) [.ref p] H Q ↔ JoinK K a p H fun t => Q (.str t) H := ⟨fun ⟨_, _, ys, e1, e2, h1, h2, q⟩ => by cases e1; cases e2; exact ⟨ys, h1, h2, q⟩, fun ⟨ys, h1, h2, q⟩ => ⟨a, p, ys, rfl, rfl, h1, h2, q⟩⟩
theorem x_splitS : rSplitS (.str a) [.str b] H Q ↔ SplitK a b H fun p H1 => Q (.ref p) H1 := ⟨fun ⟨_, _, e1, e2, h1, h2, q⟩ => by cases e1; cases e2; exact ⟨h1, h2, q⟩, fun ⟨h1, h2, q⟩ => ⟨a, b, rfl, rfl, h1, h2, q⟩⟩
theorem x_asciiS : rAsciiS (.str a) [] H Q ↔ Q (.bl (Txt.isascii a)) H := ⟨fun ⟨_, e, _, _, q⟩ => by cases e; exact q, fun q => ⟨a, rfl, rfl, trivial, q⟩⟩
theorem x_digitS : rDigitS (.str a) [] H Q ↔ Q (.bl (Txt.isdigit a)) H := ⟨fun ⟨_, e, _, _, q⟩ => by cases e; exact q, fun q => ⟨a, rfl, rfl, trivial, q⟩⟩
theorem x_intS : rIntS [.str a] H Q ↔ IntSK a fun n => Q (.int n) H := ⟨fun ⟨_, n, e, h1, h2, q⟩ => by cases e; exact ⟨n, h1, h2, q⟩, fun ⟨n, h1, h2, q⟩ => ⟨a, n, rfl, h1, h2, q⟩⟩
theorem x_lenS : rLenS [.str a] H Q ↔ a.length ≤ sizeLine ∧ Q (.int a.length) H := ⟨fun ⟨_, e, h, q⟩ => by cases e; exact ⟨h, q⟩, fun ⟨h, q⟩ => ⟨a, rfl, h, q⟩⟩
theorem x_mulS : rMulS (.str a) (.int i) H Q ↔ MulOk a i ∧ Q (.str (Txt.mul a i)) H := ⟨fun ⟨_, _, e1, e2, h, q⟩ => by cases e1; cases e2; exact ⟨h, q⟩, fun ⟨h, q⟩ => ⟨a, i, rfl, rfl, h, q⟩⟩
theorem x_ixS : rIxS (.str a) (.int i) H Q ↔ IxSK a i fun v => Q v H := ⟨fun ⟨_, _, c, e1, e2, h1, h2, q⟩ => by cases e1; cases e2; exact ⟨h1, c, h2, q⟩, fun ⟨h1, c, h2, q⟩ => ⟨a, i, c, rfl, rfl, h1, h2, q⟩⟩
theorem ty_S : tyV K "str" (.str a) H ↔ True := iff_true_intro rfl
end
/-! ### numbers as texts -/
def nT (n : Nat) : Str := Str.ofString (toString (n : Int))
def txt (sep : Str) (ms : List Nat) : Str := Txt.join sep (ms.map nT)
theorem nT_tl (n : Nat) : TL.tl (nT n) = TL.numL n := TL.tl_num n
theorem nT_len {n k : Nat} (hk : 0 < k) (h : n < 10 ^ k) : (nT n).length ≤ k := by
  rw [TL.len_tl, nT_tl]
  exact TL.numL_len hk h
theorem nT_int {n : Nat} (h : n < 10 ^ 600) : intText? (nT n) = some (n : Int) := TL.int_num (Nat.le_trans (TL.numL_len (by decide) h) (by decide))
theorem nT_digits (n : Nat) : ∀ c ∈ TL.tl (nT n), 48 ≤ c ∧ c ≤ 57 := fun c hc => by
  rw [nT_tl] at hc
  exact TL.numL_digits n c hc
theorem nT_ne (n : Nat) : TL.tl (nT n) ≠ [] := by rw [nT_tl]; exact TL.numL_ne n
/-- the first sign is 0 only in 0 itself -/
theorem nT_head (n : Nat) : (TL.numL n).head? = some 48 → n = 0 := by
  induction n using Nat.strongRecOn with
  | _ n ih =>
    intro h
    by_cases c : n < 10
    · rw [TL.numL_lt c] at h
      simp only [List.head?_cons, Option.some.injEq] at h
      omega
    · rw [TL.numL_step (by omega)] at h
      have hne := TL.numL_ne (n / 10)
      cases hq : TL.numL (n / 10) with
      | nil => exact absurd hq hne
      | cons d r =>
        rw [hq] at h
        have : n / 10 = 0 := ih (n / 10) (by omega) (by rw [hq]; exact h)
        omega
theorem isdigit_nT (n : Nat) : Txt.isdigit (nT n) = true := by
  unfold Txt.isdigit
  rw [Bool.and_eq_true]
  constructor
  · rw [decide_eq_true_eq]
    have := nT_ne n
    rw [TL.len_tl]
    exact List.length_pos_iff.mpr this
  · rw [← Array.all_toList, List.all_eq_true]
    intro c hc
    have h := nT_digits n c hc
    have : ∀ c, 48 ≤ c → c ≤ 57 → Unicode.isDigit c = true := by
      intro c h1 h2
      obtain rfl | rfl | rfl | rfl | rfl | rfl | rfl | rfl | rfl | rfl : c = 48 ∨ c = 49 ∨ c = 50 ∨ c = 51 ∨ c = 52 ∨ c = 53 ∨ c = 54 ∨ c = 55 ∨ c = 56 ∨ c = 57 := by omega
      all_goals decide +kernel
    exact this c h.1 h.2
theorem isascii_nT (n : Nat) : Txt.isascii (nT n) = true := by
  unfold Txt.isascii
  rw [← Array.all_toList, List.all_eq_true]
  intro c hc
  have h := nT_digits n c hc
  exact decide_eq_true (by omega)
theorem txt_split {sep : Str} {s : Nat} (es : TL.tl sep = [s]) (hs : s < 48) (hk : sep.cps.all (· < 256) = true) {ms : List Nat} (hne : ms ≠ []) : Txt.split (txt sep ms) sep = ms.map nT :=
  TL.split_join es hk (fun e => hne (List.map_eq_nil_iff.mp e)) fun p hp => by
    obtain ⟨n, _, rfl⟩ := List.mem_map.mp hp
    exact fun z => by have := nT_digits n s z; omega
theorem joinL_mem {y : List Nat} {c : Nat} : ∀ {parts : List (List Nat)}, c ∈ TL.joinL y parts → c ∈ y ∨ ∃ p ∈ parts, c ∈ p
  | [], h => by cases h
  | [p], h => Or.inr ⟨p, List.mem_singleton.mpr rfl, h⟩
  | p :: q :: r, h => by
    rcases List.mem_append.mp (show c ∈ p ++ (y ++ TL.joinL y (q :: r)) from h) with z | z
    · exact Or.inr ⟨p, List.mem_cons_self, z⟩
    · rcases List.mem_append.mp z with z | z
      · exact Or.inl z
      · rcases joinL_mem z with z | ⟨p2, h1, h2⟩
        · exact Or.inl z
        · exact Or.inr ⟨p2, List.mem_cons_of_mem _ h1, h2⟩
theorem joinL_len {y : List Nat} {k : Nat} : ∀ {parts : List (List Nat)}, (∀ p ∈ parts, p.length ≤ k) → (TL.joinL y parts).length ≤ parts.length * (k + y.length)
  | [], _ => Nat.zero_le _
  | [p], h => by
    have := h p (List.mem_singleton.mpr rfl)
    show p.length ≤ 1 * _
    omega
  | p :: q :: r, h => by
    have h1 := h p List.mem_cons_self
    have ih := joinL_len (y := y) (parts := q :: r) fun z hz => h z (List.mem_cons_of_mem _ hz)
    show (p ++ (y ++ TL.joinL y (q :: r))).length ≤ ((q :: r).length + 1) * _
    rw [List.length_append, List.length_append, Nat.succ_mul]
    omega
theorem txt_tl (sep : Str) (ms : List Nat) : TL.tl (txt sep ms) = TL.joinL (TL.tl sep) (ms.map fun n => TL.numL n) := by
  unfold txt
  rw [TL.join_eq, TL.tl_join, List.map_map]
  congr 1
  exact List.map_congr_left fun n _ => nT_tl n
theorem txt_len {sep : Str} {ms : List Nat} {k : Nat} (hk : 0 < k) (h : ∀ m ∈ ms, m < 10 ^ k) : (txt sep ms).length ≤ ms.length * (k + sep.length) := by
  rw [TL.len_tl, txt_tl, TL.len_tl sep]
  have := joinL_len (y := TL.tl sep) (k := k) (parts := ms.map fun n => TL.numL n) fun p hp => by
    obtain ⟨n, hn, rfl⟩ := List.mem_map.mp hp
    exact TL.numL_len hk (h n hn)
  rw [List.length_map] at this
  exact this
theorem txt_cps {sep : Str} {ms : List Nat} (hs : ∀ c ∈ TL.tl sep, c < 16 ^ 8) : ∀ c ∈ (txt sep ms).cps.toList, c < 16 ^ 8 := fun c hc => by
  have hc : c ∈ TL.tl (txt sep ms) := hc
  rw [txt_tl] at hc
  rcases joinL_mem hc with z | ⟨p, hp, z⟩
  · exact hs c z
  · obtain ⟨n, _, rfl⟩ := List.mem_map.mp hp
    have := TL.numL_digits n c z
    have e : (16 : Nat) ^ 8 = 4294967296 := by decide
    omega
end Vg


set_option Elab.async false
set_option linter.all false
set_option maxRecDepth 100000
set_option maxHeartbeats 2000000
namespace Vg
open PySem PySem.Spec PyProof.Rows L2

theorem Led.subl {B H : Hp} {l l' : List (Addr × HO)} (L : Led B H l) (h : l'.Sublist l) : Led B H l' := ⟨L.sm, L.nd.sublist (h.map _), fun e he => L.fr e (h.subset he), fun e he => L.hs e (h.subset he)⟩
/-! ### a program's def by the plain promise; a law's def that calls it -/
theorem Fg.of {P : Program} {w : World} {K : PySem.W.Frag} {mg : Str → Option Value} {bs : Heap} {C : CXT} {n : Nat} {f : Addr} {fd : FuncData} {ps : List Str} {sp : Sp} (F : FnOk P w K mg bs C n f fd ps sp) : Fg P w K mg bs C n f fd ps sp :=
  ⟨F.len, fun A fr s H gs us vs Q E _ r e b v q => F.run A fr s H gs us vs Q E r e b v q⟩
section
variable {σ : L2.St} {H : Hp} {Q : VK} {sp : Sp} {dvs : List V} {E : XK} {t : TA} {ta : TE} {C : Addr} {m : Str}
theorem e_call : tCall sp dvs E t σ H Q = t σ H fun vs H1 => sp (vs ++ dvs) H1 Q E := propext ⟨fun h => h, fun h => h⟩
theorem e_meth : tMeth C m sp dvs E ta t σ H Q ↔ ta σ H fun x H1 => ∃ a, x = .ref a ∧ MtK a C m H1 (t σ H1 fun vs H2 => sp (x :: (vs ++ dvs)) H2 Q E) :=
  Iff.of_eq (congrArg (ta σ H) (funext fun x => funext fun H1 => propext ⟨fun ⟨a, dx, fs, e, r1, r2, r3⟩ => ⟨a, e, dx, fs, r1, r2, r3⟩, fun ⟨a, e, dx, fs, r1, r2, r3⟩ => ⟨a, dx, fs, e, r1, r2, r3⟩⟩))
theorem e_methR : tMethR C m sp E ta t σ H Q ↔ ta σ H fun x H1 => ∃ a, x = .ref a ∧ MtK a C m H1 (t σ H1 fun vs H2 => sp (x :: vs) H2 Q E) :=
  Iff.of_eq (congrArg (ta σ H) (funext fun x => funext fun H1 => propext ⟨fun ⟨a, dx, fs, e, r1, r2, r3⟩ => ⟨a, e, dx, fs, r1, r2, r3⟩, fun ⟨a, e, dx, fs, r1, r2, r3⟩ => ⟨a, dx, fs, e, r1, r2, r3⟩⟩))
theorem e_make : tMake C sp dvs E t σ H Q = t σ H fun vs H1 => MkK C H1 fun x H2 => sp (.ref x :: (vs ++ dvs)) H2 (fun v H3 => v = .non ∧ Q (.ref x) H3) E := propext ⟨fun h => h, fun h => h⟩
/-- o.f, a property -/
def PropK (a C : Addr) (H : Hp) (G : Prop) : Prop := ∃ dx fs, H a = some (.ins C dx fs) ∧ G
theorem e_prop : tProp C sp dvs E ta σ H Q ↔ ta σ H fun x H1 => ∃ a, x = .ref a ∧ PropK a C H1 (sp (.ref a :: dvs) H1 Q E) :=
  Iff.of_eq (congrArg (ta σ H) (funext fun x => funext fun H1 => propext ⟨fun ⟨a, dx, fs, e, r1, r2⟩ => ⟨a, e, dx, fs, r1, r2⟩, fun ⟨a, e, dx, fs, r1, r2⟩ => ⟨a, dx, fs, e, r1, r2⟩⟩))
theorem PropK.of {B : Hp} {l : List (Addr × HO)} {a dx : Addr} {fs : List (Str × V)} {G : Prop} (L : Led B H l) (h : (a, HO.ins C dx fs) ∈ l) (k : G) : PropK a C H G := ⟨dx, fs, L.at h, k⟩
end
/-- a def with *args, called: the first n are named, what is left over is a new tuple -/
def starSp (n : Nat) (sp : Sp) : Sp := fun vs H Q E => ∃ ws rest, vs = ws ++ rest ∧ ws.length = n ∧ rest.length ≤ sizeLine ∧ ∀ p, H p = none → sp (ws ++ [V.ref p]) (upd H p (.tup rest)) Q E
theorem starSp.of {n : Nat} {sp : Sp} {H : Hp} {Q : VK} {E : XK} (ws rest : List V) (h1 : ws.length = n) (h2 : rest.length ≤ sizeLine) (h : NewK (.tup rest) H fun p H1 => sp (ws ++ [V.ref p]) H1 Q E) : starSp n sp (ws ++ rest) H Q E := ⟨ws, rest, rfl, h1, h2, h⟩
theorem nox_of {X : Cx} {b : List Stmt} {D : Ends} {σ : L2.St} {H : Hp} (h : ∃ t, PSs X.nox b t ∧ t D σ H) : ∃ t, PSs X b t ∧ t D σ H := by
  obtain ⟨t, h1, h2⟩ := h
  exact ⟨t, h1.nox, h2⟩
/-- list(x) -/
def ListOfK (K : PySem.W.Frag) (p : Addr) (H : Hp) (G : Addr → Hp → Prop) : Prop := ∃ xs, (SqL K H p xs ∨ SqT K H p xs) ∧ NewK (.lst xs) H G
def rListOf (K : PySem.W.Frag) : List V → Hp → VK → Prop := fun xs H Q => ∃ p, xs = [.ref p] ∧ ListOfK K p H fun l H1 => Q (.ref l) H1
theorem cr_listOf {X : Cx} : CallR X (.type "list") (rListOf X.K) := CallR.as call_list_of fun _ _ _ ⟨p, e, ys, h, q⟩ => ⟨p, ys, e, h, q⟩
theorem x_listOf {K : PySem.W.Frag} {p : Addr} {H : Hp} {Q : VK} : rListOf K [.ref p] H Q ↔ ListOfK K p H fun l H1 => Q (.ref l) H1 := ⟨fun ⟨_, e, q⟩ => by cases e; exact q, fun q => ⟨p, rfl, q⟩⟩
/-! ### len(o), o of an own class with __len__ -/
def rLenO (C : Addr) (sp : Sp) : List V → Hp → VK → Prop := fun xs H Q => ∃ a, xs = [.ref a] ∧ PropK a C H (sp [.ref a] H (fun v H' => ∃ n : Nat, v = .int (n : Int) ∧ n < 2 ^ 62 ∧ Q (.int (n : Int)) H') E0)
theorem cr_lenO {X : Cx} {k : Nat} {C f : Addr} {fd : FuncData} {sp : Sp} (F : FnOk X.prog X.w X.K X.mg X.base CX0 k f fd ["self"] sp) (hr : Room (k + 1) X.A) (hb : Binds X.K fd ["self"] [])
    (hf : PySem.W.findIn X.K (.ref C) "__len__" = some (some (.ref f))) (ht : PySem.W.typeIn X.K (.ref f) = some (.type "function")) : CallR X (.builtin "len") (rLenO C sp) := by
  intro pins s σ H xs us Q I rv h
  obtain ⟨a, rfl, dx, fs, ha, hsp⟩ := h
  obtain ⟨u, rfl, ru⟩ := vals1 rv
  obtain rfl : u = Value.ref a := ru
  obtain ⟨mA, O, _⟩ := ins_get I.hok ha
  obtain ⟨od, J, _⟩ := O.look
  have sp1 : PySem.W.Looks (model X.prog X.w) s.heap (specialOf (.ref a) "__len__") (some (.ref f)) := J.type.andThen (PySem.W.looks_findIn I.kIn hf)
  refine Calls.call_function_entry kind_len plain_len entry_len (args_len1 _) ?_
  unfold Builtin.«len»
  refine wpAny_bind (m := oneArg "len" _) (wpAny_pure ?_)
  refine wpAny_bind (m := callSpecial? (.ref a) (PySem.Str.ofString "__len__")) ?_
  unfold callSpecial?
  refine wpAny_bind (sp1.here ?_)
  refine wpAny_holding (wpAny_bind ((PySem.W.bind_fn I.kIn (.ref a) ht).here (wpAny_bind ?_)))
  have hl : [Value.ref a].length = (["self"] : List Str).length := rfl
  have e1 := I.env0.in1
  refine wpAny_call (codeAny_mono (F.run X.A.in1 X.stack s H ⟨[.ref a], []⟩ [.ref a] [.ref a] _ E0 hr.in1 e1 (by simpa using hb s [.ref a] I.kIn (by simpa using hl)) (.cons rfl .nil) hsp) fun r s' hq => ?_)
  cases r with
  | error er => exact False.elim hq
  | ok fl =>
    cases fl with
    | ret w =>
      obtain ⟨z, H', I', rz, n, ez, hn, q⟩ := I.after hq
      subst ez
      obtain ⟨t, rfl⟩ := rz
      refine wpAny_pure ?_
      refine wpAny_bind (wpAny_holding (wpAny_pure ?_))
      refine wpAny_bind (wpAny_letGo ?_)
      show wpAny _ _ (if ((n : Nat) : Int) < 0 then _ else _) _ _ _
      rw [if_neg (by omega)]
      show wpAny _ _ (if ((n : Nat) : Int) ≥ 2 ^ 63 then _ else _) _ _ _
      rw [if_neg (by omega)]
      exact wpAny_bind (wpAny_mkInt (wpAny_pure ⟨_, rfl, ⟨.int (n : Int), H', I'.tok _, ⟨_, rfl⟩, q⟩⟩))
    | next => exact False.elim hq
    | brk => exact False.elim hq
    | cont => exact False.elim hq
theorem x_lenO {C a : Addr} {sp : Sp} {H : Hp} {Q : VK} : rLenO C sp [.ref a] H Q ↔ PropK a C H (sp [.ref a] H (fun v H' => ∃ n : Nat, v = .int (n : Int) ∧ n < 2 ^ 62 ∧ Q (.int (n : Int)) H') E0) := ⟨fun ⟨_, e, q⟩ => by cases e; exact q, fun q => ⟨a, rfl, q⟩⟩
end Vg


set_option Elab.async false
set_option linter.all false
set_option maxRecDepth 100000
set_option maxHeartbeats 2000000
namespace Vg
open PySem PySem.Spec PyProof.Rows L2

/-! ### what a call lets out -/
theorem passT {X : Cx} {W : WX} {E : XK} (tk : Takes X W) (h : ∀ cls d σ H, E cls d H → W cls d σ H) : Passes (L2.CX X.prog X.w) X E := fun _ σ _ _ _ _ I c => tk _ _ (XE.of_call I (fun cls d H' z => h cls d σ H' z) c)
theorem passLA {X : Cx} {σ : L2.St} : PassesAt (L2.CX X.prog X.w) X σ E0 := fun _ _ _ _ _ _ c => by
  obtain ⟨_, _, _, _, _, _, _, _, _, _, _, _, z⟩ := c
  exact z.elim
/-- o.m() by a positional promise -/
theorem pe_methR0 {X : Cx} {CX : CXT} {k : Nat} {C f : Addr} {m : Str} {sp : Sp} {E : XK} {o : Expr} {ta : TE} {apos pos : Pos} {pl : Sem Bool} (ho : PE X o ta) (c : Cls X.K C) (hm : Meth X.K C m f)
    (F : FnR X.prog X.w X.K X.mg X.base CX k f sp) (r : Room k X.A) (hx : Passes CX X E)
    (ht : eval (.Call (.Attribute o m apos) [] [] pos) X.env = (do
      let ov ← eval o X.env
      standAt apos.atName
      let (f, first) ← holding [ov] (getMethod ov m pl)
      callWith pos f first (backTo pos (starEach [] X.env)) (backToKw pos (keywordEach [] X.env))) := by rfl) :
    PE X (.Call (.Attribute o m apos) [] [] pos) (tMethR C m sp E ta tNil) := by
  refine ⟨fun pins s σ H Q I h => ?_⟩
  refine PySem.W.methodCall_KW (pl := pl) (thn (ho.run pins s σ H _ I h) ?_) ht
  rintro u s1 ⟨y, H1, J, ry, a, dx, fs, ey, ea, l, q⟩
  subst ey
  obtain rfl : u = Value.ref a := ry
  exact getmeth_ok J ea c hm l (PySem.W.callWith_K0 (first := [.ref a]) J.kIn hm.kp (wpAny_call (run_fnR (us := [.ref a]) (vs := [.ref a]) F r hx J (.cons rfl .nil) q)))
/-! ### caught -/
theorem wAs.of {K : PySem.W.Frag} {C c : Addr} {i : Nat} {ts : Addr → Value → Option Addr → TS} {Wout : WX} {D : Ends} {dd : Option Addr} {σ : L2.St} {H : Hp} (e : PySem.W.exmOne K (.ref C) (.ref c) = some true)
    (h : ∀ a, H a = none → ts a (.ref C) dd { nx := fun σ' H' => D.nx (σ'.set i none) H', rt := D.rt, bk := fun σ' H' => D.bk (σ'.set i none) H', ct := fun σ' H' => D.ct (σ'.set i none) H' } (σ.set i (some (.ref a))) H) : wAs K (.ref c) i ts Wout D (.ref C) dd σ H :=
  ⟨true, e, fun _ a ha => h a ha, fun z => Bool.noConfusion z⟩
theorem exm_up {K : PySem.W.Frag} {C D : Addr} (h1 : PySem.W.subIn K (.ref D) (.type "BaseException") = some true) (h2 : PySem.W.hasDictIn K D = true) (h3 : PySem.W.typeIn K (.ref D) = some (.type "type")) (h4 : PySem.W.subIn K (.ref C) (.ref D) = some true) : PySem.W.exmOne K (.ref C) (.ref D) = some true := PySem.W.exm_ref h1 h2 h3 h4
theorem s_par3 {i j k : Nat} {al : TA} {D : Ends} {σ : L2.St} {H : Hp} : tPar3 i j k al D σ H = al σ H fun vs H1 => ∃ u v w, vs = [u, v, w] ∧ D.nx (((σ.set i (some u)).set j (some v)).set k (some w)) H1 := propext ⟨fun h => h, fun h => h⟩
/-! ### constants of a class -/
structure ICon (K : PySem.W.Frag) (C : Addr) (f : Str) (u : Value) : Prop where
  ic : PySem.W.isClsIn K C = true
  pg : PySem.W.plainGet K C Str.empty = true
  fd : PySem.W.findIn K (.ref C) f = some (some u)
  sp : PySem.W.specialIn K u "__get__" = some none
  cp : PySem.W.copiedNames.contains f = false
  hi : PySem.W.handedIn u = true
theorem find_icon {K : PySem.W.Frag} {C : Addr} {f : Str} {u : Value} {od : Obj} (k : ICon K C f u) (hl : PySem.W.lookIn f od = some none) : PySem.W.findObj K C (some od) f = some (.value u) := by
  obtain ⟨cd, hcd⟩ := Option.isSome_iff_exists.mp (show (PySem.W.clsIn K C).isSome = true from k.ic)
  have own0 : PySem.W.ownOf cd (some od) f = some none := by
    unfold PySem.W.ownOf
    split
    · exact hl
    · rfl
  unfold PySem.W.findObj
  rw [hcd, Option.bind_some, k.fd, Option.bind_some]
  simp only [k.sp, Option.bind_some, own0, k.cp, Bool.false_and, Bool.false_eq_true, if_false, k.hi, if_true]
/-- o.f, a constant number of o's class -/
def tIcon (C : Addr) (f : Str) (i : Int) (ta : TE) : TE := fun σ H Q => ta σ H fun x H1 => ∃ a dx fs, x = .ref a ∧ H1 a = some (.ins C dx fs) ∧ fs.lookup f = none ∧ Q (.int i) H1
theorem pe_icon {X : Cx} {C : Addr} {f : Str} {i : Int} {e : Expr} {ta : TE} {pos : Pos} (he : PE X e ta) (k : ∃ t, ICon X.K C f (.int i t)) (hb : attributeBase e f X.env (eval e X.env) = eval e X.env := by rfl) : PE X (.Attribute e f pos) (tIcon C f i ta) := by
  obtain ⟨t, k⟩ := k
  refine ⟨fun pins s σ H Q I h => ?_⟩
  refine attr_of hb (thn (he.run pins s σ H _ I h) ?_)
  rintro u s1 ⟨y, H1, J, ry, a, dx, fs, ey, ea, l, q⟩
  subst ey
  obtain rfl : u = Value.ref a := ry
  obtain ⟨mA, O, rr, _⟩ := ins_get J.hok ea
  obtain ⟨od, I2, hl⟩ := O.look
  have hn : mA f = none := RelO.none_of (by rw [← l]; exact rr f)
  exact PySem.W.get_value J.kIn I2 (PySem.W.plainGet_of k.pg).1 (find_icon k (by rw [hl f, hn])) k.hi ⟨.int i, H1, J.tok _, ⟨t, rfl⟩, q⟩
theorem e_icon {C : Addr} {f : Str} {i : Int} {ta : TE} {σ : L2.St} {H : Hp} {Q : VK} : tIcon C f i ta σ H Q ↔ ta σ H fun x H1 => ∃ a, x = .ref a ∧ MtK a C f H1 (Q (.int i) H1) :=
  Iff.of_eq (congrArg (ta σ H) (funext fun x => funext fun H1 => propext ⟨fun ⟨a, dx, fs, e, r⟩ => ⟨a, e, dx, fs, r⟩, fun ⟨a, e, dx, fs, r⟩ => ⟨a, dx, fs, e, r⟩⟩))
def CValK (K : PySem.W.Frag) (C : Addr) (f : Str) (G : V → Prop) : Prop := ∃ mc v u, ClX.CRead K C mc ∧ ClX.CVal K C mc f v u ∧ G v
theorem e_cval {K : PySem.W.Frag} {f : Str} {ta : TE} {σ : L2.St} {H : Hp} {Q : VK} : ClX.tCVal K ta f σ H Q ↔ ta σ H fun x H1 => ∃ a, x = .ref a ∧ CValK K a f fun v => Q v H1 :=
  Iff.of_eq (congrArg (ta σ H) (funext fun x => funext fun H1 => propext ⟨fun ⟨a, mc, v, u, e, r⟩ => ⟨a, e, mc, v, u, r⟩, fun ⟨a, e, mc, v, u, r⟩ => ⟨a, mc, v, u, e, r⟩⟩))
theorem CValK.of {K : PySem.W.Frag} {C : Addr} {f : Str} {i : Int} {G : V → Prop} (r : ClX.CRead K C (.type "type")) (c : ∃ t, ClX.CVal K C (.type "type") f (.int i) (.int i t)) (g : G (.int i)) : CValK K C f G := let ⟨t, c⟩ := c; ⟨_, _, _, r, c, g⟩
/-! ### f-strings -/
def FmtK (x : V) (G : Str → Prop) : Prop := (∃ y : Str, x = .str y ∧ y.length ≤ sizeLine ∧ G y) ∨ ∃ i : Int, x = .int i ∧ i.natAbs.log2 < 1920 ∧ G (toString i)
theorem e_fmt {te : TE} {σ : L2.St} {H : Hp} {Q : VK} : tFmt te σ H Q = te σ H fun x H1 => FmtK x fun t => Q (.str t) H1 := propext ⟨fun h => h, fun h => h⟩
theorem FmtK.int {i : Int} {G : Str → Prop} (h : i.natAbs < 2 ^ 1900) (g : G (toString i)) : FmtK (.int i) G := Or.inr ⟨i, rfl, by
  by_cases z : i.natAbs = 0
  · rw [z]; decide
  · exact Nat.lt_of_lt_of_le ((Nat.log2_lt z).mpr h) (by decide), g⟩
def JoK (acc : Str) (x : V) (G : Str → Prop) : Prop := ∃ y : Str, x = .str y ∧ (acc ++ y).length ≤ sizeLine ∧ G (acc ++ y)
theorem e_jo {ts : List TE} {te : TE} {acc : Str} {σ : L2.St} {H : Hp} {Q : Str → Hp → Prop} : tJs (te :: ts) acc σ H Q = te σ H fun x H1 => JoK acc x fun t => tJs ts t σ H1 Q := propext ⟨fun h => h, fun h => h⟩
theorem e_jo0 {acc : Str} {σ : L2.St} {H : Hp} {Q : Str → Hp → Prop} : tJs [] acc σ H Q = Q acc H := propext ⟨fun h => h, fun h => h⟩
theorem JoK.of {acc y : Str} {G : Str → Prop} (h : acc.length + y.length ≤ 100000) (g : G (acc ++ y)) : JoK acc (.str y) G := ⟨y, rfl, Nat.le_trans (by rw [strLen_append]; exact h) (by decide), g⟩
end Vg


set_option Elab.async false
set_option linter.all false
set_option maxRecDepth 100000
set_option maxHeartbeats 2000000
namespace Vg
open PySem PySem.Spec PyProof.Rows L2

/-! ### an exception that is kept behind its except suite -/
def ErO (cls : Value) (d : Option Addr) (a : Addr) : HO := .ext fun h => ∃ (oe : Obj) (vs : Array Value), h.get? a = some oe ∧ Zc cls d oe ∧ oe.data = .fields vs
section
variable {X : Cx} {pins : List (Addr × Obj)} {σ : L2.St} {H : Hp} {s : Shared}
theorem Inv.adopt {a : Addr} {oe : Obj} {vs : Array Value} {cls : Value} {d : Option Addr} (J : Inv X pins σ H s) (g : s.heap.get? a = some oe) (z : Zc cls d oe) (hd : oe.data = .fields vs) (na : H a = none) (n0 : X.s_0.heap.get? a = none)
    (nL : a ≠ X.env.locals) (np : ∀ p ∈ X.pn ++ pins, p.1 ≠ a) : Inv X pins σ (upd H a (ErO cls d a)) s := by
  have un1 : Un X.fs X.ex H (upd H a (ErO cls d a)) X.s_0.heap X.s_0.heap := ⟨fun _ _ h _ _ _ => h, fun _ o h _ _ _ => ⟨o.slots, h⟩, fun b o h n _ => by rw [upd_ne (fun e => by rw [e, n0] at h; cases h)]; exact n, fun _ o h _ => ⟨o, h⟩,
    fun b xs h => by rw [upd_ne (fun e => by rw [e, na] at h; cases h)]; exact h, fun b o u h => by rw [upd_ne (fun e => by rw [e, na] at h; cases h)]; exact h, fun b ps h => ⟨#[], by rw [upd_ne (fun e => by rw [e, na] at h; cases h), h]; simp⟩⟩
  have cel : ∀ x c, X.env.cells.lookup x = some c → c ≠ a := fun x c hc e => by
    obtain ⟨v, o, ho, hv⟩ := J.cell x c hc
    rw [e, g] at ho
    cases ho
    rw [hd] at hv
    cases hv
  refine ⟨J.ok, J.os, J.bare, ⟨J.base.keep, J.base.slot, fun b o h n hx => ?_, J.base.there, fun b xs h => ?_, fun b o u h => ?_, fun b ps h => ?_⟩, J.loc, J.cell, ?_, fun x c hc => ?_, fun p hp => ?_, fun b u e => ?_, J.len⟩
  · rw [upd_ne (fun e => by rw [e, n0] at h; cases h)]
    exact J.base.free b o h n hx
  · have h2 := J.base.tups b xs h
    rw [upd_ne (fun e => by rw [e, na] at h2; cases h2)]
    exact h2
  · have h2 := J.base.frzs b o u h
    rw [upd_ne (fun e => by rw [e, na] at h2; cases h2)]
    exact h2
  · obtain ⟨more, h2⟩ := J.base.tbls b ps h
    exact ⟨more, by rw [upd_ne (fun e => by rw [e, na] at h2; cases h2)]; exact h2⟩
  · rw [upd_ne nL.symm]
    exact J.free
  · rw [upd_ne (cel x c hc)]
    exact J.freeC x c hc
  · obtain ⟨p1, p2, p3⟩ := J.pin p hp
    exact ⟨p1, by rw [upd_ne (np p hp)]; exact p2, p3⟩
  · by_cases hb : b = a
    · subst hb
      rw [upd_same] at e
      cases e
      exact ⟨⟨oe, vs, g, z, hd⟩, ⟨oe, g⟩, fun h1 h2 ⟨o, w, k1, k2⟩ hk => ⟨o, w, hk o k1, k2⟩⟩
    · rw [upd_ne hb] at e
      exact (J.hok b u e).stay (fun _ _ _ h => h) (fun c h => by rw [upd_ne (fun e => by rw [e, na] at h; cases h)]; exact h) fun c xs h => by rw [upd_ne (fun e => by rw [e, na] at h; cases h)]; exact h
end
/-- what the clause wishes: behind the suite the exception at a is tracked -/
def wKeep (K : PySem.W.Frag) (c : Value) (i : Nat) (ts : Addr → Value → Option Addr → TS) (Wo : WX) (D : Ends) : WX := fun cls d σ H =>
  ∃ b, PySem.W.exmOne K cls c = some b ∧ (b = true → ∀ a, H a = none → ts a cls d { nx := fun τ G => D.nx (τ.set i none) (upd G a (ErO cls d a)), rt := fun v G => D.rt v (upd G a (ErO cls d a)), bk := fun τ G => D.bk (τ.set i none) (upd G a (ErO cls d a)), ct := fun τ G => D.ct (τ.set i none) (upd G a (ErO cls d a)) } (σ.set i (some (.ref a))) H) ∧
    (b = false → Wo cls d σ H)
section
variable {X : Cx} {x n : Str} {c : Value} {i : Nat} {body more : List Stmt} {b1 : Stmt} {np p1 p2 : Pos} {tb : WX → TS} {ts : Addr → Value → Option Addr → TS} {Wo : WX}
theorem ps_try_keep (hst : X.stack = X.env :: X.outer) (hfr : X.env.frame = some X.env.locals) (nd : X.N.Nodup) (ni : X.N[i]? = some n) (nl : X.env.kindOf n = some .local) (hc : Names X x c) (hex : X.ex = []) (out : Takes X Wo)
    (hb : ∀ (W : WX) (pn : List (Addr × Obj)) (xe : Value → Shared → Prop), Takes (X.tr pn xe) W → PassesOwn (model X.prog X.w) X.A X.env xe → PSs (X.tr pn xe) body (tb W))
    (hs : ∀ (a : Addr) (oe : Obj) (cls : Value) (d : Option Addr) (pn : List (Addr × Obj)), Zc cls d oe → (∃ vs, oe.data = .fields vs) → PSs (X.suite a ((a, oe) :: pn)) (b1 :: more) (ts a cls d)) :
    PS X (.Try body [.ExceptHandler (some (.Name x np)) (some n) (b1 :: more) p2] [] [] p1) (fun D σ H => tb (wKeep X.K c i ts Wo D) D σ H) := by
  refine ⟨fun pins s σ H D J0 h0 => ?_⟩
  have ok := J0.ok
  have fr2 : X.A.frames = some (X.env :: X.outer) := ok.frames.trans (congrArg some hst)
  have loc : Loc X.env.scope n := .inl nl
  let xh : Value → Shared → Prop := fun e t1 => wpAny (model X.prog X.w) X.A (noteFrame e X.env) (fun _ t2 => wpAny (model X.prog X.w) X.A (setFlight e none) (fun _ t3 => wpAny (model X.prog X.w) X.A (handleBy e X.env [.ExceptHandler (some (.Name x np)) (some n) (b1 :: more) p2]) (SP X pins D) X.xe t3) X.xe t2) X.xe t1
  have catch_ : Takes (X.tr (X.pn ++ pins) xh) (wKeep X.K c i ts Wo D) := by
    rintro u t ⟨a, G, t0, pins', τ, H1, cls, d, rfl, J', nb, up, sky, na, os, ag, b, hb1, yes, no⟩
    have J : Inv X pins τ H1 t0 := J'.ofTry ok
    have sky2 : Sky G (X.env :: X.outer) a (Zc cls d) X.env.locals t.heap := hst ▸ sky
    show wpAny _ _ (noteFrame (.ref a) X.env) _ _ t
    refine Sky.land Zc.steady fr2 hfr sky2 fun h3 fl3 up3 => ?_
    have J3 : Inv X pins τ H1 { t with heap := h3 } := J.landed nb fl3.1 (up.trans up3) os ag
    obtain ⟨oe3, vs3, he3, hz3, hd3⟩ := fl3.there
    have aF : a ∉ frs (X.env :: X.outer) := fun hm => by
      obtain ⟨_, o', e', hn⟩ := fl3.2.2.1.mem hm
      rw [he3] at e'
      cases e'
      exact hn _ hd3
    have aL : a ≠ X.env.locals := fun e => aF (List.mem_filterMap.mpr ⟨X.env, List.mem_cons_self, by rw [hfr, e]⟩)
    have aO : a ∉ X.fs := fun hm => by
      obtain ⟨e, he, q⟩ := List.mem_filterMap.mp hm
      exact aF (List.mem_filterMap.mpr ⟨e, List.mem_cons_of_mem _ he, q⟩)
    have a0 : t0.heap.get? a = none := by
      cases e : t0.heap.get? a with
      | none => rfl
      | some o =>
        have k := nb a o e (by rw [hst]; exact aF)
        rw [fl3.2.1] at k
        cases k
    have a1 : X.s_0.heap.get? a = none := by
      cases e : X.s_0.heap.get? a with
      | none => rfl
      | some o =>
        obtain ⟨o', k⟩ := J.base.there a o e (fun hx => by rw [hex] at hx; cases hx)
        rw [a0] at k
        cases k
    have aP : ∀ p ∈ X.pn ++ pins, p.1 ≠ a := fun p hp e => by
      have k := (J.pin p hp).1
      rw [e, a0] at k
      cases k
    have S3 := J3.suite he3 hd3 na aL aO
    refine wpAny_handleBy_cons (codeAny_handlers_test ?_) (by intro q; cases q)
    have l1 : PySem.W.Looks (model X.prog X.w) h3 (typeOf (.ref a)) cls := fun A Q E s k q => wpAny_typeOf_ref (k _ _ he3) (by rw [hz3.1]; exact q)
    have l2 := PySem.W.exm_one (M := model X.prog X.w) J3.kIn l1 hb1
    have tst : ∀ {Q : Value → Shared → Prop} {E : Value → Shared → Prop}, Q c { t with heap := h3 } → wpAny (model X.prog X.w) (X.A.mark (some (.ref a))) (eval (.Name x np) X.env) Q E { t with heap := h3 } := by
      intro Q E q
      obtain ⟨g1, g2, m1 | ⟨m1, m2, m3⟩⟩ := hc
      · exact ld_glob (X := X.suite a ((a, oe3) :: (X.pn ++ pins))) S3 g1 m1 q g2
      · exact ld_blt (X := X.suite a ((a, oe3) :: (X.pn ++ pins))) S3 g1 m1 m2 q m3 g2
    refine tst (l2.here ?_)
    cases b with
    | true =>
      refine codeAny_handlers_suite_as (HandSPX.lands_againZ fl3 fun h4 fl4 up4 => ?_)
      have J4 : Inv X pins τ H1 { t with heap := h4 } := J.landed nb fl4.1 ((up.trans up3).trans up4) os ag
      obtain ⟨oe4, vs4, he4, hz4, hd4⟩ := fl4.there
      have S4 := J4.suite he4 hd4 na aL aO
      refine store_ok (X := X.suite a ((a, oe4) :: (X.pn ++ pins))) (v := .ref a) S4 nd ni loc rfl (fun s5 S5 => ?_) (.inr nl)
      refine wpAny_mono ((hs a oe4 cls d (X.pn ++ pins) hz4 ⟨_, hd4⟩).run [] s5 _ H1 _ S5 (yes rfl a na)) (fun fl s6 q6 => ?_) (fun _ _ z => z.elim)
      have last : ∀ {τ6 : L2.St} {H6 : Hp} {Q : Shared → Prop}, Inv (X.suite a ((a, oe4) :: (X.pn ++ pins))) [] τ6 H6 s6 → (∀ s7, Inv X pins (τ6.set i none) (upd H6 a (ErO cls d a)) s7 → Q s7) →
          wpAny (model X.prog X.w) X.A (do bindName X.env n .none; unbindBehindTheSuite X.env n p2) (fun _ s7 => Q s7) X.xe s6 := by
        intro τ6 H6 Q S6 hq
        obtain ⟨k1, k2, _⟩ := S6.pin (a, oe4) (by simp)
        exact gone_ok (Inv.adopt (S6.unsuite ok) k1 hz4 hd4 k2 a1 aL aP) nd ni nl hq
      cases fl with
      | next => obtain ⟨τ6, H6, S6, q⟩ := q6; exact last S6 fun s7 J7 => ⟨_, _, J7, q⟩
      | brk => obtain ⟨τ6, H6, S6, q⟩ := q6; exact last S6 fun s7 J7 => ⟨_, _, J7, q⟩
      | cont => obtain ⟨τ6, H6, S6, q⟩ := q6; exact last S6 fun s7 J7 => ⟨_, _, J7, q⟩
      | ret w => obtain ⟨v6, τ6, H6, S6, r6, q⟩ := q6; exact last S6 fun s7 J7 => ⟨_, _, _, J7, r6, q⟩
    | false =>
      refine wpAny_handleBy_nil ?_
      obtain ⟨_, _, _, oe, vs, T, oT, ts', he, hz, hd, h1, hr⟩ := id fl3
      unfold PySem.passOn
      refine wpAny_bind (wpAny_field he hd h1 ?_)
      rw [if_neg (show ¬ ((Value.ref T == Value.none) = true) from by simp)]
      have fly : wpAny (model X.prog X.w) X.A (setFlight (.ref a) X.env.frame) (fun _ t4 => wpAny (model X.prog X.w) X.A (throw (.ref a) : Sem Flow) (SP X pins D) X.xe t4) X.xe { t with heap := h3 } := by
        rw [hfr]
        exact HandSPX.setFlight_upZ fl3 fun h4 hh4 up4 => wpAny_throw (out _ _ ⟨a, G, t0, pins, τ, H1, cls, d, rfl, J, nb, (up.trans up3).trans up4, .inr (.inr (hst ▸ hh4)), na, os, ag, no rfl⟩)
      first
        | exact wpAny_bind (wpAny_pure (wpAny_bind fly))
        | exact wpAny_bind fly
  refine wpAny_Try_except (wpAny_mono ((hb (wKeep X.K c i ts Wo D) (X.pn ++ pins) xh catch_ PassesOwn.looking).run [] s σ H D (J0.toTry _) h0) (fun fl s1 q1 => ?_) (fun e s1 he => he))
  cases fl with
  | next => obtain ⟨τ, H1, J1, q⟩ := q1; exact wpAny_execs_nil ⟨τ, H1, J1.ofTry ok, q⟩
  | brk => obtain ⟨τ, H1, J1, q⟩ := q1; exact ⟨τ, H1, J1.ofTry ok, q⟩
  | cont => obtain ⟨τ, H1, J1, q⟩ := q1; exact ⟨τ, H1, J1.ofTry ok, q⟩
  | ret u => obtain ⟨v, τ, H1, J1, r, q⟩ := q1; exact ⟨v, τ, H1, J1.ofTry ok, r, q⟩
end
theorem wKeep.of {K : PySem.W.Frag} {C c : Addr} {i : Nat} {ts : Addr → Value → Option Addr → TS} {Wo : WX} {D : Ends} {dd : Option Addr} {σ : L2.St} {H : Hp} (e : PySem.W.exmOne K (.ref C) (.ref c) = some true)
    (h : ∀ a, H a = none → ts a (.ref C) dd { nx := fun τ G => D.nx (τ.set i none) (upd G a (ErO (.ref C) dd a)), rt := fun v G => D.rt v (upd G a (ErO (.ref C) dd a)), bk := fun τ G => D.bk (τ.set i none) (upd G a (ErO (.ref C) dd a)), ct := fun τ G => D.ct (τ.set i none) (upd G a (ErO (.ref C) dd a)) } (σ.set i (some (.ref a))) H) : wKeep K (.ref c) i ts Wo D (.ref C) dd σ H :=
  ⟨true, e, fun _ a ha => h a ha, fun z => Bool.noConfusion z⟩
/-! ### a list unpacked -/
def UnlK (K : PySem.W.Frag) (p : Addr) (n : Nat) (H : Hp) (G : List V → Prop) : Prop := ∃ xs, SqL K H p xs ∧ xs.length = n ∧ G xs
theorem g_unl {K : PySem.W.Frag} {n : Nat} {gs : TGs} {a : Addr} {σ : L2.St} {H : Hp} {N : L2.St → Hp → Prop} : gUnl K n gs (.ref a) σ H N ↔ UnlK K a n H fun xs => gs xs σ H N := ⟨fun ⟨_, xs, e, h, z, q⟩ => by cases e; exact ⟨xs, h, z, q⟩, fun ⟨xs, h, z, q⟩ => ⟨a, xs, rfl, h, z, q⟩⟩
theorem UnlK.of {K : PySem.W.Frag} {p : Addr} {n : Nat} {H : Hp} {xs : List V} {G : List V → Prop} (h : SqL K H p xs) (e : xs.length = n) (g : G xs) : UnlK K p n H G := ⟨xs, h, e, g⟩
/-! ### classmethods; a class in a local name -/
theorem fnR_of {P : Program} {w : World} {K : PySem.W.Frag} {mg : Str → Option Value} {bs : Heap} {C : CXT} {k : Nat} {f : Addr} {fd : FuncData} {ps : List Str} {sp : Sp} (F : FnOk P w K mg bs C k f fd ps sp) (b : Binds K fd ps []) : FnR P w K mg bs C k f sp := fun A fr s H us vs Q E r e0 v q => by
  have hl : (us ++ []).length = ps.length := by rw [List.append_nil, ← v.length]; exact F.len _ _ _ _ q
  have kx : K.In s.heap := e0.mod.kin.keeps fun c o z => (e0.bs c o z).1
  have h := b s us kx hl
  rw [List.append_nil] at h
  exact F.run A fr s H ⟨us, []⟩ us vs Q E r e0 h v q
theorem e_cmeth {C : Addr} {sp : Sp} {E : XK} {ta : TE} {t : TA} {σ : L2.St} {H : Hp} {Q : VK} : ClX.tCMeth C sp E ta t σ H Q = ta σ H fun x H1 => x = .ref C ∧ t σ H1 fun vs H2 => sp (.ref C :: vs) H2 Q E := propext ⟨fun h => h, fun h => h⟩
def tMakeV (i : Nat) (C : Addr) (sp : Sp) (E : XK) (t : TA) : TE := fun σ H Q => σ[i]? = some (some (.ref C)) ∧ t σ H fun vs H1 => MkK C H1 fun x H2 => sp (.ref x :: vs) H2 (fun v H3 => v = .non ∧ Q (.ref x) H3) E
theorem e_makeV {i : Nat} {C : Addr} {sp : Sp} {E : XK} {t : TA} {σ : L2.St} {H : Hp} {Q : VK} : tMakeV i C sp E t σ H Q = (σ[i]? = some (some (.ref C)) ∧ t σ H fun vs H1 => MkK C H1 fun x H2 => sp (.ref x :: vs) H2 (fun v H3 => v = .non ∧ Q (.ref x) H3) E) := propext ⟨fun h => h, fun h => h⟩
theorem pe_makeV {X : Cx} {CX : CXT} {k i : Nat} {C f : Addr} {fd : FuncData} {ps : List Str} {sp : Sp} {E : XK} {x : Str} {e : Expr} {es : List Expr} {t : TA} {p pos : Pos} (M : Mk X.K C f) (F : FnOk X.prog X.w X.K X.mg X.base CX k f fd ps sp) (r : Room (k + 1) X.A) (b : Binds X.K fd ps []) (hx : Passes CX X E)
    (hN : X.N[i]? = some x) (hv : Vis X.env.scope x) (ha : PA X (e :: es) t) (h1 : (x == ("__debug__" : Str)) = false := by decide) (h2 : (x == ("__classdict__" : Str)) = false := by decide)
    (he : starEach (e :: es) X.env = (false, eval e X.env) :: starEach es X.env := by rfl) (hp : (backTo pos (starEach es X.env)).any (·.1) = false := by rfl) : PE X (.Call (.Name x p) (e :: es) [] pos) (tMakeV i C sp E t) := by
  refine ⟨fun pins s σ H Q J h => ?_⟩
  obtain ⟨hs, h⟩ := h
  refine wpAny_Call_Name_kw (thn ((pe_var (pos := p) (i := i) hN hv h1 h2).run pins s σ H (fun v H1 => v = .ref C ∧ H1 = H) J ⟨.ref C, hs, rfl, rfl⟩) ?_)
  rintro u s1 ⟨v, H1, J1, rv, rfl, rfl⟩
  cases rv
  refine PySem.W.callWith_K (h₀ := X.base) J.ok.mod.kin M.kp (thn (ha.run pos pins s1 σ _ _ J1 h) ?_) he hp
  rintro us s2 ⟨vs, H2, J2, rs, q⟩
  exact ⟨J2.kIn, run_make M F r b .nil hx J2 rs fun y dx n1 n2 n3 => by rw [List.append_nil]; exact q y dx n1 n2 n3⟩
/-! ### isinstance of a kept exception -/
def rIsX (K : PySem.W.Frag) : List V → Hp → VK → Prop := fun xs H Q => ∃ (D a : Addr) (c : V) (cv : Value) (b : Bool), xs = [.ref a, c] ∧ H a = some (ErO (.ref D) none a) ∧ ExcC K D ∧ (∀ u, RelV c u → u = cv) ∧ PySem.W.kitOne K (.ref D) cv = some b ∧ Q (.bl b) H
theorem cr_isX {X : Cx} : CallR X (.builtin "isinstance") (rIsX X.K) := by
  intro pins s σ H xs us Q J r h
  obtain ⟨D, a, c, cv, b, rfl, ha, C, hcv, e, q⟩ := h
  obtain ⟨⟨oe, vs, hg, hz, hd⟩, _, _⟩ := J.hok a _ ha
  cases r with
  | cons rx rr =>
    cases rr with
    | cons rt rr =>
      cases rr
      cases rx
      have ec := hcv _ rt
      subst ec
      have I2 : PySem.W.InstAt s.heap a oe D none := by
        obtain ⟨oc, od, oda, osl⟩ := oe
        obtain ⟨k1, k2⟩ := hz
        dsimp only at k1 k2 hd
        subst k1 k2 hd
        exact ⟨hg, rfl, rfl, trivial⟩
      exact PySem.W.kia_one (PySem.W.handS_kitx_exc C.hg C.hk C.hs C.hd C.ha C.hn C.ht C.hm) J.kIn I2 e (fun z => nomatch z) fun tk => ⟨.bl b, H, J.kept (t' := tk) fun _ _ z => z, rfl, q⟩
/-- of a class of the text, of a built-in one -/
def IsXK (K : PySem.W.Frag) (a : Addr) (c : Value) (H : Hp) (G : Bool → Prop) : Prop := ∃ D b, H a = some (ErO (.ref D) none a) ∧ ExcC K D ∧ PySem.W.kitOne K (.ref D) c = some b ∧ G b
theorem x_isX {K : PySem.W.Frag} {a C : Addr} {H : Hp} {Q : VK} : rIsX K [.ref a, .ref C] H Q ↔ IsXK K a (.ref C) H fun b => Q (.bl b) H :=
  ⟨fun ⟨D, a', c, cv, b, e, h1, h2, h3, h4, q⟩ => by cases e; have e2 := h3 (.ref C) rfl; subst e2; exact ⟨D, b, h1, h2, h4, q⟩, fun ⟨D, b, h1, h2, h4, q⟩ => ⟨D, a, _, _, b, rfl, h1, h2, fun _ z => z, h4, q⟩⟩
theorem x_isXT {K : PySem.W.Frag} {a : Addr} {T : String} {H : Hp} {Q : VK} : rIsX K [.ref a, .ty T] H Q ↔ IsXK K a (.type T) H fun b => Q (.bl b) H :=
  ⟨fun ⟨D, a', c, cv, b, e, h1, h2, h3, h4, q⟩ => by cases e; have e2 := h3 (.type T) rfl; subst e2; exact ⟨D, b, h1, h2, h4, q⟩, fun ⟨D, b, h1, h2, h4, q⟩ => ⟨D, a, _, _, b, rfl, h1, h2, fun _ z => z, h4, q⟩⟩
theorem IsXK.of {K : PySem.W.Frag} {D a : Addr} {c : Value} {b : Bool} {H : Hp} {G : Bool → Prop} (h : H a = some (ErO (.ref D) none a)) (C : ExcC K D) (k : PySem.W.kitOne K (.ref D) c = some b) (g : G b) : IsXK K a c H G := ⟨D, b, h, C, k, g⟩
/-! ### isinstance, worked out -/
theorem kit_sub {K : PySem.W.Frag} {C D : Addr} {b : Bool} (h0 : (Value.ref C == Value.ref D) = false) (h2 : PySem.W.hasDictIn K D = true) (h3 : PySem.W.typeIn K (.ref D) = some (.type "type")) (h4 : PySem.W.subIn K (.ref C) (.ref D) = some b) : PySem.W.kitOne K (.ref C) (.ref D) = some b := by
  unfold PySem.W.kitOne
  rw [if_neg (by rw [h0]; decide)]
  unfold PySem.W.kitCls
  dsimp only
  have hs : (PySem.W.clsIn K D).isSome = true := by
    unfold PySem.W.hasDictIn at h2
    cases e : PySem.W.clsIn K D with
    | none => rw [e] at h2; cases h2
    | some c => rfl
  rw [hs, h3, if_pos (by rfl)]
  exact h4
theorem kit_self {K : PySem.W.Frag} {C : Addr} : PySem.W.kitOne K (.ref C) (.ref C) = some true := by
  unfold PySem.W.kitOne
  rw [if_pos (by simp)]
theorem kit_blt {K : PySem.W.Frag} {C : Addr} {b : Bool} {T : String} (hm : PySem.W.kitMeta T = true) (h4 : PySem.W.subIn K (.ref C) (.type T) = some b) : PySem.W.kitOne K (.ref C) (.type T) = some b := by
  unfold PySem.W.kitOne
  rw [if_neg (show ¬ ((Value.ref C == Value.type T) = true) from by simp)]
  unfold PySem.W.kitCls
  dsimp only
  rw [if_pos hm]
  exact h4
end Vg


set_option Elab.async false
set_option linter.all false
set_option maxRecDepth 100000
namespace Vg
open PySem PySem.Spec PyProof.Rows L2
/-! ### sum of a tuple of two numbers -/
def rSumT (K : PySem.W.Frag) : List V → Hp → VK → Prop := fun vs H Q => ∃ (a : Addr) (i j : Int), vs = [.ref a] ∧ SqT K H a [.int i, .int j] ∧ Q (.int (i + j)) H
theorem sum_two (i j : Int) : PySem.W.Num.sumInts 0 [.int i, .int j] = some (.int (i + j)) := by
  have e : (0 : Int) + i + j = i + j := by omega
  unfold PySem.W.Num.sumInts
  split
  · unfold PySem.W.Num.sumInts
    split
    · unfold PySem.W.Num.sumInts; rw [e]
    · unfold PySem.W.Num.foldFrom; rw [e]
  · rw [← e]; rfl
theorem cr_sumT {X : Cx} (hc : X.calm = true) : CallR X (.builtin "sum") (rSumT X.K) := by
  intro pins s σ H vs us Q I r h
  obtain ⟨a, i, j, rfl, hs, q⟩ := h
  obtain ⟨its, rv, hl, _⟩ := I.tuple hs
  rw [Vals.ref1 r]
  cases rv with
  | cons r1 rr =>
    cases rr with
    | cons r2 rr =>
      cases rr
      obtain ⟨t1, rfl⟩ := r1
      obtain ⟨t2, rfl⟩ := r2
      refine PySem.Flt.call_sum_walkF (sum_two i j) (PySem.W.iter_tupleW (A := X.A.in1) (I.ok.hd hc) hl fun s₂ e W st hfp hw hk => ?_)
      refine ⟨_, _, _, _, _, _, rfl, W, st, hfp, fun k v hv => ?_, fun s' v hn m => ?_⟩
      · match k, hv with
        | 0, hv => cases hv; exact ⟨_, rfl, .int _ _⟩
        | 1, hv => cases hv; exact ⟨_, rfl, .int _ _⟩
      · obtain ⟨h', tk, rfl, hk'⟩ := PySem.W.moved_old e rfl m
        cases hn
        exact ⟨.int _, H, I.kept hk', ⟨_, rfl⟩, q⟩
end Vg


set_option Elab.async false
set_option linter.all false
set_option maxRecDepth 100000
set_option maxHeartbeats 2000000
namespace Vg
open PySem PySem.Spec PyProof.Rows L2
/-! ### == and != by an own __eq__ -/
inductive YTy (H : Hp) : V → Value → Prop
  | ins {a C dx : Addr} {fs : List (Str × V)} (h : H a = some (.ins C dx fs)) : YTy H (.ref a) (.ref C)
  | lst {a : Addr} {xs : List V} (h : H a = some (.lst xs)) : YTy H (.ref a) (.type "list")
  | str (z : Str) : YTy H (.str z) (.type "str")
theorem YTy.looks {X : Cx} {pins : List (Addr × Obj)} {σ : L2.St} {H : Hp} {s : Shared} {y : V} {u tb : Value} (I : Inv X pins σ H s) (r : RelV y u) (h : YTy H y tb) (M : Model) : PySem.W.Looks M s.heap (typeOf u) tb := by
  cases h with
  | ins h =>
    cases (show u = Value.ref _ from r)
    obtain ⟨mA, O, _⟩ := ins_get I.hok h
    obtain ⟨od, J, _⟩ := O.look
    exact J.type
  | lst h =>
    cases (show u = Value.ref _ from r)
    obtain ⟨_, _, n, _, h1⟩ := (show ObjOk X.prog X.w H s.heap _ (.lst _) from I.hok _ _ h)
    exact (PySem.W.Looks.ld h1).andThen .now
  | str z =>
    obtain ⟨t, q⟩ := (show ∃ t, u = Value.str z t from r)
    cases q
    exact PySem.W.Looks.of_pure rfl
structure EqC (K : PySem.W.Frag) (C f : Addr) : Prop where
  eq : PySem.W.findIn K (.ref C) "__eq__" = some (some (.ref f))
  fn : PySem.W.isFn K (.ref f) = true
  ne : PySem.W.findIn K (.ref C) "__ne__" = some (some (.builtin "object.__ne__"))
  hm : PySem.W.mroIn K C (.type "object") = some true
def rOEq (K : PySem.W.Frag) (C : Addr) (sp : Sp) : R2 := fun x y H Q => ∃ a dx fs tb, x = .ref a ∧ H a = some (.ins C dx fs) ∧ YTy H y tb ∧ PySem.W.notFirst K C tb = true ∧ sp [x, y] H Q E0
def rONe (K : PySem.W.Frag) (C : Addr) (sp : Sp) : R2 := fun x y H Q => ∃ a dx fs tb, x = .ref a ∧ H a = some (.ins C dx fs) ∧ YTy H y tb ∧ PySem.W.notFirst K C tb = true ∧ sp [x, y] H (fun v H' => ∃ b, v = .bl b ∧ Q (.bl (!b)) H') E0
theorem ifBound_ne {M : Model} {A : Around} {E : Value → Shared → Prop} {s : Shared} {K : PySem.W.Frag} {x C : Addr} {ox : Obj} {od : Option Obj} {args : List Value} {Q : Option Value → Shared → Prop} (X : K.In s.heap) (I : PySem.W.InstAt s.heap x ox C od) (hs : PySem.W.findIn K (.ref C) "__ne__" = some (some (.builtin "object.__ne__")))
    (h : wpAny M A (call (.builtin "object.__ne__") (.ref x :: args)) (fun v => Q (some v)) E s) : wpAny M A (callSpecialIfBound? (.ref x) "__ne__" args) Q E s := by
  simp only [callSpecialIfBound?, bindSpecialIfBound?]
  refine wpAny_holding (wpAny_bind (wpAny_bind (wpAny_bind (I.type.here ((PySem.W.looks_findIn X hs).here ?_)))))
  refine wpAny_bind (wpAny_askSetting (wpAny_ite ?_))
  have fin : wpAny M A (call (.builtin "object.__ne__") ([.ref x] ++ args) >>= fun v => pure (some v)) Q E s := wpAny_bind (wpAny_mono h (fun v s' h' => wpAny_pure h') fun _ _ h' => h')
  split
  · exact wpAny_bind (wpAny_of_eq (PySem.F.cmp_object.ne.bind _) (wpAny_pure (by exact fin)))
  · exact wpAny_tryCatch (wpAny_bind (wpAny_of_eq (PySem.F.cmp_object.ne.bind _) (wpAny_pure (by exact fin))))
theorem objNe_own {prog : Program} {w : World} {A : Around} {E : Value → Shared → Prop} {s : Shared} {K : PySem.W.Frag} {x C f : Addr} {ox : Obj} {od : Option Obj} {b : Value} {Q : Fin → Shared → Prop} (X : K.In s.heap) (I : PySem.W.InstAt s.heap x ox C od) (hc : EqC K C f) (hu : A.units < cLine)
    (h : wpAny (model prog w) A (call (.ref f) [.ref x, b]) (fun v s' => ∃ r, v = .bool r ∧ Q (.done (.ret (.bool (!r)))) s') E s) : wpAny (model prog w) A (Builtin.«object.__ne__» ⟨[.ref x, b], []⟩) Q E s := by
  unfold Builtin.«object.__ne__»
  repeat (first
    | with_reducible refine wpAny_cRoomFor hu ?_
    | (refine wpAny_bind (m := callSpecialIfBound? (.ref x) (Str.ofString "__eq__") [b])
        (PySem.W.ifBound_K X I hc.eq hc.fn (wpAny_mono h (fun r s' hr => by
          obtain ⟨b, rfl, hq⟩ := hr
          repeat (first | exact hq | exact wpAny_pure hq | exact wpAny_truthy_bool hq | (refine wpAny_bind (m := truthy (.bool _)) (wpAny_truthy_bool ?_)) | wp_step)) fun _ _ e => e)))
    | wp_step)
section
variable {X : Cx} {CX : CXT} {n : Nat} {C f : Addr} {sp : Sp}
theorem op_oeq (c : EqC X.K C f) (F : FnR X.prog X.w X.K X.mg X.base CX n f sp) (hr : Room (n + 1) X.A) (hx : Passes CX X E0) : OpR X (compareOp .Eq) (rOEq X.K C sp) := by
  intro pins s σ H x y v u Q I rx ry h
  obtain ⟨a, dx, fs, tb, rfl, ha, hy, hn, q⟩ := h
  cases (show v = Value.ref a from rx)
  obtain ⟨mA, O, _⟩ := ins_get I.hok ha
  obtain ⟨od, J, _⟩ := O.look
  obtain ⟨m, hF⟩ := I.fr
  show wpAny (model X.prog X.w) X.A (richCompare .Eq (.ref a) u) _ _ _
  refine PySem.W.cmp_K (op := .Eq) (tb := tb) hr.units0 hF I.ok.mod.kin J (hy.looks I ry _) hn c.eq c.fn ?_
  refine wpAny_mono (wpAny_call (run_fnR (us := [.ref a, u]) (vs := [.ref a, y]) F (hr.mono (Nat.le_succ n)) hx I (.cons rfl (.cons ry .nil)) q)) (fun w s' z => ?_) fun _ _ x => x
  obtain ⟨z', H', I', rz, qz⟩ := z
  exact SlX.cmpback rz ⟨z', H', I', rz, qz⟩
theorem op_one (c : EqC X.K C f) (F : FnR X.prog X.w X.K X.mg X.base CX n f sp) (hr : Room (n + 1) X.A) (hx : Passes CX X E0) : OpR X (compareOp .NotEq) (rONe X.K C sp) := by
  intro pins s σ H x y v u Q I rx ry h
  obtain ⟨a, dx, fs, tb, rfl, ha, hy, hn, q⟩ := h
  cases (show v = Value.ref a from rx)
  obtain ⟨mA, O, _⟩ := ins_get I.hok ha
  obtain ⟨od, J, _⟩ := O.look
  have one : wpAny (model X.prog X.w) X.A (tryCompare (.ref a) (cmpInfo .NotEq).2.1 u) (fun r s' => ∃ v, r = some v ∧ EP X pins σ Q v s') X.xe s := by
    unfold tryCompare
    refine wpAny_bind (ifBound_ne I.kIn J c.ne (wpAny_call (codeAny_call_builtin PySem.F.cmp_object.ne.plain PySem.F.cmpEntry_ne (PySem.W.check_slot PySem.F.cmpKind_ne PySem.F.cmpSplit_ne (J.type.andThen (PySem.W.looks_mroIn I.kIn c.hm)) (PySem.F.cmpArgs_ne _ _) ?_))))
    refine objNe_own (A := X.A.in1) I.kIn J c hr.in1.units0 ?_
    refine wpAny_mono (wpAny_call (SlX.run_at (us := [.ref a, u]) (ws := [.ref a, y]) F hr.in1 I.env0.in1 hx I (.cons rfl (.cons ry .nil)) q)) (fun w s' z => ?_) fun _ _ x => x
    obtain ⟨z', H', I', rz, b, rfl, qz⟩ := z
    cases (show w = Value.bool b from rz)
    refine ⟨b, rfl, ?_⟩
    first
      | exact wpAny_pure ⟨_, rfl, ⟨.bl (!b), H', I', rfl, qz⟩⟩
      | exact ⟨_, rfl, ⟨.bl (!b), H', I', rfl, qz⟩⟩
  show wpAny (model X.prog X.w) X.A (richCompare .NotEq (.ref a) u) _ _ _
  unfold richCompare
  simp only [oneThing_ref]
  refine wpAny_holding (wpAny_bind (wpAny_cRoomFor hr.units0 ?_))
  refine wpAny_bind (J.type.here (wpAny_bind ((hy.looks I ry _).here ?_)))
  split
  · rename_i q
    have e : PySem.W.subIn X.K tb (.ref C) = some false := by
      rcases Bool.or_eq_true_iff.mp hn with e | e
      · rw [beq_iff_eq.mp e] at q; simp at q
      · exact beq_iff_eq.mp e
    refine wpAny_bind ((PySem.W.looks_subIn I.kIn e).here ?_)
    simp only [Bool.false_eq_true, if_false]
    refine wpAny_bind (wpAny_mono one (fun r s' z => ?_) fun _ _ e => e)
    obtain ⟨v, rfl, hq⟩ := z
    exact wpAny_pure hq
  · refine wpAny_bind (wpAny_pure ?_)
    simp only [Bool.false_eq_true, if_false]
    refine wpAny_bind (wpAny_mono one (fun r s' z => ?_) fun _ _ e => e)
    obtain ⟨v, rfl, hq⟩ := z
    exact wpAny_pure hq
end
/-- a op b of two objects with an own __eq__ -/
def OEqK (K : PySem.W.Frag) (C a : Addr) (y : V) (sp : Sp) (H : Hp) (Q : VK) : Prop := ∃ dx fs tb, H a = some (.ins C dx fs) ∧ YTy H y tb ∧ PySem.W.notFirst K C tb = true ∧ sp [.ref a, y] H Q E0
section
variable {K : PySem.W.Frag} {C a : Addr} {y : V} {sp : Sp} {H : Hp} {Q : VK}
theorem x_oeq : rOEq K C sp (.ref a) y H Q ↔ OEqK K C a y sp H Q := ⟨fun ⟨_, dx, fs, tb, e, r⟩ => by cases e; exact ⟨dx, fs, tb, r⟩, fun ⟨dx, fs, tb, r⟩ => ⟨a, dx, fs, tb, rfl, r⟩⟩
theorem x_one : rONe K C sp (.ref a) y H Q ↔ OEqK K C a y sp H fun v H' => ∃ b, v = .bl b ∧ Q (.bl (!b)) H' := ⟨fun ⟨_, dx, fs, tb, e, r⟩ => by cases e; exact ⟨dx, fs, tb, r⟩, fun ⟨dx, fs, tb, r⟩ => ⟨a, dx, fs, tb, rfl, r⟩⟩
theorem OEqK.own {dx b dy : Addr} {fs gs : List (Str × V)} (h : H a = some (.ins C dx fs)) (h2 : H b = some (.ins C dy gs)) (q : sp [.ref a, .ref b] H Q E0) : OEqK K C a (.ref b) sp H Q := ⟨dx, fs, _, h, .ins h2, by unfold PySem.W.notFirst; simp, q⟩
theorem notFirst_ty {T : String} (e : (fastBuiltinMro T).map (·.contains (Value.ref C)) = some false) : PySem.W.notFirst K C (.type T) = true := by
  unfold PySem.W.notFirst
  have : PySem.W.subIn K (.type T) (.ref C) = some false := e
  rw [this]
  simp
theorem OEqK.lst {dx b : Addr} {xs : List V} {fs : List (Str × V)} (h : H a = some (.ins C dx fs)) (h2 : H b = some (.lst xs)) (q : sp [.ref a, .ref b] H Q E0) : OEqK K C a (.ref b) sp H Q := ⟨dx, fs, _, h, .lst h2, notFirst_ty (by
  have e : fastBuiltinMro "list" = some [.type "list", .type "object"] := by decide +kernel
  rw [e]
  first | rfl | simp), q⟩
theorem OEqK.str {dx : Addr} {z : Str} {fs : List (Str × V)} (h : H a = some (.ins C dx fs)) (q : sp [.ref a, .str z] H Q E0) : OEqK K C a (.str z) sp H Q := ⟨dx, fs, _, h, .str z, notFirst_ty (by
  have e : fastBuiltinMro "str" = some [.type "str", .type "object"] := by decide +kernel
  rw [e]
  first | rfl | simp), q⟩
end
/-! ### isinstance of an instance -/
structure IsiC (K : PySem.W.Frag) (C : Addr) : Prop where
  cl : Cls K C
  si : SlX.SIsi K C
/-- isinstance(x, c): x of the own class D, or plain -/
def rIsW (K : PySem.W.Frag) : List V → Hp → VK → Prop := fun xs H Q => ∃ (x c : V) (t u : Value) (b : Bool), xs = [x, c] ∧ ClsV c u ∧ TyX K H x t ∧ PySem.W.kitOne K t u = some b ∧ Q (.bl b) H
theorem cr_isW {X : Cx} : CallR X (.builtin "isinstance") (rIsW X.K) := call_isi
def IsWK (K : PySem.W.Frag) (x c : V) (H : Hp) (G : Bool → Prop) : Prop := ∃ (t u : Value) (b : Bool), ClsV c u ∧ TyX K H x t ∧ PySem.W.kitOne K t u = some b ∧ G b
theorem x_isW {K : PySem.W.Frag} {x c : V} {H : Hp} {Q : VK} : rIsW K [x, c] H Q ↔ IsWK K x c H fun b => Q (.bl b) H := ⟨fun ⟨_, _, t, u, b, e, r⟩ => by cases e; exact ⟨t, u, b, r⟩, fun ⟨t, u, b, r⟩ => ⟨x, c, t, u, b, rfl, r⟩⟩
theorem IsWK.own {K : PySem.W.Frag} {C a dx : Addr} {fs : List (Str × V)} {H : Hp} {G : Bool → Prop} (c : IsiC K C) (h : H a = some (.ins C dx fs)) (q : G true) : IsWK K (.ref a) (.ref C) H G :=
  ⟨.ref C, .ref C, true, .own C, .base (.ins h c.cl c.si.ca c.si.cn c.si.ct c.si.cm), kit_self, q⟩
/-! ### int(n), len(d) -/
def rIntI : List V → Hp → VK → Prop := fun xs H Q => ∃ i, xs = [.int i] ∧ Q (.int i) H
theorem cr_intI {X : Cx} : CallR X (.type "int") rIntI := CallR.as call_int1 fun _ _ _ ⟨i, e, q⟩ => Or.inl ⟨i, e, q⟩
theorem x_intI {i : Int} {H : Hp} {Q : VK} : rIntI [.int i] H Q ↔ Q (.int i) H := ⟨fun ⟨_, e, q⟩ => by cases e; exact q, fun q => ⟨i, rfl, q⟩⟩
def LenDK (a : Addr) (H : Hp) (G : Int → Prop) : Prop := ∃ kvs : List (Key × V), H a = some (.dK kvs) ∧ G kvs.length
def rLenD : List V → Hp → VK → Prop := fun xs H Q => ∃ a kvs, xs = [V.ref a] ∧ H a = some (.dK kvs) ∧ Q (.int kvs.length) H
theorem cr_lenD {X : Cx} : CallR X (.builtin "len") rLenD := call_lenD
theorem x_lenD {a : Addr} {H : Hp} {Q : VK} : rLenD [.ref a] H Q ↔ LenDK a H fun i => Q (.int i) H := ⟨fun ⟨_, kvs, e, h, q⟩ => by cases e; exact ⟨kvs, h, q⟩, fun ⟨kvs, h, q⟩ => ⟨a, kvs, rfl, h, q⟩⟩
theorem LenDK.of {B : Hp} {l : List (Addr × HO)} {a : Addr} {kvs : List (Key × V)} {H : Hp} {G : Int → Prop} (L : Led B H l) (m : (a, HO.dK kvs) ∈ l) (q : G kvs.length) : LenDK a H G := ⟨kvs, L.at m, q⟩
end Vg


set_option Elab.async false
set_option linter.all false
set_option maxRecDepth 100000
set_option maxHeartbeats 4000000
namespace My
open PySem PySem.Spec PyProof.Rows L2 Vg
theorem cp_10_15 : CPow 10 15 ↔ True := iff_true_intro ⟨by decide, by decide, by decide⟩
theorem sz_2 : 2 ≤ sizeLine ↔ True := iff_true_intro (by decide)
theorem sz_3 : 3 ≤ sizeLine ↔ True := iff_true_intro (by decide)
theorem sz_0 : 0 ≤ sizeLine ↔ True := iff_true_intro (by decide)
theorem sz_1 : 1 ≤ sizeLine ↔ True := iff_true_intro (by decide)
theorem cp_10_41 : CPow 10 41 ↔ True := iff_true_intro ⟨by decide, by decide, by decide⟩
theorem cp_10_40 : CPow 10 40 ↔ True := iff_true_intro ⟨by decide, by decide, by decide⟩
theorem cp_10_18 : CPow 10 18 ↔ True := iff_true_intro ⟨by decide, by decide, by decide⟩
theorem nf__end_in_cell___marks : (("_end_in_cell" : Str) = "_marks") = False := eq_false (by decide +kernel)
theorem nb__end_in_cell___marks : (("_end_in_cell" : Str) == "_marks") = false := by decide +kernel
theorem nf__end_in_cell___return_to : (("_end_in_cell" : Str) = "_return_to") = False := eq_false (by decide +kernel)
theorem nb__end_in_cell___return_to : (("_end_in_cell" : Str) == "_return_to") = false := by decide +kernel
theorem nf__end_in_cell___splitter_at : (("_end_in_cell" : Str) = "_splitter_at") = False := eq_false (by decide +kernel)
theorem nb__end_in_cell___splitter_at : (("_end_in_cell" : Str) == "_splitter_at") = false := by decide +kernel
theorem nf__end_in_cell___walk : (("_end_in_cell" : Str) = "_walk") = False := eq_false (by decide +kernel)
theorem nb__end_in_cell___walk : (("_end_in_cell" : Str) == "_walk") = false := by decide +kernel
theorem nf__end_in_cell__cells : (("_end_in_cell" : Str) = "cells") = False := eq_false (by decide +kernel)
theorem nb__end_in_cell__cells : (("_end_in_cell" : Str) == "cells") = false := by decide +kernel
theorem nf__end_in_cell__closed : (("_end_in_cell" : Str) = "closed") = False := eq_false (by decide +kernel)
theorem nb__end_in_cell__closed : (("_end_in_cell" : Str) == "closed") = false := by decide +kernel
theorem nf__end_in_cell__done : (("_end_in_cell" : Str) = "done") = False := eq_false (by decide +kernel)
theorem nb__end_in_cell__done : (("_end_in_cell" : Str) == "done") = false := by decide +kernel
theorem nf__end_in_cell__names : (("_end_in_cell" : Str) = "names") = False := eq_false (by decide +kernel)
theorem nb__end_in_cell__names : (("_end_in_cell" : Str) == "names") = false := by decide +kernel
theorem nf__end_in_cell__places : (("_end_in_cell" : Str) = "places") = False := eq_false (by decide +kernel)
theorem nb__end_in_cell__places : (("_end_in_cell" : Str) == "places") = false := by decide +kernel
theorem nf__end_in_cell__play : (("_end_in_cell" : Str) = "play") = False := eq_false (by decide +kernel)
theorem nb__end_in_cell__play : (("_end_in_cell" : Str) == "play") = false := by decide +kernel
theorem nf__end_in_cell__process_count : (("_end_in_cell" : Str) = "process_count") = False := eq_false (by decide +kernel)
theorem nb__end_in_cell__process_count : (("_end_in_cell" : Str) == "process_count") = false := by decide +kernel
theorem nf__end_in_cell__reports : (("_end_in_cell" : Str) = "reports") = False := eq_false (by decide +kernel)
theorem nb__end_in_cell__reports : (("_end_in_cell" : Str) == "reports") = false := by decide +kernel
theorem nf__end_in_cell__steps : (("_end_in_cell" : Str) = "steps") = False := eq_false (by decide +kernel)
theorem nb__end_in_cell__steps : (("_end_in_cell" : Str) == "steps") = false := by decide +kernel
theorem nf__end_in_cell__steps_done : (("_end_in_cell" : Str) = "steps_done") = False := eq_false (by decide +kernel)
theorem nb__end_in_cell__steps_done : (("_end_in_cell" : Str) == "steps_done") = false := by decide +kernel
theorem nf__end_in_cell__writer : (("_end_in_cell" : Str) = "writer") = False := eq_false (by decide +kernel)
theorem nb__end_in_cell__writer : (("_end_in_cell" : Str) == "writer") = false := by decide +kernel
theorem nf__marks___end_in_cell : (("_marks" : Str) = "_end_in_cell") = False := eq_false (by decide +kernel)
theorem nb__marks___end_in_cell : (("_marks" : Str) == "_end_in_cell") = false := by decide +kernel
theorem nf__marks___return_to : (("_marks" : Str) = "_return_to") = False := eq_false (by decide +kernel)
theorem nb__marks___return_to : (("_marks" : Str) == "_return_to") = false := by decide +kernel
theorem nf__marks___splitter_at : (("_marks" : Str) = "_splitter_at") = False := eq_false (by decide +kernel)
theorem nb__marks___splitter_at : (("_marks" : Str) == "_splitter_at") = false := by decide +kernel
theorem nf__marks___walk : (("_marks" : Str) = "_walk") = False := eq_false (by decide +kernel)
theorem nb__marks___walk : (("_marks" : Str) == "_walk") = false := by decide +kernel
theorem nf__marks__cells : (("_marks" : Str) = "cells") = False := eq_false (by decide +kernel)
theorem nb__marks__cells : (("_marks" : Str) == "cells") = false := by decide +kernel
theorem nf__marks__closed : (("_marks" : Str) = "closed") = False := eq_false (by decide +kernel)
theorem nb__marks__closed : (("_marks" : Str) == "closed") = false := by decide +kernel
theorem nf__marks__done : (("_marks" : Str) = "done") = False := eq_false (by decide +kernel)
theorem nb__marks__done : (("_marks" : Str) == "done") = false := by decide +kernel
theorem nf__marks__names : (("_marks" : Str) = "names") = False := eq_false (by decide +kernel)
theorem nb__marks__names : (("_marks" : Str) == "names") = false := by decide +kernel
theorem nf__marks__places : (("_marks" : Str) = "places") = False := eq_false (by decide +kernel)
theorem nb__marks__places : (("_marks" : Str) == "places") = false := by decide +kernel
theorem nf__marks__play : (("_marks" : Str) = "play") = False := eq_false (by decide +kernel)
theorem nb__marks__play : (("_marks" : Str) == "play") = false := by decide +kernel
theorem nf__marks__process_count : (("_marks" : Str) = "process_count") = False := eq_false (by decide +kernel)
theorem nb__marks__process_count : (("_marks" : Str) == "process_count") = false := by decide +kernel
theorem nf__marks__reports : (("_marks" : Str) = "reports") = False := eq_false (by decide +kernel)
theorem nb__marks__reports : (("_marks" : Str) == "reports") = false := by decide +kernel
theorem nf__marks__steps : (("_marks" : Str) = "steps") = False := eq_false (by decide +kernel)
theorem nb__marks__steps : (("_marks" : Str) == "steps") = false := by decide +kernel
theorem nf__marks__steps_done : (("_marks" : Str) = "steps_done") = False := eq_false (by decide +kernel)
theorem nb__marks__steps_done : (("_marks" : Str) == "steps_done") = false := by decide +kernel
theorem nf__marks__writer : (("_marks" : Str) = "writer") = False := eq_false (by decide +kernel)
theorem nb__marks__writer : (("_marks" : Str) == "writer") = false := by decide +kernel
theorem nf__return_to___end_in_cell : (("_return_to" : Str) = "_end_in_cell") = False := eq_false (by decide +kernel)
theorem nb__return_to___end_in_cell : (("_return_to" : Str) == "_end_in_cell") = false := by decide +kernel
theorem nf__return_to___marks : (("_return_to" : Str) = "_marks") = False := eq_false (by decide +kernel)
theorem nb__return_to___marks : (("_return_to" : Str) == "_marks") = false := by decide +kernel
theorem nf__return_to___splitter_at : (("_return_to" : Str) = "_splitter_at") = False := eq_false (by decide +kernel)
theorem nb__return_to___splitter_at : (("_return_to" : Str) == "_splitter_at") = false := by decide +kernel
theorem nf__return_to___walk : (("_return_to" : Str) = "_walk") = False := eq_false (by decide +kernel)
theorem nb__return_to___walk : (("_return_to" : Str) == "_walk") = false := by decide +kernel
theorem nf__return_to__cells : (("_return_to" : Str) = "cells") = False := eq_false (by decide +kernel)
theorem nb__return_to__cells : (("_return_to" : Str) == "cells") = false := by decide +kernel
theorem nf__return_to__closed : (("_return_to" : Str) = "closed") = False := eq_false (by decide +kernel)
theorem nb__return_to__closed : (("_return_to" : Str) == "closed") = false := by decide +kernel
theorem nf__return_to__done : (("_return_to" : Str) = "done") = False := eq_false (by decide +kernel)
theorem nb__return_to__done : (("_return_to" : Str) == "done") = false := by decide +kernel
theorem nf__return_to__names : (("_return_to" : Str) = "names") = False := eq_false (by decide +kernel)
theorem nb__return_to__names : (("_return_to" : Str) == "names") = false := by decide +kernel
theorem nf__return_to__places : (("_return_to" : Str) = "places") = False := eq_false (by decide +kernel)
theorem nb__return_to__places : (("_return_to" : Str) == "places") = false := by decide +kernel
theorem nf__return_to__play : (("_return_to" : Str) = "play") = False := eq_false (by decide +kernel)
theorem nb__return_to__play : (("_return_to" : Str) == "play") = false := by decide +kernel
theorem nf__return_to__process_count : (("_return_to" : Str) = "process_count") = False := eq_false (by decide +kernel)
theorem nb__return_to__process_count : (("_return_to" : Str) == "process_count") = false := by decide +kernel
theorem nf__return_to__reports : (("_return_to" : Str) = "reports") = False := eq_false (by decide +kernel)
theorem nb__return_to__reports : (("_return_to" : Str) == "reports") = false := by decide +kernel
theorem nf__return_to__steps : (("_return_to" : Str) = "steps") = False := eq_false (by decide +kernel)
theorem nb__return_to__steps : (("_return_to" : Str) == "steps") = false := by decide +kernel
theorem nf__return_to__steps_done : (("_return_to" : Str) = "steps_done") = False := eq_false (by decide +kernel)
theorem nb__return_to__steps_done : (("_return_to" : Str) == "steps_done") = false := by decide +kernel
theorem nf__return_to__writer : (("_return_to" : Str) = "writer") = False := eq_false (by decide +kernel)
theorem nb__return_to__writer : (("_return_to" : Str) == "writer") = false := by decide +kernel
theorem nf__splitter_at___end_in_cell : (("_splitter_at" : Str) = "_end_in_cell") = False := eq_false (by decide +kernel)
theorem nb__splitter_at___end_in_cell : (("_splitter_at" : Str) == "_end_in_cell") = false := by decide +kernel
theorem nf__splitter_at___marks : (("_splitter_at" : Str) = "_marks") = False := eq_false (by decide +kernel)
theorem nb__splitter_at___marks : (("_splitter_at" : Str) == "_marks") = false := by decide +kernel
theorem nf__splitter_at___return_to : (("_splitter_at" : Str) = "_return_to") = False := eq_false (by decide +kernel)
theorem nb__splitter_at___return_to : (("_splitter_at" : Str) == "_return_to") = false := by decide +kernel
theorem nf__splitter_at___walk : (("_splitter_at" : Str) = "_walk") = False := eq_false (by decide +kernel)
theorem nb__splitter_at___walk : (("_splitter_at" : Str) == "_walk") = false := by decide +kernel
theorem nf__splitter_at__cells : (("_splitter_at" : Str) = "cells") = False := eq_false (by decide +kernel)
theorem nb__splitter_at__cells : (("_splitter_at" : Str) == "cells") = false := by decide +kernel
theorem nf__splitter_at__closed : (("_splitter_at" : Str) = "closed") = False := eq_false (by decide +kernel)
theorem nb__splitter_at__closed : (("_splitter_at" : Str) == "closed") = false := by decide +kernel
theorem nf__splitter_at__done : (("_splitter_at" : Str) = "done") = False := eq_false (by decide +kernel)
theorem nb__splitter_at__done : (("_splitter_at" : Str) == "done") = false := by decide +kernel
theorem nf__splitter_at__names : (("_splitter_at" : Str) = "names") = False := eq_false (by decide +kernel)
theorem nb__splitter_at__names : (("_splitter_at" : Str) == "names") = false := by decide +kernel
theorem nf__splitter_at__places : (("_splitter_at" : Str) = "places") = False := eq_false (by decide +kernel)
theorem nb__splitter_at__places : (("_splitter_at" : Str) == "places") = false := by decide +kernel
theorem nf__splitter_at__play : (("_splitter_at" : Str) = "play") = False := eq_false (by decide +kernel)
theorem nb__splitter_at__play : (("_splitter_at" : Str) == "play") = false := by decide +kernel
theorem nf__splitter_at__process_count : (("_splitter_at" : Str) = "process_count") = False := eq_false (by decide +kernel)
theorem nb__splitter_at__process_count : (("_splitter_at" : Str) == "process_count") = false := by decide +kernel
theorem nf__splitter_at__reports : (("_splitter_at" : Str) = "reports") = False := eq_false (by decide +kernel)
theorem nb__splitter_at__reports : (("_splitter_at" : Str) == "reports") = false := by decide +kernel
theorem nf__splitter_at__steps : (("_splitter_at" : Str) = "steps") = False := eq_false (by decide +kernel)
theorem nb__splitter_at__steps : (("_splitter_at" : Str) == "steps") = false := by decide +kernel
theorem nf__splitter_at__steps_done : (("_splitter_at" : Str) = "steps_done") = False := eq_false (by decide +kernel)
theorem nb__splitter_at__steps_done : (("_splitter_at" : Str) == "steps_done") = false := by decide +kernel
theorem nf__splitter_at__writer : (("_splitter_at" : Str) = "writer") = False := eq_false (by decide +kernel)
theorem nb__splitter_at__writer : (("_splitter_at" : Str) == "writer") = false := by decide +kernel
theorem nf__walk___end_in_cell : (("_walk" : Str) = "_end_in_cell") = False := eq_false (by decide +kernel)
theorem nb__walk___end_in_cell : (("_walk" : Str) == "_end_in_cell") = false := by decide +kernel
theorem nf__walk___marks : (("_walk" : Str) = "_marks") = False := eq_false (by decide +kernel)
theorem nb__walk___marks : (("_walk" : Str) == "_marks") = false := by decide +kernel
theorem nf__walk___return_to : (("_walk" : Str) = "_return_to") = False := eq_false (by decide +kernel)
theorem nb__walk___return_to : (("_walk" : Str) == "_return_to") = false := by decide +kernel
theorem nf__walk___splitter_at : (("_walk" : Str) = "_splitter_at") = False := eq_false (by decide +kernel)
theorem nb__walk___splitter_at : (("_walk" : Str) == "_splitter_at") = false := by decide +kernel
theorem nf__walk__cells : (("_walk" : Str) = "cells") = False := eq_false (by decide +kernel)
theorem nb__walk__cells : (("_walk" : Str) == "cells") = false := by decide +kernel
theorem nf__walk__closed : (("_walk" : Str) = "closed") = False := eq_false (by decide +kernel)
theorem nb__walk__closed : (("_walk" : Str) == "closed") = false := by decide +kernel
theorem nf__walk__done : (("_walk" : Str) = "done") = False := eq_false (by decide +kernel)
theorem nb__walk__done : (("_walk" : Str) == "done") = false := by decide +kernel
theorem nf__walk__names : (("_walk" : Str) = "names") = False := eq_false (by decide +kernel)
theorem nb__walk__names : (("_walk" : Str) == "names") = false := by decide +kernel
theorem nf__walk__places : (("_walk" : Str) = "places") = False := eq_false (by decide +kernel)
theorem nb__walk__places : (("_walk" : Str) == "places") = false := by decide +kernel
theorem nf__walk__play : (("_walk" : Str) = "play") = False := eq_false (by decide +kernel)
theorem nb__walk__play : (("_walk" : Str) == "play") = false := by decide +kernel
theorem nf__walk__process_count : (("_walk" : Str) = "process_count") = False := eq_false (by decide +kernel)
theorem nb__walk__process_count : (("_walk" : Str) == "process_count") = false := by decide +kernel
theorem nf__walk__reports : (("_walk" : Str) = "reports") = False := eq_false (by decide +kernel)
theorem nb__walk__reports : (("_walk" : Str) == "reports") = false := by decide +kernel
theorem nf__walk__steps : (("_walk" : Str) = "steps") = False := eq_false (by decide +kernel)
theorem nb__walk__steps : (("_walk" : Str) == "steps") = false := by decide +kernel
theorem nf__walk__steps_done : (("_walk" : Str) = "steps_done") = False := eq_false (by decide +kernel)
theorem nb__walk__steps_done : (("_walk" : Str) == "steps_done") = false := by decide +kernel
theorem nf__walk__writer : (("_walk" : Str) = "writer") = False := eq_false (by decide +kernel)
theorem nb__walk__writer : (("_walk" : Str) == "writer") = false := by decide +kernel
theorem nf_cells___end_in_cell : (("cells" : Str) = "_end_in_cell") = False := eq_false (by decide +kernel)
theorem nb_cells___end_in_cell : (("cells" : Str) == "_end_in_cell") = false := by decide +kernel
theorem nf_cells___marks : (("cells" : Str) = "_marks") = False := eq_false (by decide +kernel)
theorem nb_cells___marks : (("cells" : Str) == "_marks") = false := by decide +kernel
theorem nf_cells___return_to : (("cells" : Str) = "_return_to") = False := eq_false (by decide +kernel)
theorem nb_cells___return_to : (("cells" : Str) == "_return_to") = false := by decide +kernel
theorem nf_cells___splitter_at : (("cells" : Str) = "_splitter_at") = False := eq_false (by decide +kernel)
theorem nb_cells___splitter_at : (("cells" : Str) == "_splitter_at") = false := by decide +kernel
theorem nf_cells___walk : (("cells" : Str) = "_walk") = False := eq_false (by decide +kernel)
theorem nb_cells___walk : (("cells" : Str) == "_walk") = false := by decide +kernel
theorem nf_cells__closed : (("cells" : Str) = "closed") = False := eq_false (by decide +kernel)
theorem nb_cells__closed : (("cells" : Str) == "closed") = false := by decide +kernel
theorem nf_cells__done : (("cells" : Str) = "done") = False := eq_false (by decide +kernel)
theorem nb_cells__done : (("cells" : Str) == "done") = false := by decide +kernel
theorem nf_cells__names : (("cells" : Str) = "names") = False := eq_false (by decide +kernel)
theorem nb_cells__names : (("cells" : Str) == "names") = false := by decide +kernel
theorem nf_cells__places : (("cells" : Str) = "places") = False := eq_false (by decide +kernel)
theorem nb_cells__places : (("cells" : Str) == "places") = false := by decide +kernel
theorem nf_cells__play : (("cells" : Str) = "play") = False := eq_false (by decide +kernel)
theorem nb_cells__play : (("cells" : Str) == "play") = false := by decide +kernel
theorem nf_cells__process_count : (("cells" : Str) = "process_count") = False := eq_false (by decide +kernel)
theorem nb_cells__process_count : (("cells" : Str) == "process_count") = false := by decide +kernel
theorem nf_cells__reports : (("cells" : Str) = "reports") = False := eq_false (by decide +kernel)
theorem nb_cells__reports : (("cells" : Str) == "reports") = false := by decide +kernel
theorem nf_cells__steps : (("cells" : Str) = "steps") = False := eq_false (by decide +kernel)
theorem nb_cells__steps : (("cells" : Str) == "steps") = false := by decide +kernel
theorem nf_cells__steps_done : (("cells" : Str) = "steps_done") = False := eq_false (by decide +kernel)
theorem nb_cells__steps_done : (("cells" : Str) == "steps_done") = false := by decide +kernel
theorem nf_cells__writer : (("cells" : Str) = "writer") = False := eq_false (by decide +kernel)
theorem nb_cells__writer : (("cells" : Str) == "writer") = false := by decide +kernel
theorem nf_closed___end_in_cell : (("closed" : Str) = "_end_in_cell") = False := eq_false (by decide +kernel)
theorem nb_closed___end_in_cell : (("closed" : Str) == "_end_in_cell") = false := by decide +kernel
theorem nf_closed___marks : (("closed" : Str) = "_marks") = False := eq_false (by decide +kernel)
theorem nb_closed___marks : (("closed" : Str) == "_marks") = false := by decide +kernel
theorem nf_closed___return_to : (("closed" : Str) = "_return_to") = False := eq_false (by decide +kernel)
theorem nb_closed___return_to : (("closed" : Str) == "_return_to") = false := by decide +kernel
theorem nf_closed___splitter_at : (("closed" : Str) = "_splitter_at") = False := eq_false (by decide +kernel)
theorem nb_closed___splitter_at : (("closed" : Str) == "_splitter_at") = false := by decide +kernel
theorem nf_closed___walk : (("closed" : Str) = "_walk") = False := eq_false (by decide +kernel)
theorem nb_closed___walk : (("closed" : Str) == "_walk") = false := by decide +kernel
theorem nf_closed__cells : (("closed" : Str) = "cells") = False := eq_false (by decide +kernel)
theorem nb_closed__cells : (("closed" : Str) == "cells") = false := by decide +kernel
theorem nf_closed__done : (("closed" : Str) = "done") = False := eq_false (by decide +kernel)
theorem nb_closed__done : (("closed" : Str) == "done") = false := by decide +kernel
theorem nf_closed__names : (("closed" : Str) = "names") = False := eq_false (by decide +kernel)
theorem nb_closed__names : (("closed" : Str) == "names") = false := by decide +kernel
theorem nf_closed__places : (("closed" : Str) = "places") = False := eq_false (by decide +kernel)
theorem nb_closed__places : (("closed" : Str) == "places") = false := by decide +kernel
theorem nf_closed__play : (("closed" : Str) = "play") = False := eq_false (by decide +kernel)
theorem nb_closed__play : (("closed" : Str) == "play") = false := by decide +kernel
theorem nf_closed__process_count : (("closed" : Str) = "process_count") = False := eq_false (by decide +kernel)
theorem nb_closed__process_count : (("closed" : Str) == "process_count") = false := by decide +kernel
theorem nf_closed__reports : (("closed" : Str) = "reports") = False := eq_false (by decide +kernel)
theorem nb_closed__reports : (("closed" : Str) == "reports") = false := by decide +kernel
theorem nf_closed__steps : (("closed" : Str) = "steps") = False := eq_false (by decide +kernel)
theorem nb_closed__steps : (("closed" : Str) == "steps") = false := by decide +kernel
theorem nf_closed__steps_done : (("closed" : Str) = "steps_done") = False := eq_false (by decide +kernel)
theorem nb_closed__steps_done : (("closed" : Str) == "steps_done") = false := by decide +kernel
theorem nf_closed__writer : (("closed" : Str) = "writer") = False := eq_false (by decide +kernel)
theorem nb_closed__writer : (("closed" : Str) == "writer") = false := by decide +kernel
theorem nf_done___end_in_cell : (("done" : Str) = "_end_in_cell") = False := eq_false (by decide +kernel)
theorem nb_done___end_in_cell : (("done" : Str) == "_end_in_cell") = false := by decide +kernel
theorem nf_done___marks : (("done" : Str) = "_marks") = False := eq_false (by decide +kernel)
theorem nb_done___marks : (("done" : Str) == "_marks") = false := by decide +kernel
theorem nf_done___return_to : (("done" : Str) = "_return_to") = False := eq_false (by decide +kernel)
theorem nb_done___return_to : (("done" : Str) == "_return_to") = false := by decide +kernel
theorem nf_done___splitter_at : (("done" : Str) = "_splitter_at") = False := eq_false (by decide +kernel)
theorem nb_done___splitter_at : (("done" : Str) == "_splitter_at") = false := by decide +kernel
theorem nf_done___walk : (("done" : Str) = "_walk") = False := eq_false (by decide +kernel)
theorem nb_done___walk : (("done" : Str) == "_walk") = false := by decide +kernel
theorem nf_done__cells : (("done" : Str) = "cells") = False := eq_false (by decide +kernel)
theorem nb_done__cells : (("done" : Str) == "cells") = false := by decide +kernel
theorem nf_done__closed : (("done" : Str) = "closed") = False := eq_false (by decide +kernel)
theorem nb_done__closed : (("done" : Str) == "closed") = false := by decide +kernel
theorem nf_done__names : (("done" : Str) = "names") = False := eq_false (by decide +kernel)
theorem nb_done__names : (("done" : Str) == "names") = false := by decide +kernel
theorem nf_done__places : (("done" : Str) = "places") = False := eq_false (by decide +kernel)
theorem nb_done__places : (("done" : Str) == "places") = false := by decide +kernel
theorem nf_done__play : (("done" : Str) = "play") = False := eq_false (by decide +kernel)
theorem nb_done__play : (("done" : Str) == "play") = false := by decide +kernel
theorem nf_done__process_count : (("done" : Str) = "process_count") = False := eq_false (by decide +kernel)
theorem nb_done__process_count : (("done" : Str) == "process_count") = false := by decide +kernel
theorem nf_done__reports : (("done" : Str) = "reports") = False := eq_false (by decide +kernel)
theorem nb_done__reports : (("done" : Str) == "reports") = false := by decide +kernel
theorem nf_done__steps : (("done" : Str) = "steps") = False := eq_false (by decide +kernel)
theorem nb_done__steps : (("done" : Str) == "steps") = false := by decide +kernel
theorem nf_done__steps_done : (("done" : Str) = "steps_done") = False := eq_false (by decide +kernel)
theorem nb_done__steps_done : (("done" : Str) == "steps_done") = false := by decide +kernel
theorem nf_done__writer : (("done" : Str) = "writer") = False := eq_false (by decide +kernel)
theorem nb_done__writer : (("done" : Str) == "writer") = false := by decide +kernel
theorem nf_names___end_in_cell : (("names" : Str) = "_end_in_cell") = False := eq_false (by decide +kernel)
theorem nb_names___end_in_cell : (("names" : Str) == "_end_in_cell") = false := by decide +kernel
theorem nf_names___marks : (("names" : Str) = "_marks") = False := eq_false (by decide +kernel)
theorem nb_names___marks : (("names" : Str) == "_marks") = false := by decide +kernel
theorem nf_names___return_to : (("names" : Str) = "_return_to") = False := eq_false (by decide +kernel)
theorem nb_names___return_to : (("names" : Str) == "_return_to") = false := by decide +kernel
theorem nf_names___splitter_at : (("names" : Str) = "_splitter_at") = False := eq_false (by decide +kernel)
theorem nb_names___splitter_at : (("names" : Str) == "_splitter_at") = false := by decide +kernel
theorem nf_names___walk : (("names" : Str) = "_walk") = False := eq_false (by decide +kernel)
theorem nb_names___walk : (("names" : Str) == "_walk") = false := by decide +kernel
theorem nf_names__cells : (("names" : Str) = "cells") = False := eq_false (by decide +kernel)
theorem nb_names__cells : (("names" : Str) == "cells") = false := by decide +kernel
theorem nf_names__closed : (("names" : Str) = "closed") = False := eq_false (by decide +kernel)
theorem nb_names__closed : (("names" : Str) == "closed") = false := by decide +kernel
theorem nf_names__done : (("names" : Str) = "done") = False := eq_false (by decide +kernel)
theorem nb_names__done : (("names" : Str) == "done") = false := by decide +kernel
theorem nf_names__places : (("names" : Str) = "places") = False := eq_false (by decide +kernel)
theorem nb_names__places : (("names" : Str) == "places") = false := by decide +kernel
theorem nf_names__play : (("names" : Str) = "play") = False := eq_false (by decide +kernel)
theorem nb_names__play : (("names" : Str) == "play") = false := by decide +kernel
theorem nf_names__process_count : (("names" : Str) = "process_count") = False := eq_false (by decide +kernel)
theorem nb_names__process_count : (("names" : Str) == "process_count") = false := by decide +kernel
theorem nf_names__reports : (("names" : Str) = "reports") = False := eq_false (by decide +kernel)
theorem nb_names__reports : (("names" : Str) == "reports") = false := by decide +kernel
theorem nf_names__steps : (("names" : Str) = "steps") = False := eq_false (by decide +kernel)
theorem nb_names__steps : (("names" : Str) == "steps") = false := by decide +kernel
theorem nf_names__steps_done : (("names" : Str) = "steps_done") = False := eq_false (by decide +kernel)
theorem nb_names__steps_done : (("names" : Str) == "steps_done") = false := by decide +kernel
theorem nf_names__writer : (("names" : Str) = "writer") = False := eq_false (by decide +kernel)
theorem nb_names__writer : (("names" : Str) == "writer") = false := by decide +kernel
theorem nf_places___end_in_cell : (("places" : Str) = "_end_in_cell") = False := eq_false (by decide +kernel)
theorem nb_places___end_in_cell : (("places" : Str) == "_end_in_cell") = false := by decide +kernel
theorem nf_places___marks : (("places" : Str) = "_marks") = False := eq_false (by decide +kernel)
theorem nb_places___marks : (("places" : Str) == "_marks") = false := by decide +kernel
theorem nf_places___return_to : (("places" : Str) = "_return_to") = False := eq_false (by decide +kernel)
theorem nb_places___return_to : (("places" : Str) == "_return_to") = false := by decide +kernel
theorem nf_places___splitter_at : (("places" : Str) = "_splitter_at") = False := eq_false (by decide +kernel)
theorem nb_places___splitter_at : (("places" : Str) == "_splitter_at") = false := by decide +kernel
theorem nf_places___walk : (("places" : Str) = "_walk") = False := eq_false (by decide +kernel)
theorem nb_places___walk : (("places" : Str) == "_walk") = false := by decide +kernel
theorem nf_places__cells : (("places" : Str) = "cells") = False := eq_false (by decide +kernel)
theorem nb_places__cells : (("places" : Str) == "cells") = false := by decide +kernel
theorem nf_places__closed : (("places" : Str) = "closed") = False := eq_false (by decide +kernel)
theorem nb_places__closed : (("places" : Str) == "closed") = false := by decide +kernel
theorem nf_places__done : (("places" : Str) = "done") = False := eq_false (by decide +kernel)
theorem nb_places__done : (("places" : Str) == "done") = false := by decide +kernel
theorem nf_places__names : (("places" : Str) = "names") = False := eq_false (by decide +kernel)
theorem nb_places__names : (("places" : Str) == "names") = false := by decide +kernel
theorem nf_places__play : (("places" : Str) = "play") = False := eq_false (by decide +kernel)
theorem nb_places__play : (("places" : Str) == "play") = false := by decide +kernel
theorem nf_places__process_count : (("places" : Str) = "process_count") = False := eq_false (by decide +kernel)
theorem nb_places__process_count : (("places" : Str) == "process_count") = false := by decide +kernel
theorem nf_places__reports : (("places" : Str) = "reports") = False := eq_false (by decide +kernel)
theorem nb_places__reports : (("places" : Str) == "reports") = false := by decide +kernel
theorem nf_places__steps : (("places" : Str) = "steps") = False := eq_false (by decide +kernel)
theorem nb_places__steps : (("places" : Str) == "steps") = false := by decide +kernel
theorem nf_places__steps_done : (("places" : Str) = "steps_done") = False := eq_false (by decide +kernel)
theorem nb_places__steps_done : (("places" : Str) == "steps_done") = false := by decide +kernel
theorem nf_places__writer : (("places" : Str) = "writer") = False := eq_false (by decide +kernel)
theorem nb_places__writer : (("places" : Str) == "writer") = false := by decide +kernel
theorem nf_play___end_in_cell : (("play" : Str) = "_end_in_cell") = False := eq_false (by decide +kernel)
theorem nb_play___end_in_cell : (("play" : Str) == "_end_in_cell") = false := by decide +kernel
theorem nf_play___marks : (("play" : Str) = "_marks") = False := eq_false (by decide +kernel)
theorem nb_play___marks : (("play" : Str) == "_marks") = false := by decide +kernel
theorem nf_play___return_to : (("play" : Str) = "_return_to") = False := eq_false (by decide +kernel)
theorem nb_play___return_to : (("play" : Str) == "_return_to") = false := by decide +kernel
theorem nf_play___splitter_at : (("play" : Str) = "_splitter_at") = False := eq_false (by decide +kernel)
theorem nb_play___splitter_at : (("play" : Str) == "_splitter_at") = false := by decide +kernel
theorem nf_play___walk : (("play" : Str) = "_walk") = False := eq_false (by decide +kernel)
theorem nb_play___walk : (("play" : Str) == "_walk") = false := by decide +kernel
theorem nf_play__cells : (("play" : Str) = "cells") = False := eq_false (by decide +kernel)
theorem nb_play__cells : (("play" : Str) == "cells") = false := by decide +kernel
theorem nf_play__closed : (("play" : Str) = "closed") = False := eq_false (by decide +kernel)
theorem nb_play__closed : (("play" : Str) == "closed") = false := by decide +kernel
theorem nf_play__done : (("play" : Str) = "done") = False := eq_false (by decide +kernel)
theorem nb_play__done : (("play" : Str) == "done") = false := by decide +kernel
theorem nf_play__names : (("play" : Str) = "names") = False := eq_false (by decide +kernel)
theorem nb_play__names : (("play" : Str) == "names") = false := by decide +kernel
theorem nf_play__places : (("play" : Str) = "places") = False := eq_false (by decide +kernel)
theorem nb_play__places : (("play" : Str) == "places") = false := by decide +kernel
theorem nf_play__process_count : (("play" : Str) = "process_count") = False := eq_false (by decide +kernel)
theorem nb_play__process_count : (("play" : Str) == "process_count") = false := by decide +kernel
theorem nf_play__reports : (("play" : Str) = "reports") = False := eq_false (by decide +kernel)
theorem nb_play__reports : (("play" : Str) == "reports") = false := by decide +kernel
theorem nf_play__steps : (("play" : Str) = "steps") = False := eq_false (by decide +kernel)
theorem nb_play__steps : (("play" : Str) == "steps") = false := by decide +kernel
theorem nf_play__steps_done : (("play" : Str) = "steps_done") = False := eq_false (by decide +kernel)
theorem nb_play__steps_done : (("play" : Str) == "steps_done") = false := by decide +kernel
theorem nf_play__writer : (("play" : Str) = "writer") = False := eq_false (by decide +kernel)
theorem nb_play__writer : (("play" : Str) == "writer") = false := by decide +kernel
theorem nf_process_count___end_in_cell : (("process_count" : Str) = "_end_in_cell") = False := eq_false (by decide +kernel)
theorem nb_process_count___end_in_cell : (("process_count" : Str) == "_end_in_cell") = false := by decide +kernel
theorem nf_process_count___marks : (("process_count" : Str) = "_marks") = False := eq_false (by decide +kernel)
theorem nb_process_count___marks : (("process_count" : Str) == "_marks") = false := by decide +kernel
theorem nf_process_count___return_to : (("process_count" : Str) = "_return_to") = False := eq_false (by decide +kernel)
theorem nb_process_count___return_to : (("process_count" : Str) == "_return_to") = false := by decide +kernel
theorem nf_process_count___splitter_at : (("process_count" : Str) = "_splitter_at") = False := eq_false (by decide +kernel)
theorem nb_process_count___splitter_at : (("process_count" : Str) == "_splitter_at") = false := by decide +kernel
theorem nf_process_count___walk : (("process_count" : Str) = "_walk") = False := eq_false (by decide +kernel)
theorem nb_process_count___walk : (("process_count" : Str) == "_walk") = false := by decide +kernel
theorem nf_process_count__cells : (("process_count" : Str) = "cells") = False := eq_false (by decide +kernel)
theorem nb_process_count__cells : (("process_count" : Str) == "cells") = false := by decide +kernel
theorem nf_process_count__closed : (("process_count" : Str) = "closed") = False := eq_false (by decide +kernel)
theorem nb_process_count__closed : (("process_count" : Str) == "closed") = false := by decide +kernel
theorem nf_process_count__done : (("process_count" : Str) = "done") = False := eq_false (by decide +kernel)
theorem nb_process_count__done : (("process_count" : Str) == "done") = false := by decide +kernel
theorem nf_process_count__names : (("process_count" : Str) = "names") = False := eq_false (by decide +kernel)
theorem nb_process_count__names : (("process_count" : Str) == "names") = false := by decide +kernel
theorem nf_process_count__places : (("process_count" : Str) = "places") = False := eq_false (by decide +kernel)
theorem nb_process_count__places : (("process_count" : Str) == "places") = false := by decide +kernel
theorem nf_process_count__play : (("process_count" : Str) = "play") = False := eq_false (by decide +kernel)
theorem nb_process_count__play : (("process_count" : Str) == "play") = false := by decide +kernel
theorem nf_process_count__reports : (("process_count" : Str) = "reports") = False := eq_false (by decide +kernel)
theorem nb_process_count__reports : (("process_count" : Str) == "reports") = false := by decide +kernel
theorem nf_process_count__steps : (("process_count" : Str) = "steps") = False := eq_false (by decide +kernel)
theorem nb_process_count__steps : (("process_count" : Str) == "steps") = false := by decide +kernel
theorem nf_process_count__steps_done : (("process_count" : Str) = "steps_done") = False := eq_false (by decide +kernel)
theorem nb_process_count__steps_done : (("process_count" : Str) == "steps_done") = false := by decide +kernel
theorem nf_process_count__writer : (("process_count" : Str) = "writer") = False := eq_false (by decide +kernel)
theorem nb_process_count__writer : (("process_count" : Str) == "writer") = false := by decide +kernel
theorem nf_reports___end_in_cell : (("reports" : Str) = "_end_in_cell") = False := eq_false (by decide +kernel)
theorem nb_reports___end_in_cell : (("reports" : Str) == "_end_in_cell") = false := by decide +kernel
theorem nf_reports___marks : (("reports" : Str) = "_marks") = False := eq_false (by decide +kernel)
theorem nb_reports___marks : (("reports" : Str) == "_marks") = false := by decide +kernel
theorem nf_reports___return_to : (("reports" : Str) = "_return_to") = False := eq_false (by decide +kernel)
theorem nb_reports___return_to : (("reports" : Str) == "_return_to") = false := by decide +kernel
theorem nf_reports___splitter_at : (("reports" : Str) = "_splitter_at") = False := eq_false (by decide +kernel)
theorem nb_reports___splitter_at : (("reports" : Str) == "_splitter_at") = false := by decide +kernel
theorem nf_reports___walk : (("reports" : Str) = "_walk") = False := eq_false (by decide +kernel)
theorem nb_reports___walk : (("reports" : Str) == "_walk") = false := by decide +kernel
theorem nf_reports__cells : (("reports" : Str) = "cells") = False := eq_false (by decide +kernel)
theorem nb_reports__cells : (("reports" : Str) == "cells") = false := by decide +kernel
theorem nf_reports__closed : (("reports" : Str) = "closed") = False := eq_false (by decide +kernel)
theorem nb_reports__closed : (("reports" : Str) == "closed") = false := by decide +kernel
theorem nf_reports__done : (("reports" : Str) = "done") = False := eq_false (by decide +kernel)
theorem nb_reports__done : (("reports" : Str) == "done") = false := by decide +kernel
theorem nf_reports__names : (("reports" : Str) = "names") = False := eq_false (by decide +kernel)
theorem nb_reports__names : (("reports" : Str) == "names") = false := by decide +kernel
theorem nf_reports__places : (("reports" : Str) = "places") = False := eq_false (by decide +kernel)
theorem nb_reports__places : (("reports" : Str) == "places") = false := by decide +kernel
theorem nf_reports__play : (("reports" : Str) = "play") = False := eq_false (by decide +kernel)
theorem nb_reports__play : (("reports" : Str) == "play") = false := by decide +kernel
theorem nf_reports__process_count : (("reports" : Str) = "process_count") = False := eq_false (by decide +kernel)
theorem nb_reports__process_count : (("reports" : Str) == "process_count") = false := by decide +kernel
theorem nf_reports__steps : (("reports" : Str) = "steps") = False := eq_false (by decide +kernel)
theorem nb_reports__steps : (("reports" : Str) == "steps") = false := by decide +kernel
theorem nf_reports__steps_done : (("reports" : Str) = "steps_done") = False := eq_false (by decide +kernel)
theorem nb_reports__steps_done : (("reports" : Str) == "steps_done") = false := by decide +kernel
theorem nf_reports__writer : (("reports" : Str) = "writer") = False := eq_false (by decide +kernel)
theorem nb_reports__writer : (("reports" : Str) == "writer") = false := by decide +kernel
theorem nf_steps___end_in_cell : (("steps" : Str) = "_end_in_cell") = False := eq_false (by decide +kernel)
theorem nb_steps___end_in_cell : (("steps" : Str) == "_end_in_cell") = false := by decide +kernel
theorem nf_steps___marks : (("steps" : Str) = "_marks") = False := eq_false (by decide +kernel)
theorem nb_steps___marks : (("steps" : Str) == "_marks") = false := by decide +kernel
theorem nf_steps___return_to : (("steps" : Str) = "_return_to") = False := eq_false (by decide +kernel)
theorem nb_steps___return_to : (("steps" : Str) == "_return_to") = false := by decide +kernel
theorem nf_steps___splitter_at : (("steps" : Str) = "_splitter_at") = False := eq_false (by decide +kernel)
theorem nb_steps___splitter_at : (("steps" : Str) == "_splitter_at") = false := by decide +kernel
theorem nf_steps___walk : (("steps" : Str) = "_walk") = False := eq_false (by decide +kernel)
theorem nb_steps___walk : (("steps" : Str) == "_walk") = false := by decide +kernel
theorem nf_steps__cells : (("steps" : Str) = "cells") = False := eq_false (by decide +kernel)
theorem nb_steps__cells : (("steps" : Str) == "cells") = false := by decide +kernel
theorem nf_steps__closed : (("steps" : Str) = "closed") = False := eq_false (by decide +kernel)
theorem nb_steps__closed : (("steps" : Str) == "closed") = false := by decide +kernel
theorem nf_steps__done : (("steps" : Str) = "done") = False := eq_false (by decide +kernel)
theorem nb_steps__done : (("steps" : Str) == "done") = false := by decide +kernel
theorem nf_steps__names : (("steps" : Str) = "names") = False := eq_false (by decide +kernel)
theorem nb_steps__names : (("steps" : Str) == "names") = false := by decide +kernel
theorem nf_steps__places : (("steps" : Str) = "places") = False := eq_false (by decide +kernel)
theorem nb_steps__places : (("steps" : Str) == "places") = false := by decide +kernel
theorem nf_steps__play : (("steps" : Str) = "play") = False := eq_false (by decide +kernel)
theorem nb_steps__play : (("steps" : Str) == "play") = false := by decide +kernel
theorem nf_steps__process_count : (("steps" : Str) = "process_count") = False := eq_false (by decide +kernel)
theorem nb_steps__process_count : (("steps" : Str) == "process_count") = false := by decide +kernel
theorem nf_steps__reports : (("steps" : Str) = "reports") = False := eq_false (by decide +kernel)
theorem nb_steps__reports : (("steps" : Str) == "reports") = false := by decide +kernel
theorem nf_steps__steps_done : (("steps" : Str) = "steps_done") = False := eq_false (by decide +kernel)
theorem nb_steps__steps_done : (("steps" : Str) == "steps_done") = false := by decide +kernel
theorem nf_steps__writer : (("steps" : Str) = "writer") = False := eq_false (by decide +kernel)
theorem nb_steps__writer : (("steps" : Str) == "writer") = false := by decide +kernel
theorem nf_steps_done___end_in_cell : (("steps_done" : Str) = "_end_in_cell") = False := eq_false (by decide +kernel)
theorem nb_steps_done___end_in_cell : (("steps_done" : Str) == "_end_in_cell") = false := by decide +kernel
theorem nf_steps_done___marks : (("steps_done" : Str) = "_marks") = False := eq_false (by decide +kernel)
theorem nb_steps_done___marks : (("steps_done" : Str) == "_marks") = false := by decide +kernel
theorem nf_steps_done___return_to : (("steps_done" : Str) = "_return_to") = False := eq_false (by decide +kernel)
theorem nb_steps_done___return_to : (("steps_done" : Str) == "_return_to") = false := by decide +kernel
theorem nf_steps_done___splitter_at : (("steps_done" : Str) = "_splitter_at") = False := eq_false (by decide +kernel)
theorem nb_steps_done___splitter_at : (("steps_done" : Str) == "_splitter_at") = false := by decide +kernel
theorem nf_steps_done___walk : (("steps_done" : Str) = "_walk") = False := eq_false (by decide +kernel)
theorem nb_steps_done___walk : (("steps_done" : Str) == "_walk") = false := by decide +kernel
theorem nf_steps_done__cells : (("steps_done" : Str) = "cells") = False := eq_false (by decide +kernel)
theorem nb_steps_done__cells : (("steps_done" : Str) == "cells") = false := by decide +kernel
theorem nf_steps_done__closed : (("steps_done" : Str) = "closed") = False := eq_false (by decide +kernel)
theorem nb_steps_done__closed : (("steps_done" : Str) == "closed") = false := by decide +kernel
theorem nf_steps_done__done : (("steps_done" : Str) = "done") = False := eq_false (by decide +kernel)
theorem nb_steps_done__done : (("steps_done" : Str) == "done") = false := by decide +kernel
theorem nf_steps_done__names : (("steps_done" : Str) = "names") = False := eq_false (by decide +kernel)
theorem nb_steps_done__names : (("steps_done" : Str) == "names") = false := by decide +kernel
theorem nf_steps_done__places : (("steps_done" : Str) = "places") = False := eq_false (by decide +kernel)
theorem nb_steps_done__places : (("steps_done" : Str) == "places") = false := by decide +kernel
theorem nf_steps_done__play : (("steps_done" : Str) = "play") = False := eq_false (by decide +kernel)
theorem nb_steps_done__play : (("steps_done" : Str) == "play") = false := by decide +kernel
theorem nf_steps_done__process_count : (("steps_done" : Str) = "process_count") = False := eq_false (by decide +kernel)
theorem nb_steps_done__process_count : (("steps_done" : Str) == "process_count") = false := by decide +kernel
theorem nf_steps_done__reports : (("steps_done" : Str) = "reports") = False := eq_false (by decide +kernel)
theorem nb_steps_done__reports : (("steps_done" : Str) == "reports") = false := by decide +kernel
theorem nf_steps_done__steps : (("steps_done" : Str) = "steps") = False := eq_false (by decide +kernel)
theorem nb_steps_done__steps : (("steps_done" : Str) == "steps") = false := by decide +kernel
theorem nf_steps_done__writer : (("steps_done" : Str) = "writer") = False := eq_false (by decide +kernel)
theorem nb_steps_done__writer : (("steps_done" : Str) == "writer") = false := by decide +kernel
theorem nf_writer___end_in_cell : (("writer" : Str) = "_end_in_cell") = False := eq_false (by decide +kernel)
theorem nb_writer___end_in_cell : (("writer" : Str) == "_end_in_cell") = false := by decide +kernel
theorem nf_writer___marks : (("writer" : Str) = "_marks") = False := eq_false (by decide +kernel)
theorem nb_writer___marks : (("writer" : Str) == "_marks") = false := by decide +kernel
theorem nf_writer___return_to : (("writer" : Str) = "_return_to") = False := eq_false (by decide +kernel)
theorem nb_writer___return_to : (("writer" : Str) == "_return_to") = false := by decide +kernel
theorem nf_writer___splitter_at : (("writer" : Str) = "_splitter_at") = False := eq_false (by decide +kernel)
theorem nb_writer___splitter_at : (("writer" : Str) == "_splitter_at") = false := by decide +kernel
theorem nf_writer___walk : (("writer" : Str) = "_walk") = False := eq_false (by decide +kernel)
theorem nb_writer___walk : (("writer" : Str) == "_walk") = false := by decide +kernel
theorem nf_writer__cells : (("writer" : Str) = "cells") = False := eq_false (by decide +kernel)
theorem nb_writer__cells : (("writer" : Str) == "cells") = false := by decide +kernel
theorem nf_writer__closed : (("writer" : Str) = "closed") = False := eq_false (by decide +kernel)
theorem nb_writer__closed : (("writer" : Str) == "closed") = false := by decide +kernel
theorem nf_writer__done : (("writer" : Str) = "done") = False := eq_false (by decide +kernel)
theorem nb_writer__done : (("writer" : Str) == "done") = false := by decide +kernel
theorem nf_writer__names : (("writer" : Str) = "names") = False := eq_false (by decide +kernel)
theorem nb_writer__names : (("writer" : Str) == "names") = false := by decide +kernel
theorem nf_writer__places : (("writer" : Str) = "places") = False := eq_false (by decide +kernel)
theorem nb_writer__places : (("writer" : Str) == "places") = false := by decide +kernel
theorem nf_writer__play : (("writer" : Str) = "play") = False := eq_false (by decide +kernel)
theorem nb_writer__play : (("writer" : Str) == "play") = false := by decide +kernel
theorem nf_writer__process_count : (("writer" : Str) = "process_count") = False := eq_false (by decide +kernel)
theorem nb_writer__process_count : (("writer" : Str) == "process_count") = false := by decide +kernel
theorem nf_writer__reports : (("writer" : Str) = "reports") = False := eq_false (by decide +kernel)
theorem nb_writer__reports : (("writer" : Str) == "reports") = false := by decide +kernel
theorem nf_writer__steps : (("writer" : Str) = "steps") = False := eq_false (by decide +kernel)
theorem nb_writer__steps : (("writer" : Str) == "steps") = false := by decide +kernel
theorem nf_writer__steps_done : (("writer" : Str) = "steps_done") = False := eq_false (by decide +kernel)
theorem nb_writer__steps_done : (("writer" : Str) == "steps_done") = false := by decide +kernel
end My

open PySem PySem.Spec PyProof.Rows L2 Vg
set_option hygiene false in
local macro_rules | `(tactic| walk_at "vc") => `(tactic| try simp only [k_cx, k_cx2, x_isI_list, x_isI_str, x_isI_dict, x_isI_tuple, x_isB_list, x_isB_str, x_isB_dict, x_isB_tuple, x_isN_list, x_isN_str, x_isN_dict, x_isN_tuple, x_isS_list, x_isS_dict, x_isS_tuple, x_reprQ, x_cnt, e_revL, x_tupL, e_dn, e_d1, x_dctP, x_strI, x_intB, e_din, e_dnin, x_sortedP, Option.isSome_none, Option.isSome_some, e_dget, e_dget2, s_dput, e_dnT, i_zip, e_disp, tp_nil, tp_cons, x_joinS, x_splitS, x_asciiS, x_digitS, x_intS, x_lenS, x_mulS, x_ixS, ty_S, x_listOf, e_call, e_meth, e_methR, e_make, e_prop, x_lenO, s_par3, e_icon, e_cval, e_fmt, e_jo, e_jo0, g_unl, e_cmeth, e_makeV, x_isX, x_isXT, x_oeq, x_one, x_isW, x_intI, x_lenD, My.cp_10_15, My.sz_2, My.sz_3, My.sz_0, My.sz_1, My.cp_10_41, My.cp_10_40, My.cp_10_18, My.nf__end_in_cell___marks, My.nb__end_in_cell___marks, My.nf__end_in_cell___return_to, My.nb__end_in_cell___return_to, My.nf__end_in_cell___splitter_at, My.nb__end_in_cell___splitter_at, My.nf__end_in_cell___walk, My.nb__end_in_cell___walk, My.nf__end_in_cell__cells, My.nb__end_in_cell__cells, My.nf__end_in_cell__closed, My.nb__end_in_cell__closed, My.nf__end_in_cell__done, My.nb__end_in_cell__done, My.nf__end_in_cell__names, My.nb__end_in_cell__names, My.nf__end_in_cell__places, My.nb__end_in_cell__places, My.nf__end_in_cell__play, My.nb__end_in_cell__play, My.nf__end_in_cell__process_count, My.nb__end_in_cell__process_count, My.nf__end_in_cell__reports, My.nb__end_in_cell__reports, My.nf__end_in_cell__steps, My.nb__end_in_cell__steps, My.nf__end_in_cell__steps_done, My.nb__end_in_cell__steps_done, My.nf__end_in_cell__writer, My.nb__end_in_cell__writer, My.nf__marks___end_in_cell, My.nb__marks___end_in_cell, My.nf__marks___return_to, My.nb__marks___return_to, My.nf__marks___splitter_at, My.nb__marks___splitter_at, My.nf__marks___walk, My.nb__marks___walk, My.nf__marks__cells, My.nb__marks__cells, My.nf__marks__closed, My.nb__marks__closed, My.nf__marks__done, My.nb__marks__done, My.nf__marks__names, My.nb__marks__names, My.nf__marks__places, My.nb__marks__places, My.nf__marks__play, My.nb__marks__play, My.nf__marks__process_count, My.nb__marks__process_count, My.nf__marks__reports, My.nb__marks__reports, My.nf__marks__steps, My.nb__marks__steps, My.nf__marks__steps_done, My.nb__marks__steps_done, My.nf__marks__writer, My.nb__marks__writer, My.nf__return_to___end_in_cell, My.nb__return_to___end_in_cell, My.nf__return_to___marks, My.nb__return_to___marks, My.nf__return_to___splitter_at, My.nb__return_to___splitter_at, My.nf__return_to___walk, My.nb__return_to___walk, My.nf__return_to__cells, My.nb__return_to__cells, My.nf__return_to__closed, My.nb__return_to__closed, My.nf__return_to__done, My.nb__return_to__done, My.nf__return_to__names, My.nb__return_to__names, My.nf__return_to__places, My.nb__return_to__places, My.nf__return_to__play, My.nb__return_to__play, My.nf__return_to__process_count, My.nb__return_to__process_count, My.nf__return_to__reports, My.nb__return_to__reports, My.nf__return_to__steps, My.nb__return_to__steps, My.nf__return_to__steps_done, My.nb__return_to__steps_done, My.nf__return_to__writer, My.nb__return_to__writer, My.nf__splitter_at___end_in_cell, My.nb__splitter_at___end_in_cell, My.nf__splitter_at___marks, My.nb__splitter_at___marks, My.nf__splitter_at___return_to, My.nb__splitter_at___return_to, My.nf__splitter_at___walk, My.nb__splitter_at___walk, My.nf__splitter_at__cells, My.nb__splitter_at__cells, My.nf__splitter_at__closed, My.nb__splitter_at__closed, My.nf__splitter_at__done, My.nb__splitter_at__done, My.nf__splitter_at__names, My.nb__splitter_at__names, My.nf__splitter_at__places, My.nb__splitter_at__places, My.nf__splitter_at__play, My.nb__splitter_at__play, My.nf__splitter_at__process_count, My.nb__splitter_at__process_count, My.nf__splitter_at__reports, My.nb__splitter_at__reports, My.nf__splitter_at__steps, My.nb__splitter_at__steps, My.nf__splitter_at__steps_done, My.nb__splitter_at__steps_done, My.nf__splitter_at__writer, My.nb__splitter_at__writer, My.nf__walk___end_in_cell, My.nb__walk___end_in_cell, My.nf__walk___marks, My.nb__walk___marks, My.nf__walk___return_to, My.nb__walk___return_to, My.nf__walk___splitter_at, My.nb__walk___splitter_at, My.nf__walk__cells, My.nb__walk__cells, My.nf__walk__closed, My.nb__walk__closed, My.nf__walk__done, My.nb__walk__done, My.nf__walk__names, My.nb__walk__names, My.nf__walk__places, My.nb__walk__places, My.nf__walk__play, My.nb__walk__play, My.nf__walk__process_count, My.nb__walk__process_count, My.nf__walk__reports, My.nb__walk__reports, My.nf__walk__steps, My.nb__walk__steps, My.nf__walk__steps_done, My.nb__walk__steps_done, My.nf__walk__writer, My.nb__walk__writer, My.nf_cells___end_in_cell, My.nb_cells___end_in_cell, My.nf_cells___marks, My.nb_cells___marks, My.nf_cells___return_to, My.nb_cells___return_to, My.nf_cells___splitter_at, My.nb_cells___splitter_at, My.nf_cells___walk, My.nb_cells___walk, My.nf_cells__closed, My.nb_cells__closed, My.nf_cells__done, My.nb_cells__done, My.nf_cells__names, My.nb_cells__names, My.nf_cells__places, My.nb_cells__places, My.nf_cells__play, My.nb_cells__play, My.nf_cells__process_count, My.nb_cells__process_count, My.nf_cells__reports, My.nb_cells__reports, My.nf_cells__steps, My.nb_cells__steps, My.nf_cells__steps_done, My.nb_cells__steps_done, My.nf_cells__writer, My.nb_cells__writer, My.nf_closed___end_in_cell, My.nb_closed___end_in_cell, My.nf_closed___marks, My.nb_closed___marks, My.nf_closed___return_to, My.nb_closed___return_to, My.nf_closed___splitter_at, My.nb_closed___splitter_at, My.nf_closed___walk, My.nb_closed___walk, My.nf_closed__cells, My.nb_closed__cells, My.nf_closed__done, My.nb_closed__done, My.nf_closed__names, My.nb_closed__names, My.nf_closed__places, My.nb_closed__places, My.nf_closed__play, My.nb_closed__play, My.nf_closed__process_count, My.nb_closed__process_count, My.nf_closed__reports, My.nb_closed__reports, My.nf_closed__steps, My.nb_closed__steps, My.nf_closed__steps_done, My.nb_closed__steps_done, My.nf_closed__writer, My.nb_closed__writer, My.nf_done___end_in_cell, My.nb_done___end_in_cell, My.nf_done___marks, My.nb_done___marks, My.nf_done___return_to, My.nb_done___return_to, My.nf_done___splitter_at, My.nb_done___splitter_at, My.nf_done___walk, My.nb_done___walk, My.nf_done__cells, My.nb_done__cells, My.nf_done__closed, My.nb_done__closed, My.nf_done__names, My.nb_done__names, My.nf_done__places, My.nb_done__places, My.nf_done__play, My.nb_done__play, My.nf_done__process_count, My.nb_done__process_count, My.nf_done__reports, My.nb_done__reports, My.nf_done__steps, My.nb_done__steps, My.nf_done__steps_done, My.nb_done__steps_done, My.nf_done__writer, My.nb_done__writer, My.nf_names___end_in_cell, My.nb_names___end_in_cell, My.nf_names___marks, My.nb_names___marks, My.nf_names___return_to, My.nb_names___return_to, My.nf_names___splitter_at, My.nb_names___splitter_at, My.nf_names___walk, My.nb_names___walk, My.nf_names__cells, My.nb_names__cells, My.nf_names__closed, My.nb_names__closed, My.nf_names__done, My.nb_names__done, My.nf_names__places, My.nb_names__places, My.nf_names__play, My.nb_names__play, My.nf_names__process_count, My.nb_names__process_count, My.nf_names__reports, My.nb_names__reports, My.nf_names__steps, My.nb_names__steps, My.nf_names__steps_done, My.nb_names__steps_done, My.nf_names__writer, My.nb_names__writer, My.nf_places___end_in_cell, My.nb_places___end_in_cell, My.nf_places___marks, My.nb_places___marks, My.nf_places___return_to, My.nb_places___return_to, My.nf_places___splitter_at, My.nb_places___splitter_at, My.nf_places___walk, My.nb_places___walk, My.nf_places__cells, My.nb_places__cells, My.nf_places__closed, My.nb_places__closed, My.nf_places__done, My.nb_places__done, My.nf_places__names, My.nb_places__names, My.nf_places__play, My.nb_places__play, My.nf_places__process_count, My.nb_places__process_count, My.nf_places__reports, My.nb_places__reports, My.nf_places__steps, My.nb_places__steps, My.nf_places__steps_done, My.nb_places__steps_done, My.nf_places__writer, My.nb_places__writer, My.nf_play___end_in_cell, My.nb_play___end_in_cell, My.nf_play___marks, My.nb_play___marks, My.nf_play___return_to, My.nb_play___return_to, My.nf_play___splitter_at, My.nb_play___splitter_at, My.nf_play___walk, My.nb_play___walk, My.nf_play__cells, My.nb_play__cells, My.nf_play__closed, My.nb_play__closed, My.nf_play__done, My.nb_play__done, My.nf_play__names, My.nb_play__names, My.nf_play__places, My.nb_play__places, My.nf_play__process_count, My.nb_play__process_count, My.nf_play__reports, My.nb_play__reports, My.nf_play__steps, My.nb_play__steps, My.nf_play__steps_done, My.nb_play__steps_done, My.nf_play__writer, My.nb_play__writer, My.nf_process_count___end_in_cell, My.nb_process_count___end_in_cell, My.nf_process_count___marks, My.nb_process_count___marks, My.nf_process_count___return_to, My.nb_process_count___return_to, My.nf_process_count___splitter_at, My.nb_process_count___splitter_at, My.nf_process_count___walk, My.nb_process_count___walk, My.nf_process_count__cells, My.nb_process_count__cells, My.nf_process_count__closed, My.nb_process_count__closed, My.nf_process_count__done, My.nb_process_count__done, My.nf_process_count__names, My.nb_process_count__names, My.nf_process_count__places, My.nb_process_count__places, My.nf_process_count__play, My.nb_process_count__play, My.nf_process_count__reports, My.nb_process_count__reports, My.nf_process_count__steps, My.nb_process_count__steps, My.nf_process_count__steps_done, My.nb_process_count__steps_done, My.nf_process_count__writer, My.nb_process_count__writer, My.nf_reports___end_in_cell, My.nb_reports___end_in_cell, My.nf_reports___marks, My.nb_reports___marks, My.nf_reports___return_to, My.nb_reports___return_to, My.nf_reports___splitter_at, My.nb_reports___splitter_at, My.nf_reports___walk, My.nb_reports___walk, My.nf_reports__cells, My.nb_reports__cells, My.nf_reports__closed, My.nb_reports__closed, My.nf_reports__done, My.nb_reports__done, My.nf_reports__names, My.nb_reports__names, My.nf_reports__places, My.nb_reports__places, My.nf_reports__play, My.nb_reports__play, My.nf_reports__process_count, My.nb_reports__process_count, My.nf_reports__steps, My.nb_reports__steps, My.nf_reports__steps_done, My.nb_reports__steps_done, My.nf_reports__writer, My.nb_reports__writer, My.nf_steps___end_in_cell, My.nb_steps___end_in_cell, My.nf_steps___marks, My.nb_steps___marks, My.nf_steps___return_to, My.nb_steps___return_to, My.nf_steps___splitter_at, My.nb_steps___splitter_at, My.nf_steps___walk, My.nb_steps___walk, My.nf_steps__cells, My.nb_steps__cells, My.nf_steps__closed, My.nb_steps__closed, My.nf_steps__done, My.nb_steps__done, My.nf_steps__names, My.nb_steps__names, My.nf_steps__places, My.nb_steps__places, My.nf_steps__play, My.nb_steps__play, My.nf_steps__process_count, My.nb_steps__process_count, My.nf_steps__reports, My.nb_steps__reports, My.nf_steps__steps_done, My.nb_steps__steps_done, My.nf_steps__writer, My.nb_steps__writer, My.nf_steps_done___end_in_cell, My.nb_steps_done___end_in_cell, My.nf_steps_done___marks, My.nb_steps_done___marks, My.nf_steps_done___return_to, My.nb_steps_done___return_to, My.nf_steps_done___splitter_at, My.nb_steps_done___splitter_at, My.nf_steps_done___walk, My.nb_steps_done___walk, My.nf_steps_done__cells, My.nb_steps_done__cells, My.nf_steps_done__closed, My.nb_steps_done__closed, My.nf_steps_done__done, My.nb_steps_done__done, My.nf_steps_done__names, My.nb_steps_done__names, My.nf_steps_done__places, My.nb_steps_done__places, My.nf_steps_done__play, My.nb_steps_done__play, My.nf_steps_done__process_count, My.nb_steps_done__process_count, My.nf_steps_done__reports, My.nb_steps_done__reports, My.nf_steps_done__steps, My.nb_steps_done__steps, My.nf_steps_done__writer, My.nb_steps_done__writer, My.nf_writer___end_in_cell, My.nb_writer___end_in_cell, My.nf_writer___marks, My.nb_writer___marks, My.nf_writer___return_to, My.nb_writer___return_to, My.nf_writer___splitter_at, My.nb_writer___splitter_at, My.nf_writer___walk, My.nb_writer___walk, My.nf_writer__cells, My.nb_writer__cells, My.nf_writer__closed, My.nb_writer__closed, My.nf_writer__done, My.nb_writer__done, My.nf_writer__names, My.nb_writer__names, My.nf_writer__places, My.nb_writer__places, My.nf_writer__play, My.nb_writer__play, My.nf_writer__process_count, My.nb_writer__process_count, My.nf_writer__reports, My.nb_writer__reports, My.nf_writer__steps, My.nb_writer__steps, My.nf_writer__steps_done, My.nb_writer__steps_done, List.lookup, putF, beq_self_eq_true, e_var, e_c, e_op, e_un, e_if, e_andV, e_orV, e_notV, e_lst, e_tup, e_CB, e_BM, e_BM0, e_G, e_chain, e_sl, e_part, e_nopart, a_nil, a_cons, t_B, t_test, t_and, t_or, t_not, t_yes,
  s_seq, s_next, s_break, s_cont, s_drop, s_ret, s_retN, s_ifS, s_asg, s_aug, s_par, Int.zero_add, g_name, g_tup, g_nil, g_cons, g_sub, i_list, i_tup, i_rng1, i_rng2, i_enum, s_for, e_lc, x_I, x_I0, x_U, x_eq, x_ne, x_ixL, x_ixT, x_setL, x_app, x_ext, x_cat, x_slL, x_in, x_repr, e_fld, s_fld, e_MG, e_KG, x_rpt, x_rem, x_min, e_lrg1, e_rg1, x_rev, s_augS, x_ip, i_rng3, x_isR, x_is_int, x_is_bool, x_is_bi, x_is_bb, x_is_ib, x_is_nb, x_is_ni, x_is_sb, x_is_si, x_len, x_mx, x_mn,
  wipe, sc_ii, sc_ss, sc_bb, sc_nn, sc_ns, sc_sn, sc_ni, sc_in, List.set_cons_zero, List.set_cons_succ, List.getElem?_cons_zero, List.getElem?_cons_succ, Option.some.injEq, exists_eq_left', exists_eq_left, exists_and_left, exists_and_right, V.int.injEq, V.bl.injEq, V.ref.injEq, V.str.injEq, List.cons.injEq, and_true, true_and, decide_eq_true_eq, List.append_nil, reduceCtorEq, and_assoc,
  L2.start, List.map_cons, List.map_nil, List.length_cons, List.length_nil, List.replicate, List.cons_append, List.nil_append, Nat.reduceAdd, Nat.reduceSub, Nat.zero_add, ipI, decide_true, decide_false, if_true, if_false, Bool.not_true, Bool.not_false, Bool.false_eq_true, Int.reduceToNat, Int.reducePow, Int.reduceAdd, Int.reduceSub, Int.reduceMul, Int.reduceNeg, List.length_map])
local macro_rules | `(tactic| walk_at "sd") => `(tactic| first | assumption | omega | decide | exact ⟨by decide, by decide, by decide⟩ | exact ⟨by decide, by decide⟩ | (unfold CMul; omega) | (unfold CDiv; omega) | (show (_ : Nat) ≤ sizeLine; decide) | rfl)
local macro_rules | `(tactic| walk_at "mem") => `(tactic| (repeat (first | exact List.Mem.head _ | apply List.Mem.tail)))
local macro_rules | `(tactic| walk_at "put") => `(tactic| (repeat (first | exact Put.hd | apply Put.tl)))
local macro_rules | `(tactic| walk_at "pick") => `(tactic| (repeat (first | exact Pick.hd | apply Pick.tl)))
local macro_rules | `(tactic| walk_at "sel") => `(tactic| first | exact Sel.all | exact Sel.nil | (refine Sel.cons (by walk_at "pick") ?_; walk_at "sel") | (refine Sel.skip ?_; walk_at "sel"))
local macro_rules | `(tactic| walk_at "ifs") => `(tactic| repeat (first | rw [if_pos (by omega)] | rw [if_neg (by omega)]))
local macro_rules | `(tactic| walk_at "sds") => `(tactic| repeat (with_reducible refine And.intro (by walk_at "sd") ?_))
local macro_rules | `(tactic| walk_at "fs") => `(tactic| first | rfl | simp only [putF, List.lookup, beq_self_eq_true, if_true, if_false, reduceIte, My.nf__end_in_cell___marks, My.nb__end_in_cell___marks, My.nf__end_in_cell___return_to, My.nb__end_in_cell___return_to, My.nf__end_in_cell___splitter_at, My.nb__end_in_cell___splitter_at, My.nf__end_in_cell___walk, My.nb__end_in_cell___walk, My.nf__end_in_cell__cells, My.nb__end_in_cell__cells, My.nf__end_in_cell__closed, My.nb__end_in_cell__closed, My.nf__end_in_cell__done, My.nb__end_in_cell__done, My.nf__end_in_cell__names, My.nb__end_in_cell__names, My.nf__end_in_cell__places, My.nb__end_in_cell__places, My.nf__end_in_cell__play, My.nb__end_in_cell__play, My.nf__end_in_cell__process_count, My.nb__end_in_cell__process_count, My.nf__end_in_cell__reports, My.nb__end_in_cell__reports, My.nf__end_in_cell__steps, My.nb__end_in_cell__steps, My.nf__end_in_cell__steps_done, My.nb__end_in_cell__steps_done, My.nf__end_in_cell__writer, My.nb__end_in_cell__writer, My.nf__marks___end_in_cell, My.nb__marks___end_in_cell, My.nf__marks___return_to, My.nb__marks___return_to, My.nf__marks___splitter_at, My.nb__marks___splitter_at, My.nf__marks___walk, My.nb__marks___walk, My.nf__marks__cells, My.nb__marks__cells, My.nf__marks__closed, My.nb__marks__closed, My.nf__marks__done, My.nb__marks__done, My.nf__marks__names, My.nb__marks__names, My.nf__marks__places, My.nb__marks__places, My.nf__marks__play, My.nb__marks__play, My.nf__marks__process_count, My.nb__marks__process_count, My.nf__marks__reports, My.nb__marks__reports, My.nf__marks__steps, My.nb__marks__steps, My.nf__marks__steps_done, My.nb__marks__steps_done, My.nf__marks__writer, My.nb__marks__writer, My.nf__return_to___end_in_cell, My.nb__return_to___end_in_cell, My.nf__return_to___marks, My.nb__return_to___marks, My.nf__return_to___splitter_at, My.nb__return_to___splitter_at, My.nf__return_to___walk, My.nb__return_to___walk, My.nf__return_to__cells, My.nb__return_to__cells, My.nf__return_to__closed, My.nb__return_to__closed, My.nf__return_to__done, My.nb__return_to__done, My.nf__return_to__names, My.nb__return_to__names, My.nf__return_to__places, My.nb__return_to__places, My.nf__return_to__play, My.nb__return_to__play, My.nf__return_to__process_count, My.nb__return_to__process_count, My.nf__return_to__reports, My.nb__return_to__reports, My.nf__return_to__steps, My.nb__return_to__steps, My.nf__return_to__steps_done, My.nb__return_to__steps_done, My.nf__return_to__writer, My.nb__return_to__writer, My.nf__splitter_at___end_in_cell, My.nb__splitter_at___end_in_cell, My.nf__splitter_at___marks, My.nb__splitter_at___marks, My.nf__splitter_at___return_to, My.nb__splitter_at___return_to, My.nf__splitter_at___walk, My.nb__splitter_at___walk, My.nf__splitter_at__cells, My.nb__splitter_at__cells, My.nf__splitter_at__closed, My.nb__splitter_at__closed, My.nf__splitter_at__done, My.nb__splitter_at__done, My.nf__splitter_at__names, My.nb__splitter_at__names, My.nf__splitter_at__places, My.nb__splitter_at__places, My.nf__splitter_at__play, My.nb__splitter_at__play, My.nf__splitter_at__process_count, My.nb__splitter_at__process_count, My.nf__splitter_at__reports, My.nb__splitter_at__reports, My.nf__splitter_at__steps, My.nb__splitter_at__steps, My.nf__splitter_at__steps_done, My.nb__splitter_at__steps_done, My.nf__splitter_at__writer, My.nb__splitter_at__writer, My.nf__walk___end_in_cell, My.nb__walk___end_in_cell, My.nf__walk___marks, My.nb__walk___marks, My.nf__walk___return_to, My.nb__walk___return_to, My.nf__walk___splitter_at, My.nb__walk___splitter_at, My.nf__walk__cells, My.nb__walk__cells, My.nf__walk__closed, My.nb__walk__closed, My.nf__walk__done, My.nb__walk__done, My.nf__walk__names, My.nb__walk__names, My.nf__walk__places, My.nb__walk__places, My.nf__walk__play, My.nb__walk__play, My.nf__walk__process_count, My.nb__walk__process_count, My.nf__walk__reports, My.nb__walk__reports, My.nf__walk__steps, My.nb__walk__steps, My.nf__walk__steps_done, My.nb__walk__steps_done, My.nf__walk__writer, My.nb__walk__writer, My.nf_cells___end_in_cell, My.nb_cells___end_in_cell, My.nf_cells___marks, My.nb_cells___marks, My.nf_cells___return_to, My.nb_cells___return_to, My.nf_cells___splitter_at, My.nb_cells___splitter_at, My.nf_cells___walk, My.nb_cells___walk, My.nf_cells__closed, My.nb_cells__closed, My.nf_cells__done, My.nb_cells__done, My.nf_cells__names, My.nb_cells__names, My.nf_cells__places, My.nb_cells__places, My.nf_cells__play, My.nb_cells__play, My.nf_cells__process_count, My.nb_cells__process_count, My.nf_cells__reports, My.nb_cells__reports, My.nf_cells__steps, My.nb_cells__steps, My.nf_cells__steps_done, My.nb_cells__steps_done, My.nf_cells__writer, My.nb_cells__writer, My.nf_closed___end_in_cell, My.nb_closed___end_in_cell, My.nf_closed___marks, My.nb_closed___marks, My.nf_closed___return_to, My.nb_closed___return_to, My.nf_closed___splitter_at, My.nb_closed___splitter_at, My.nf_closed___walk, My.nb_closed___walk, My.nf_closed__cells, My.nb_closed__cells, My.nf_closed__done, My.nb_closed__done, My.nf_closed__names, My.nb_closed__names, My.nf_closed__places, My.nb_closed__places, My.nf_closed__play, My.nb_closed__play, My.nf_closed__process_count, My.nb_closed__process_count, My.nf_closed__reports, My.nb_closed__reports, My.nf_closed__steps, My.nb_closed__steps, My.nf_closed__steps_done, My.nb_closed__steps_done, My.nf_closed__writer, My.nb_closed__writer, My.nf_done___end_in_cell, My.nb_done___end_in_cell, My.nf_done___marks, My.nb_done___marks, My.nf_done___return_to, My.nb_done___return_to, My.nf_done___splitter_at, My.nb_done___splitter_at, My.nf_done___walk, My.nb_done___walk, My.nf_done__cells, My.nb_done__cells, My.nf_done__closed, My.nb_done__closed, My.nf_done__names, My.nb_done__names, My.nf_done__places, My.nb_done__places, My.nf_done__play, My.nb_done__play, My.nf_done__process_count, My.nb_done__process_count, My.nf_done__reports, My.nb_done__reports, My.nf_done__steps, My.nb_done__steps, My.nf_done__steps_done, My.nb_done__steps_done, My.nf_done__writer, My.nb_done__writer, My.nf_names___end_in_cell, My.nb_names___end_in_cell, My.nf_names___marks, My.nb_names___marks, My.nf_names___return_to, My.nb_names___return_to, My.nf_names___splitter_at, My.nb_names___splitter_at, My.nf_names___walk, My.nb_names___walk, My.nf_names__cells, My.nb_names__cells, My.nf_names__closed, My.nb_names__closed, My.nf_names__done, My.nb_names__done, My.nf_names__places, My.nb_names__places, My.nf_names__play, My.nb_names__play, My.nf_names__process_count, My.nb_names__process_count, My.nf_names__reports, My.nb_names__reports, My.nf_names__steps, My.nb_names__steps, My.nf_names__steps_done, My.nb_names__steps_done, My.nf_names__writer, My.nb_names__writer, My.nf_places___end_in_cell, My.nb_places___end_in_cell, My.nf_places___marks, My.nb_places___marks, My.nf_places___return_to, My.nb_places___return_to, My.nf_places___splitter_at, My.nb_places___splitter_at, My.nf_places___walk, My.nb_places___walk, My.nf_places__cells, My.nb_places__cells, My.nf_places__closed, My.nb_places__closed, My.nf_places__done, My.nb_places__done, My.nf_places__names, My.nb_places__names, My.nf_places__play, My.nb_places__play, My.nf_places__process_count, My.nb_places__process_count, My.nf_places__reports, My.nb_places__reports, My.nf_places__steps, My.nb_places__steps, My.nf_places__steps_done, My.nb_places__steps_done, My.nf_places__writer, My.nb_places__writer, My.nf_play___end_in_cell, My.nb_play___end_in_cell, My.nf_play___marks, My.nb_play___marks, My.nf_play___return_to, My.nb_play___return_to, My.nf_play___splitter_at, My.nb_play___splitter_at, My.nf_play___walk, My.nb_play___walk, My.nf_play__cells, My.nb_play__cells, My.nf_play__closed, My.nb_play__closed, My.nf_play__done, My.nb_play__done, My.nf_play__names, My.nb_play__names, My.nf_play__places, My.nb_play__places, My.nf_play__process_count, My.nb_play__process_count, My.nf_play__reports, My.nb_play__reports, My.nf_play__steps, My.nb_play__steps, My.nf_play__steps_done, My.nb_play__steps_done, My.nf_play__writer, My.nb_play__writer, My.nf_process_count___end_in_cell, My.nb_process_count___end_in_cell, My.nf_process_count___marks, My.nb_process_count___marks, My.nf_process_count___return_to, My.nb_process_count___return_to, My.nf_process_count___splitter_at, My.nb_process_count___splitter_at, My.nf_process_count___walk, My.nb_process_count___walk, My.nf_process_count__cells, My.nb_process_count__cells, My.nf_process_count__closed, My.nb_process_count__closed, My.nf_process_count__done, My.nb_process_count__done, My.nf_process_count__names, My.nb_process_count__names, My.nf_process_count__places, My.nb_process_count__places, My.nf_process_count__play, My.nb_process_count__play, My.nf_process_count__reports, My.nb_process_count__reports, My.nf_process_count__steps, My.nb_process_count__steps, My.nf_process_count__steps_done, My.nb_process_count__steps_done, My.nf_process_count__writer, My.nb_process_count__writer, My.nf_reports___end_in_cell, My.nb_reports___end_in_cell, My.nf_reports___marks, My.nb_reports___marks, My.nf_reports___return_to, My.nb_reports___return_to, My.nf_reports___splitter_at, My.nb_reports___splitter_at, My.nf_reports___walk, My.nb_reports___walk, My.nf_reports__cells, My.nb_reports__cells, My.nf_reports__closed, My.nb_reports__closed, My.nf_reports__done, My.nb_reports__done, My.nf_reports__names, My.nb_reports__names, My.nf_reports__places, My.nb_reports__places, My.nf_reports__play, My.nb_reports__play, My.nf_reports__process_count, My.nb_reports__process_count, My.nf_reports__steps, My.nb_reports__steps, My.nf_reports__steps_done, My.nb_reports__steps_done, My.nf_reports__writer, My.nb_reports__writer, My.nf_steps___end_in_cell, My.nb_steps___end_in_cell, My.nf_steps___marks, My.nb_steps___marks, My.nf_steps___return_to, My.nb_steps___return_to, My.nf_steps___splitter_at, My.nb_steps___splitter_at, My.nf_steps___walk, My.nb_steps___walk, My.nf_steps__cells, My.nb_steps__cells, My.nf_steps__closed, My.nb_steps__closed, My.nf_steps__done, My.nb_steps__done, My.nf_steps__names, My.nb_steps__names, My.nf_steps__places, My.nb_steps__places, My.nf_steps__play, My.nb_steps__play, My.nf_steps__process_count, My.nb_steps__process_count, My.nf_steps__reports, My.nb_steps__reports, My.nf_steps__steps_done, My.nb_steps__steps_done, My.nf_steps__writer, My.nb_steps__writer, My.nf_steps_done___end_in_cell, My.nb_steps_done___end_in_cell, My.nf_steps_done___marks, My.nb_steps_done___marks, My.nf_steps_done___return_to, My.nb_steps_done___return_to, My.nf_steps_done___splitter_at, My.nb_steps_done___splitter_at, My.nf_steps_done___walk, My.nb_steps_done___walk, My.nf_steps_done__cells, My.nb_steps_done__cells, My.nf_steps_done__closed, My.nb_steps_done__closed, My.nf_steps_done__done, My.nb_steps_done__done, My.nf_steps_done__names, My.nb_steps_done__names, My.nf_steps_done__places, My.nb_steps_done__places, My.nf_steps_done__play, My.nb_steps_done__play, My.nf_steps_done__process_count, My.nb_steps_done__process_count, My.nf_steps_done__reports, My.nb_steps_done__reports, My.nf_steps_done__steps, My.nb_steps_done__steps, My.nf_steps_done__writer, My.nb_steps_done__writer, My.nf_writer___end_in_cell, My.nb_writer___end_in_cell, My.nf_writer___marks, My.nb_writer___marks, My.nf_writer___return_to, My.nb_writer___return_to, My.nf_writer___splitter_at, My.nb_writer___splitter_at, My.nf_writer___walk, My.nb_writer___walk, My.nf_writer__cells, My.nb_writer__cells, My.nf_writer__closed, My.nb_writer__closed, My.nf_writer__done, My.nb_writer__done, My.nf_writer__names, My.nb_writer__names, My.nf_writer__places, My.nb_writer__places, My.nf_writer__play, My.nb_writer__play, My.nf_writer__process_count, My.nb_writer__process_count, My.nf_writer__reports, My.nb_writer__reports, My.nf_writer__steps, My.nb_writer__steps, My.nf_writer__steps_done, My.nb_writer__steps_done])
namespace My
open PySem PySem.Spec PyProof.Rows L2 Vg
def topS (i : Nat) : Stmt := PySem.Challenge.pw_splitnames_k57_whole_no_process_waits.main.body.getD i (.Pass ⟨0, 0, 0, 0⟩)
abbrev s_is_integer : Stmt := topS 10
theorem sc_is_integer : FnScope ["value"] ["value"] (defScope s_is_integer) := ⟨rfl, rfl, rfl, by decide +kernel, rfl, by decide +kernel, by decide +kernel⟩
abbrev s_is_integer_within : Stmt := topS 11
theorem sc_is_integer_within : FnScope ["value", "least", "greatest"] ["value", "least", "greatest"] (defScope s_is_integer_within) := ⟨rfl, rfl, rfl, by decide +kernel, rfl, by decide +kernel, by decide +kernel⟩
abbrev s_check_count : Stmt := topS 12
theorem sc_check_count : FnScope ["count", "greatest"] ["count", "greatest"] (defScope s_check_count) := ⟨rfl, rfl, rfl, by decide +kernel, rfl, by decide +kernel, by decide +kernel⟩
abbrev s_Walk___init__ : Stmt := inClass (topS 23) 0
theorem sc_Walk___init__ : FnScope ["self", "count"] ["self", "count"] (defScope s_Walk___init__) := ⟨rfl, rfl, rfl, by decide +kernel, rfl, by decide +kernel, by decide +kernel⟩
abbrev s_Splitter_perform : Stmt := inClass (topS 20) 1
theorem sc_Splitter_perform : FnScope ["self", "process", "done"] ["self", "process", "done"] (defScope s_Splitter_perform) := ⟨rfl, rfl, rfl, by decide +kernel, rfl, by decide +kernel, by decide +kernel⟩
abbrev s_check_coordinate : Stmt := topS 16
theorem sc_check_coordinate : FnScope ["value"] ["value"] (defScope s_check_coordinate) := ⟨rfl, rfl, rfl, by decide +kernel, rfl, by decide +kernel, by decide +kernel⟩
abbrev s_cells_before : Stmt := topS 17
theorem sc_cells_before : FnScope ["diagonal"] ["diagonal"] (defScope s_cells_before) := ⟨rfl, rfl, rfl, by decide +kernel, rfl, by decide +kernel, by decide +kernel⟩
abbrev s_name_of : Stmt := topS 15
theorem sc_name_of : FnScope ["right", "down"] ["right", "down"] (defScope s_name_of) := ⟨rfl, rfl, rfl, by decide +kernel, rfl, by decide +kernel, by decide +kernel⟩
abbrev s_Walk__end_in_cell : Stmt := inClass (topS 23) 4
theorem sc_Walk__end_in_cell : FnScope ["self", "process", "result", "right", "down"] ["self", "process", "result"] (defScope s_Walk__end_in_cell) := ⟨rfl, rfl, rfl, by decide +kernel, rfl, by decide +kernel, by decide +kernel⟩
abbrev s_Splitter___init__ : Stmt := inClass (topS 20) 0
theorem sc_Splitter___init__ : FnScope ["self"] ["self"] (defScope s_Splitter___init__) := ⟨rfl, rfl, rfl, by decide +kernel, rfl, by decide +kernel, by decide +kernel⟩
abbrev s_Walk__splitter_at : Stmt := inClass (topS 23) 3
theorem sc_Walk__splitter_at : FnScope ["self", "place"] ["self", "place"] (defScope s_Walk__splitter_at) := ⟨rfl, rfl, rfl, by decide +kernel, rfl, by decide +kernel, by decide +kernel⟩
abbrev s_Walk_step : Stmt := inClass (topS 23) 2
theorem sc_Walk_step : FnScope ["self", "process", "result", "name"] ["self", "process"] (defScope s_Walk_step) := ⟨rfl, rfl, rfl, by decide +kernel, rfl, by decide +kernel, by decide +kernel⟩
abbrev s_Walk_can_step : Stmt := inClass (topS 23) 1
theorem sc_Walk_can_step : FnScope ["self", "process"] ["self", "process"] (defScope s_Walk_can_step) := ⟨rfl, rfl, rfl, by decide +kernel, rfl, by decide +kernel, by decide +kernel⟩
abbrev s_perform_schedule : Stmt := topS 21
theorem sc_perform_schedule : FnScope ["run", "schedule", "process"] ["run", "schedule"] (defScope s_perform_schedule) := ⟨rfl, rfl, rfl, by decide +kernel, rfl, by decide +kernel, by decide +kernel⟩
abbrev s_walk_after : Stmt := topS 24
theorem sc_walk_after : FnScope ["count", "schedule", "walk"] ["count", "schedule"] (defScope s_walk_after) := ⟨rfl, rfl, rfl, by decide +kernel, rfl, by decide +kernel, by decide +kernel⟩
abbrev s_words_of : Stmt := topS 30
theorem sc_words_of : FnScope ["text"] ["text"] (defScope s_words_of) := ⟨rfl, rfl, rfl, by decide +kernel, rfl, by decide +kernel, by decide +kernel⟩
abbrev s_read_number : Stmt := topS 29
theorem sc_read_number : FnScope ["word", "most_digits"] ["word", "most_digits"] (defScope s_read_number) := ⟨rfl, rfl, rfl, by decide +kernel, rfl, by decide +kernel, by decide +kernel⟩
abbrev s_read_schedule : Stmt := topS 31
theorem sc_read_schedule : FnScope ["word", "part"] ["word"] (defScope s_read_schedule) := ⟨rfl, rfl, rfl, by decide +kernel, rfl, by decide +kernel, by decide +kernel⟩
abbrev s_read_run : Stmt := topS 28
theorem sc_read_run : FnScope ["text", "words", "count", "schedule"] ["text"] (defScope s_read_run) := ⟨rfl, rfl, rfl, by decide +kernel, rfl, by decide +kernel, by decide +kernel⟩
abbrev s_Run___init__ : Stmt := inClass (topS 33) 1
theorem sc_Run___init__ : FnScope ["self", "count"] ["self", "count"] (defScope s_Run___init__) := ⟨rfl, rfl, rfl, by decide +kernel, rfl, by decide +kernel, by decide +kernel⟩
abbrev s_Run_finish : Stmt := inClass (topS 33) 5
theorem sc_Run_finish : FnScope ["self", "process"] ["self", "process"] (defScope s_Run_finish) := ⟨rfl, rfl, rfl, by decide +kernel, rfl, by decide +kernel, by decide +kernel⟩
abbrev s_Run_places_now : Stmt := inClass (topS 33) 10
theorem sc_Run_places_now : FnScope ["self", "walk", "done", "right", "down"] ["self"] (defScope s_Run_places_now) := ⟨rfl, rfl, rfl, by decide +kernel, rfl, by decide +kernel, by decide +kernel⟩
abbrev s_Run_names_now : Stmt := inClass (topS 33) 9
theorem sc_Run_names_now : FnScope ["self"] ["self"] (defScope s_Run_names_now) := ⟨rfl, rfl, rfl, by decide +kernel, rfl, by decide +kernel, by decide +kernel⟩
abbrev s_Run_steps_done : Stmt := inClass (topS 33) 8
theorem sc_Run_steps_done : FnScope ["self"] ["self"] (defScope s_Run_steps_done) := ⟨rfl, rfl, rfl, by decide +kernel, rfl, by decide +kernel, by decide +kernel⟩
abbrev s_Run_read : Stmt := inClass (topS 33) 2
theorem sc_Run_read : FnScope ["cls", "text", "count", "schedule", "run"] ["cls", "text"] (defScope s_Run_read) := ⟨rfl, rfl, rfl, by decide +kernel, rfl, by decide +kernel, by decide +kernel⟩
abbrev s_Run___len__ : Stmt := inClass (topS 33) 12
theorem sc_Run___len__ : FnScope ["self"] ["self"] (defScope s_Run___len__) := ⟨rfl, rfl, rfl, by decide +kernel, rfl, by decide +kernel, by decide +kernel⟩
abbrev s_Run_process_count : Stmt := inClass (topS 33) 7
theorem sc_Run_process_count : FnScope ["self"] ["self"] (defScope s_Run_process_count) := ⟨rfl, rfl, rfl, by decide +kernel, rfl, by decide +kernel, by decide +kernel⟩
abbrev s_Run___eq__ : Stmt := inClass (topS 33) 13
theorem sc_Run___eq__ : FnScope ["self", "other"] ["self", "other"] (defScope s_Run___eq__) := ⟨rfl, rfl, rfl, by decide +kernel, rfl, by decide +kernel, by decide +kernel⟩
abbrev s_Run_play : Stmt := inClass (topS 33) 4
theorem sc_Run_play : FnScope ["self", "processes", "mark", "told", "process"] ["self", "processes"] (defScope s_Run_play) := ⟨rfl, rfl, rfl, by decide +kernel, rfl, by decide +kernel, by decide +kernel⟩
abbrev s_Run_step : Stmt := inClass (topS 33) 3
theorem sc_Run_step : FnScope ["self", "process"] ["self", "process"] (defScope s_Run_step) := ⟨rfl, rfl, rfl, by decide +kernel, rfl, by decide +kernel, by decide +kernel⟩
abbrev s_Run__return_to : Stmt := inClass (topS 33) 14
theorem sc_Run__return_to : FnScope ["self", "mark"] ["self", "mark"] (defScope s_Run__return_to) := ⟨rfl, rfl, rfl, by decide +kernel, rfl, by decide +kernel, by decide +kernel⟩
abbrev s_Run_undo : Stmt := inClass (topS 33) 6
theorem sc_Run_undo : FnScope ["self"] ["self"] (defScope s_Run_undo) := ⟨rfl, rfl, rfl, by decide +kernel, rfl, by decide +kernel, by decide +kernel⟩
abbrev s_law_take : Stmt := topS 36
theorem sc_law_take : FnScope ["bag", "many", "found", "mark"] ["bag", "many"] (defScope s_law_take) := ⟨rfl, rfl, rfl, by decide +kernel, rfl, by decide +kernel, by decide +kernel⟩
abbrev s_law_again : Stmt := topS 39
theorem sc_law_again : FnScope ["run", "text", "process"] ["run"] (defScope s_law_again) := ⟨rfl, rfl, rfl, by decide +kernel, rfl, by decide +kernel, by decide +kernel⟩
abbrev s_law_stands : Stmt := topS 40
theorem sc_law_stands : FnScope ["run", "places", "names", "steps"] ["run", "places", "names", "steps"] (defScope s_law_stands) := ⟨rfl, rfl, rfl, by decide +kernel, rfl, by decide +kernel, by decide +kernel⟩
abbrev s_law_steps_alone : Stmt := topS 41
theorem sc_law_steps_alone : FnScope ["other", "process", "added", "found", "told", "turn"] ["other", "process", "added", "found"] (defScope s_law_steps_alone) := ⟨rfl, rfl, rfl, by decide +kernel, rfl, by decide +kernel, by decide +kernel⟩
abbrev s_law_diagonal : Stmt := topS 38
theorem sc_law_diagonal : FnScope ["name", "turn"] ["name"] (defScope s_law_diagonal) := ⟨rfl, rfl, rfl, by decide +kernel, rfl, by decide +kernel, by decide +kernel⟩
abbrev s_law_alone_right : Stmt := topS 42
theorem sc_law_alone_right : FnScope ["run", "process", "places", "names", "steps", "took", "one", "name", "done", "many", "other", "found", "added", "later_places", "later_names"] ["run", "process"] (defScope s_law_alone_right) := ⟨rfl, rfl, rfl, by decide +kernel, rfl, by decide +kernel, by decide +kernel⟩
abbrev s_law_pick : Stmt := topS 37
theorem sc_law_pick : FnScope ["bag", "values"] ["bag", "values"] (defScope s_law_pick) := ⟨rfl, rfl, rfl, by decide +kernel, rfl, by decide +kernel, by decide +kernel⟩
abbrev s_law_played : Stmt := topS 43
theorem sc_law_played : FnScope ["bag", "run", "left", "some", "one", "two"] ["bag", "run", "left"] (defScope s_law_played) := ⟨rfl, rfl, rfl, by decide +kernel, rfl, by decide +kernel, by decide +kernel⟩
abbrev s_law_changed : Stmt := topS 44
theorem sc_law_changed : FnScope ["bag", "run", "left", "depth", "way"] ["bag", "run", "left", "depth"] (defScope s_law_changed) := ⟨rfl, rfl, rfl, by decide +kernel, rfl, by decide +kernel, by decide +kernel⟩
abbrev s_law_right : Stmt := topS 45
theorem sc_law_right : FnScope ["bag", "active", "count", "pool", "depth", "moments", "members", "turn", "run", "names", "left", "process"] ["bag"] (defScope s_law_right) := ⟨rfl, rfl, rfl, by decide +kernel, rfl, by decide +kernel, by decide +kernel⟩
abbrev s_law_bag : Stmt := topS 35
theorem sc_law_bag : FnScope ["script", "k", "cell"] ["script", "k"] (defScope s_law_bag) := ⟨rfl, rfl, rfl, by decide +kernel, rfl, by decide +kernel, by decide +kernel⟩
abbrev s_law : Stmt := topS 46
theorem sc_law : FnScope ["script", "k"] ["script"] (defScope s_law) := ⟨rfl, rfl, rfl, by decide +kernel, rfl, by decide +kernel, by decide +kernel⟩
/-- where the top has laid what the text names -/
structure Ad where
  a_is_integer : Addr
  fd_is_integer : FuncData
  a_is_integer_within : Addr
  fd_is_integer_within : FuncData
  a_check_count : Addr
  fd_check_count : FuncData
  a_Walk___init__ : Addr
  fd_Walk___init__ : FuncData
  a_Splitter_perform : Addr
  fd_Splitter_perform : FuncData
  a_check_coordinate : Addr
  fd_check_coordinate : FuncData
  a_cells_before : Addr
  fd_cells_before : FuncData
  a_name_of : Addr
  fd_name_of : FuncData
  a_Walk__end_in_cell : Addr
  fd_Walk__end_in_cell : FuncData
  a_Splitter___init__ : Addr
  fd_Splitter___init__ : FuncData
  a_Walk__splitter_at : Addr
  fd_Walk__splitter_at : FuncData
  a_Walk_step : Addr
  fd_Walk_step : FuncData
  a_Walk_can_step : Addr
  fd_Walk_can_step : FuncData
  a_perform_schedule : Addr
  fd_perform_schedule : FuncData
  a_walk_after : Addr
  fd_walk_after : FuncData
  a_words_of : Addr
  fd_words_of : FuncData
  a_read_number : Addr
  fd_read_number : FuncData
  a_read_schedule : Addr
  fd_read_schedule : FuncData
  a_read_run : Addr
  fd_read_run : FuncData
  a_Run___init__ : Addr
  fd_Run___init__ : FuncData
  a_Run_finish : Addr
  fd_Run_finish : FuncData
  a_Run_places_now : Addr
  fd_Run_places_now : FuncData
  p_Run_places_now : Addr
  a_Run_names_now : Addr
  fd_Run_names_now : FuncData
  p_Run_names_now : Addr
  a_Run_steps_done : Addr
  fd_Run_steps_done : FuncData
  p_Run_steps_done : Addr
  a_Run_read : Addr
  fd_Run_read : FuncData
  p_Run_read : Addr
  a_Run___len__ : Addr
  fd_Run___len__ : FuncData
  a_Run_process_count : Addr
  fd_Run_process_count : FuncData
  p_Run_process_count : Addr
  a_Run___eq__ : Addr
  fd_Run___eq__ : FuncData
  a_Run_play : Addr
  fd_Run_play : FuncData
  a_Run_step : Addr
  fd_Run_step : FuncData
  a_Run__return_to : Addr
  fd_Run__return_to : FuncData
  a_Run_undo : Addr
  fd_Run_undo : FuncData
  a_law_take : Addr
  fd_law_take : FuncData
  a_law_again : Addr
  fd_law_again : FuncData
  a_law_stands : Addr
  fd_law_stands : FuncData
  a_law_steps_alone : Addr
  fd_law_steps_alone : FuncData
  a_law_diagonal : Addr
  fd_law_diagonal : FuncData
  a_law_alone_right : Addr
  fd_law_alone_right : FuncData
  a_law_pick : Addr
  fd_law_pick : FuncData
  a_law_played : Addr
  fd_law_played : FuncData
  a_law_changed : Addr
  fd_law_changed : FuncData
  a_law_right : Addr
  fd_law_right : FuncData
  a_law_bag : Addr
  fd_law_bag : FuncData
  a_law : Addr
  fd_law : FuncData
  c_Splitter : Addr
  c_Walk : Addr
  c_Run : Addr
structure Mo (K : PySem.W.Frag) (mg : Str → Option Value) (d : Ad) : Prop where
  F_is_integer : Fun K "is_integer" "is_integer" s_is_integer d.a_is_integer d.fd_is_integer
  b_is_integer : Binds K d.fd_is_integer ["value"] []
  g_is_integer : mg "is_integer" = some (.ref d.a_is_integer)
  F_is_integer_within : Fun K "is_integer_within" "is_integer_within" s_is_integer_within d.a_is_integer_within d.fd_is_integer_within
  b_is_integer_within : Binds K d.fd_is_integer_within ["value", "least", "greatest"] []
  g_is_integer_within : mg "is_integer_within" = some (.ref d.a_is_integer_within)
  F_check_count : Fun K "check_count" "check_count" s_check_count d.a_check_count d.fd_check_count
  b_check_count : Binds K d.fd_check_count ["count", "greatest"] []
  g_check_count : mg "check_count" = some (.ref d.a_check_count)
  F_Walk___init__ : Fun K "__init__" "Walk.__init__" s_Walk___init__ d.a_Walk___init__ d.fd_Walk___init__
  b_Walk___init__ : Binds K d.fd_Walk___init__ ["self", "count"] []
  F_Splitter_perform : Fun K "perform" "Splitter.perform" s_Splitter_perform d.a_Splitter_perform d.fd_Splitter_perform
  b_Splitter_perform : Binds K d.fd_Splitter_perform ["self", "process", "done"] []
  M_Splitter_perform : Meth K d.c_Splitter "perform" d.a_Splitter_perform
  F_check_coordinate : Fun K "_check_coordinate" "_check_coordinate" s_check_coordinate d.a_check_coordinate d.fd_check_coordinate
  b_check_coordinate : Binds K d.fd_check_coordinate ["value"] []
  g_check_coordinate : mg "_check_coordinate" = some (.ref d.a_check_coordinate)
  F_cells_before : Fun K "_cells_before" "_cells_before" s_cells_before d.a_cells_before d.fd_cells_before
  b_cells_before : Binds K d.fd_cells_before ["diagonal"] []
  g_cells_before : mg "_cells_before" = some (.ref d.a_cells_before)
  F_name_of : Fun K "name_of" "name_of" s_name_of d.a_name_of d.fd_name_of
  b_name_of : Binds K d.fd_name_of ["right", "down"] []
  g_name_of : mg "name_of" = some (.ref d.a_name_of)
  F_Walk__end_in_cell : Fun K "_end_in_cell" "Walk._end_in_cell" s_Walk__end_in_cell d.a_Walk__end_in_cell d.fd_Walk__end_in_cell
  b_Walk__end_in_cell : Binds K d.fd_Walk__end_in_cell ["self", "process", "result"] []
  M_Walk__end_in_cell : Meth K d.c_Walk "_end_in_cell" d.a_Walk__end_in_cell
  F_Splitter___init__ : Fun K "__init__" "Splitter.__init__" s_Splitter___init__ d.a_Splitter___init__ d.fd_Splitter___init__
  b_Splitter___init__ : Binds K d.fd_Splitter___init__ ["self"] []
  F_Walk__splitter_at : Fun K "_splitter_at" "Walk._splitter_at" s_Walk__splitter_at d.a_Walk__splitter_at d.fd_Walk__splitter_at
  b_Walk__splitter_at : Binds K d.fd_Walk__splitter_at ["self", "place"] []
  M_Walk__splitter_at : Meth K d.c_Walk "_splitter_at" d.a_Walk__splitter_at
  F_Walk_step : Fun K "step" "Walk.step" s_Walk_step d.a_Walk_step d.fd_Walk_step
  b_Walk_step : Binds K d.fd_Walk_step ["self", "process"] []
  M_Walk_step : Meth K d.c_Walk "step" d.a_Walk_step
  F_Walk_can_step : Fun K "can_step" "Walk.can_step" s_Walk_can_step d.a_Walk_can_step d.fd_Walk_can_step
  b_Walk_can_step : Binds K d.fd_Walk_can_step ["self", "process"] []
  M_Walk_can_step : Meth K d.c_Walk "can_step" d.a_Walk_can_step
  F_perform_schedule : Fun K "perform_schedule" "perform_schedule" s_perform_schedule d.a_perform_schedule d.fd_perform_schedule
  b_perform_schedule : Binds K d.fd_perform_schedule ["run", "schedule"] []
  g_perform_schedule : mg "perform_schedule" = some (.ref d.a_perform_schedule)
  F_walk_after : Fun K "walk_after" "walk_after" s_walk_after d.a_walk_after d.fd_walk_after
  b_walk_after : Binds K d.fd_walk_after ["count", "schedule"] []
  g_walk_after : mg "walk_after" = some (.ref d.a_walk_after)
  F_words_of : Fun K "_words_of" "_words_of" s_words_of d.a_words_of d.fd_words_of
  b_words_of : Binds K d.fd_words_of ["text"] []
  g_words_of : mg "_words_of" = some (.ref d.a_words_of)
  F_read_number : Fun K "read_number" "read_number" s_read_number d.a_read_number d.fd_read_number
  b_read_number : Binds K d.fd_read_number ["word", "most_digits"] []
  g_read_number : mg "read_number" = some (.ref d.a_read_number)
  F_read_schedule : Fun K "_read_schedule" "_read_schedule" s_read_schedule d.a_read_schedule d.fd_read_schedule
  b_read_schedule : Binds K d.fd_read_schedule ["word"] []
  g_read_schedule : mg "_read_schedule" = some (.ref d.a_read_schedule)
  F_read_run : Fun K "read_run" "read_run" s_read_run d.a_read_run d.fd_read_run
  b_read_run : Binds K d.fd_read_run ["text"] []
  g_read_run : mg "read_run" = some (.ref d.a_read_run)
  F_Run___init__ : Fun K "__init__" "Run.__init__" s_Run___init__ d.a_Run___init__ d.fd_Run___init__
  b_Run___init__ : Binds K d.fd_Run___init__ ["self", "count"] []
  F_Run_finish : Fun K "finish" "Run.finish" s_Run_finish d.a_Run_finish d.fd_Run_finish
  b_Run_finish : Binds K d.fd_Run_finish ["self", "process"] []
  M_Run_finish : Meth K d.c_Run "finish" d.a_Run_finish
  F_Run_places_now : Fun K "places_now" "Run.places_now" s_Run_places_now d.a_Run_places_now d.fd_Run_places_now
  b_Run_places_now : Binds K d.fd_Run_places_now ["self"] []
  P_Run_places_now : PropOf K d.c_Run "places_now" d.p_Run_places_now d.a_Run_places_now
  F_Run_names_now : Fun K "names_now" "Run.names_now" s_Run_names_now d.a_Run_names_now d.fd_Run_names_now
  b_Run_names_now : Binds K d.fd_Run_names_now ["self"] []
  P_Run_names_now : PropOf K d.c_Run "names_now" d.p_Run_names_now d.a_Run_names_now
  F_Run_steps_done : Fun K "steps_done" "Run.steps_done" s_Run_steps_done d.a_Run_steps_done d.fd_Run_steps_done
  b_Run_steps_done : Binds K d.fd_Run_steps_done ["self"] []
  P_Run_steps_done : PropOf K d.c_Run "steps_done" d.p_Run_steps_done d.a_Run_steps_done
  F_Run_read : Fun K "read" "Run.read" s_Run_read d.a_Run_read d.fd_Run_read
  b_Run_read : Binds K d.fd_Run_read ["cls", "text"] []
  cm_Run_read : ClX.CMet K d.c_Run (.type "type") "read" d.p_Run_read d.a_Run_read
  F_Run___len__ : Fun K "__len__" "Run.__len__" s_Run___len__ d.a_Run___len__ d.fd_Run___len__
  b_Run___len__ : Binds K d.fd_Run___len__ ["self"] []
  L_Run___len__ : PySem.W.findIn K (.ref d.c_Run) "__len__" = some (some (.ref d.a_Run___len__)) ∧ PySem.W.typeIn K (.ref d.a_Run___len__) = some (.type "function")
  F_Run_process_count : Fun K "process_count" "Run.process_count" s_Run_process_count d.a_Run_process_count d.fd_Run_process_count
  b_Run_process_count : Binds K d.fd_Run_process_count ["self"] []
  P_Run_process_count : PropOf K d.c_Run "process_count" d.p_Run_process_count d.a_Run_process_count
  F_Run___eq__ : Fun K "__eq__" "Run.__eq__" s_Run___eq__ d.a_Run___eq__ d.fd_Run___eq__
  b_Run___eq__ : Binds K d.fd_Run___eq__ ["self", "other"] []
  M_Run___eq__ : Meth K d.c_Run "__eq__" d.a_Run___eq__
  F_Run_play : Fun K "play" "Run.play" s_Run_play d.a_Run_play d.fd_Run_play
  M_Run_play : Meth K d.c_Run "play" d.a_Run_play
  F_Run_step : Fun K "step" "Run.step" s_Run_step d.a_Run_step d.fd_Run_step
  b_Run_step : Binds K d.fd_Run_step ["self", "process"] []
  M_Run_step : Meth K d.c_Run "step" d.a_Run_step
  F_Run__return_to : Fun K "_return_to" "Run._return_to" s_Run__return_to d.a_Run__return_to d.fd_Run__return_to
  b_Run__return_to : Binds K d.fd_Run__return_to ["self", "mark"] []
  M_Run__return_to : Meth K d.c_Run "_return_to" d.a_Run__return_to
  F_Run_undo : Fun K "undo" "Run.undo" s_Run_undo d.a_Run_undo d.fd_Run_undo
  b_Run_undo : Binds K d.fd_Run_undo ["self"] []
  M_Run_undo : Meth K d.c_Run "undo" d.a_Run_undo
  F_law_take : Fun K "_law_take" "_law_take" s_law_take d.a_law_take d.fd_law_take
  b_law_take : Binds K d.fd_law_take ["bag", "many"] []
  g_law_take : mg "_law_take" = some (.ref d.a_law_take)
  F_law_again : Fun K "_law_again" "_law_again" s_law_again d.a_law_again d.fd_law_again
  b_law_again : Binds K d.fd_law_again ["run"] []
  g_law_again : mg "_law_again" = some (.ref d.a_law_again)
  F_law_stands : Fun K "_law_stands" "_law_stands" s_law_stands d.a_law_stands d.fd_law_stands
  b_law_stands : Binds K d.fd_law_stands ["run", "places", "names", "steps"] []
  g_law_stands : mg "_law_stands" = some (.ref d.a_law_stands)
  F_law_steps_alone : Fun K "_law_steps_alone" "_law_steps_alone" s_law_steps_alone d.a_law_steps_alone d.fd_law_steps_alone
  b_law_steps_alone : Binds K d.fd_law_steps_alone ["other", "process", "added", "found"] []
  g_law_steps_alone : mg "_law_steps_alone" = some (.ref d.a_law_steps_alone)
  F_law_diagonal : Fun K "_law_diagonal" "_law_diagonal" s_law_diagonal d.a_law_diagonal d.fd_law_diagonal
  b_law_diagonal : Binds K d.fd_law_diagonal ["name"] []
  g_law_diagonal : mg "_law_diagonal" = some (.ref d.a_law_diagonal)
  F_law_alone_right : Fun K "_law_alone_right" "_law_alone_right" s_law_alone_right d.a_law_alone_right d.fd_law_alone_right
  b_law_alone_right : Binds K d.fd_law_alone_right ["run", "process"] []
  g_law_alone_right : mg "_law_alone_right" = some (.ref d.a_law_alone_right)
  F_law_pick : Fun K "_law_pick" "_law_pick" s_law_pick d.a_law_pick d.fd_law_pick
  b_law_pick : Binds K d.fd_law_pick ["bag", "values"] []
  g_law_pick : mg "_law_pick" = some (.ref d.a_law_pick)
  F_law_played : Fun K "_law_played" "_law_played" s_law_played d.a_law_played d.fd_law_played
  b_law_played : Binds K d.fd_law_played ["bag", "run", "left"] []
  g_law_played : mg "_law_played" = some (.ref d.a_law_played)
  F_law_changed : Fun K "_law_changed" "_law_changed" s_law_changed d.a_law_changed d.fd_law_changed
  b_law_changed : Binds K d.fd_law_changed ["bag", "run", "left", "depth"] []
  g_law_changed : mg "_law_changed" = some (.ref d.a_law_changed)
  F_law_right : Fun K "_law_right" "_law_right" s_law_right d.a_law_right d.fd_law_right
  b_law_right : Binds K d.fd_law_right ["bag"] []
  g_law_right : mg "_law_right" = some (.ref d.a_law_right)
  F_law_bag : Fun K "_law_bag" "_law_bag" s_law_bag d.a_law_bag d.fd_law_bag
  b_law_bag : Binds K d.fd_law_bag ["script", "k"] []
  g_law_bag : mg "_law_bag" = some (.ref d.a_law_bag)
  F_law : Fun K "law" "law" s_law d.a_law d.fd_law
  b_law : Binds K d.fd_law ["script"] []
  g_law : mg "law" = some (.ref d.a_law)
  g_Splitter : mg "Splitter" = some (.ref d.c_Splitter)
  C_Splitter : Cls K d.c_Splitter
  K_Splitter : Mk K d.c_Splitter d.a_Splitter___init__
  x_Splitter_writer : NoAttr K d.c_Splitter "writer"
  x_Splitter_closed : NoAttr K d.c_Splitter "closed"
  g_Walk : mg "Walk" = some (.ref d.c_Walk)
  C_Walk : Cls K d.c_Walk
  K_Walk : Mk K d.c_Walk d.a_Walk___init__
  x_Walk_cells : NoAttr K d.c_Walk "cells"
  x_Walk_places : NoAttr K d.c_Walk "places"
  x_Walk_done : NoAttr K d.c_Walk "done"
  x_Walk_names : NoAttr K d.c_Walk "names"
  x_Walk_steps : NoAttr K d.c_Walk "steps"
  x_Walk_reports : NoAttr K d.c_Walk "reports"
  g_Run : mg "Run" = some (.ref d.c_Run)
  C_Run : Cls K d.c_Run
  K_Run : Mk K d.c_Run d.a_Run___init__
  x_Run__walk : NoAttr K d.c_Run "_walk"
  x_Run__marks : NoAttr K d.c_Run "_marks"
  Q_Run : EqC K d.c_Run d.a_Run___eq__
  I_Run : IsiC K d.c_Run
  cr_Run : ClX.CRead K d.c_Run (.type "type")
  n_bool : mg "bool" = none
  n_int : mg "int" = none
  n_isinstance : mg "isinstance" = none
  n_len : mg "len" = none
  n_list : mg "list" = none
  n_max : mg "max" = none
  n_min : mg "min" = none
  n_range : mg "range" = none
  n_str : mg "str" = none
  n_zip : mg "zip" = none
  mg_EMPTY_SCHEDULE : ∃ t, mg "EMPTY_SCHEDULE" = some (.str "-" t)
  mg_GREATEST_COORDINATE : ∃ t, mg "GREATEST_COORDINATE" = some (.int (1000000000000000) t)
  mg_GREATEST_COUNT : ∃ t, mg "GREATEST_COUNT" = some (.int (40) t)
  mg_MOST_DIGITS : ∃ t, mg "MOST_DIGITS" = some (.int (40) t)
/-! ### the grid as it is run -/
abbrev Cell := Nat × Nat
structure Gs where
  pos : List Cell
  dn : List Nat
  fin : List Bool
  x : Cell → Option Nat
  y : Cell → Bool
def Gs.init (n : Nat) : Gs := ⟨List.replicate n (0, 0), List.replicate n 0, List.replicate n false, fun _ => none, fun _ => false⟩
def fset {α : Type} (f : Cell → α) (c : Cell) (v : α) : Cell → α := fun d => if d = c then v else f d
inductive Rs | non | right (c : Cell) | down (c : Cell) | stop (c : Cell)
def Gs.at (g : Gs) (p : Nat) : Cell := g.pos.getD p (0, 0)
def Gs.dnAt (g : Gs) (p : Nat) : Nat := g.dn.getD p 0
/-- what the next step of p gives -/
def Gs.res (g : Gs) (p : Nat) : Rs :=
  if g.dnAt p = 1 ∧ g.y (g.at p) = true then .right ((g.at p).1 + 1, (g.at p).2)
  else if g.dnAt p = 3 then (if g.x (g.at p) = some p then .stop (g.at p) else .down ((g.at p).1, (g.at p).2 + 1)) else .non
def Gs.step (g : Gs) (p : Nat) : Gs :=
  match g.res p with
  | .right c => { g with pos := g.pos.set p c, dn := g.dn.set p 0 }
  | .down c => { g with pos := g.pos.set p c, dn := g.dn.set p 0 }
  | .stop _ => { g with fin := g.fin.set p true, dn := g.dn.set p 4 }
  | .non => { g with dn := g.dn.set p (g.dnAt p + 1), x := if g.dnAt p = 0 then fset g.x (g.at p) (some p) else g.x, y := if g.dnAt p = 2 then fset g.y (g.at p) true else g.y }
def Gs.run (g : Gs) (l : List Nat) : Gs := l.foldl Gs.step g
def Gs.Ok (g : Gs) (p : Nat) : Prop := g.fin[p]? = some false
def GVal : Gs → List Nat → Prop
  | _, [] => True
  | g, p :: r => g.Ok p ∧ GVal (g.step p) r
structure Gs.Ln (g : Gs) (n : Nat) : Prop where
  lp : g.pos.length = n
  ld : g.dn.length = n
  lf : g.fin.length = n
structure Gs.Wf (g : Gs) (n : Nat) : Prop extends Gs.Ln g n where
  d3 : ∀ p, g.Ok p → g.dnAt p ≤ 3
  wx : ∀ p, g.Ok p → g.dnAt p ≠ 0 → (g.x (g.at p)).isSome = true
theorem Gs.init_wf (n : Nat) : (Gs.init n).Wf n := by
  refine ⟨⟨List.length_replicate, List.length_replicate, List.length_replicate⟩, fun p h => ?_, fun p h h2 => ?_⟩
  · unfold Gs.dnAt Gs.init
    rw [List.getD_eq_getElem?_getD, List.getElem?_replicate]
    split <;> simp
  · refine absurd ?_ h2
    unfold Gs.dnAt Gs.init
    rw [List.getD_eq_getElem?_getD, List.getElem?_replicate]
    split <;> simp
theorem Gs.Ok.lt {g : Gs} {n p : Nat} (h : g.Ok p) (wf : g.Wf n) : p < n := by
  rw [← wf.lf]
  exact (List.getElem?_eq_some_iff.mp h).1
theorem getD_set {α : Type} {l : List α} {i j : Nat} {v d : α} (h : i < l.length) : (l.set i v).getD j d = if i = j then v else l.getD j d := by
  rw [List.getD_eq_getElem?_getD, List.getD_eq_getElem?_getD, List.getElem?_set]
  split
  · rename_i c; subst c; simp [h]
  · rfl
theorem Gs.Wf.step {g : Gs} {n p : Nat} (wf : g.Wf n) (ok : g.Ok p) : (g.step p).Wf n := by
  have hp := ok.lt wf
  have hd := wf.d3 p ok
  have hpl : p < g.pos.length := by rw [wf.lp]; exact hp
  have hdl : p < g.dn.length := by rw [wf.ld]; exact hp
  have mv : ∀ c, Gs.Wf { g with pos := g.pos.set p c, dn := g.dn.set p 0 } n := by
    intro c
    refine ⟨⟨by simp [wf.lp], by simp [wf.ld], wf.lf⟩, fun q hq => ?_, fun q hq h2 => ?_⟩
    · show (g.dn.set p 0).getD q 0 ≤ 3
      rw [getD_set hdl]
      split
      · omega
      · exact wf.d3 q hq
    · have h2 : (g.dn.set p 0).getD q 0 ≠ 0 := h2
      show (g.x ((g.pos.set p c).getD q (0, 0))).isSome = true
      rw [getD_set hdl] at h2
      rw [getD_set hpl]
      split
      · rename_i e; rw [if_pos e] at h2; exact absurd rfl h2
      · rename_i e; rw [if_neg e] at h2; exact wf.wx q hq h2
  unfold Gs.step
  split <;> rename_i hr
  · exact mv _
  · exact mv _
  · have off : ∀ q, (g.fin.set p true)[q]? = some false → p ≠ q ∧ g.Ok q := fun q hq => by
      by_cases c : p = q
      · subst c
        rw [List.getElem?_set_self (by rw [wf.lf]; exact hp)] at hq
        cases hq
      · rw [List.getElem?_set_ne c] at hq
        exact ⟨c, hq⟩
    refine ⟨⟨wf.lp, by simp [wf.ld], by simp [wf.lf]⟩, fun q hq => ?_, fun q hq h2 => ?_⟩
    · obtain ⟨c, hq⟩ := off q hq
      show (g.dn.set p 4).getD q 0 ≤ 3
      rw [getD_set hdl, if_neg c]
      exact wf.d3 q hq
    · obtain ⟨c, hq⟩ := off q hq
      have h2 : (g.dn.set p 4).getD q 0 ≠ 0 := h2
      rw [getD_set hdl, if_neg c] at h2
      exact wf.wx q hq h2
  · refine ⟨⟨wf.lp, by simp [wf.ld], wf.lf⟩, fun q hq => ?_, fun q hq h2 => ?_⟩
    · show (g.dn.set p (g.dnAt p + 1)).getD q 0 ≤ 3
      rw [getD_set hdl]
      split
      · have : g.dnAt p ≠ 3 := by
          intro c
          unfold Gs.res at hr
          rw [c] at hr
          rw [if_neg (by omega), if_pos rfl] at hr
          split at hr <;> cases hr
        omega
      · exact wf.d3 q hq
    · have h2 : (g.dn.set p (g.dnAt p + 1)).getD q 0 ≠ 0 := h2
      show ((if g.dnAt p = 0 then fset g.x (g.at p) (some p) else g.x) (g.at q)).isSome = true
      rw [getD_set hdl] at h2
      by_cases e0 : g.dnAt p = 0
      · rw [if_pos e0]
        unfold fset
        split
        · rfl
        · rename_i ne
          by_cases c : p = q
          · subst c; exact absurd rfl ne
          · rw [if_neg c] at h2; exact wf.wx q hq h2
      · rw [if_neg e0]
        by_cases c : p = q
        · subst c; exact wf.wx p hq e0
        · rw [if_neg c] at h2; exact wf.wx q hq h2
theorem GVal.wf : ∀ {l : List Nat} {g : Gs} {n : Nat}, g.Wf n → GVal g l → (g.run l).Wf n
  | [], _, _, h, _ => h
  | p :: r, g, n, h, v => GVal.wf (l := r) (h.step v.1) v.2
theorem grun_take {g : Gs} {l : List Nat} {i p : Nat} (h : l[i]? = some p) : g.run (l.take (i + 1)) = (g.run (l.take i)).step p := by
  unfold Gs.run
  rw [List.take_add_one, h, List.foldl_append]
  rfl
theorem grun_app (g : Gs) (l : List Nat) (p : Nat) : g.run (l ++ [p]) = (g.run l).step p := by
  unfold Gs.run
  rw [List.foldl_append]
  rfl
theorem GVal.take : ∀ {l : List Nat} {g : Gs} (i : Nat), GVal g l → GVal g (l.take i)
  | _, _, 0, _ => trivial
  | [], _, i + 1, _ => trivial
  | p :: r, g, i + 1, v => ⟨v.1, GVal.take i v.2⟩
theorem GVal.at : ∀ {l : List Nat} {g : Gs} {i p : Nat}, GVal g l → l[i]? = some p → (g.run (l.take i)).Ok p
  | p :: r, g, 0, q, v, h => by cases h; exact v.1
  | p :: r, g, i + 1, q, v, h => GVal.at (l := r) (g := g.step p) v.2 h
theorem GVal.app : ∀ {l : List Nat} {g : Gs} {p : Nat}, GVal g l → (g.run l).Ok p → GVal g (l ++ [p])
  | [], _, _, _, h => ⟨h, trivial⟩
  | q :: r, g, p, v, h => ⟨v.1, GVal.app (l := r) (g := g.step q) v.2 h⟩
theorem GVal.lt : ∀ {l : List Nat} {g : Gs} {n : Nat}, g.Wf n → GVal g l → ∀ p ∈ l, p < n
  | [], _, _, _, _, p, hp => (List.not_mem_nil hp).elim
  | q :: r, g, n, wf, v, p, hp => by
    rcases List.mem_cons.mp hp with z | z
    · rw [z]
      exact v.1.lt wf
    · exact GVal.lt (l := r) (wf.step v.1) v.2 p z
/-! ### values -/
def nv (l : List Nat) : List V := l.map fun (p : Nat) => V.int (p : Int)
theorem nv_len (l : List Nat) : (nv l).length = l.length := by unfold nv; rw [List.length_map]
theorem nv_at {l : List Nat} {i : Nat} {x : V} (h : (nv l)[i]? = some x) : ∃ p, l[i]? = some p ∧ x = V.int (p : Int) := by
  unfold nv at h
  rw [List.getElem?_map] at h
  cases e : l[i]? with
  | none => rw [e] at h; cases h
  | some p => rw [e] at h; cases h; exact ⟨p, rfl, rfl⟩
theorem atI_nat' {α : Type} {l : List α} {i : Nat} {x : α} (h : l[i]? = some x) : atI l (i : Int) = some x := by
  have hi : i < l.length := (List.getElem?_eq_some_iff.mp h).1
  rw [atI_in (by omega) (by omega), ← h]
  simp only [Int.toNat_natCast]
  exact (List.getElem?_eq_getElem _).symm
theorem nv_atI {l : List Nat} {i d : Nat} (h : l[i]? = some d) : atI (nv l) (i : Int) = some (V.int (d : Int)) :=
  atI_nat' (by unfold nv; rw [List.getElem?_map, h]; rfl)
theorem ixN_nat {n i : Nat} (h : i < n) : ixN n (i : Int) = some i := by
  unfold ixN
  rw [if_pos (by omega), if_pos (by omega), Int.toNat_natCast]
theorem nv_set (l : List Nat) (i d : Nat) : (nv l).set i (V.int (d : Int)) = nv (l.set i d) := by
  unfold nv
  rw [List.map_set]
theorem nv_put (l : List Nat) (p k : Nat) : (nv l).set p (V.int ((k : Int) + 1)) = nv (l.set p (k + 1)) := by rw [← nv_set]; rfl
theorem nv_app (l : List Nat) (d : Nat) : nv (l ++ [d]) = nv l ++ [V.int (d : Int)] := by
  unfold nv
  rw [List.map_append]
  rfl
theorem nv_pick {l : List Nat} {r : Int} (h0 : 0 ≤ r) (h : r < l.length) : ∃ p, p ∈ l ∧ atI (nv l) r = some (V.int (p : Int)) := by
  have hr : r.toNat < l.length := by omega
  refine ⟨l[r.toNat], List.getElem_mem _, ?_⟩
  have := nv_atI (List.getElem?_eq_getElem hr)
  rw [Int.toNat_of_nonneg h0] at this
  exact this
theorem cut_take {α : Type} (xs : List V) (k : Nat) : cutV xs none (some (k : Int)) = xs.take k := by
  unfold cutV
  rw [HT.sIx_none, HT.sIx_nat]
  show (xs.drop 0).take (min k xs.length - 0) = _
  rw [List.drop_zero, Nat.sub_zero, List.take_eq_take_iff]
  omega
theorem nv_take (l : List Nat) (k : Nat) : (nv l).take k = nv (l.take k) := by
  unfold nv
  rw [List.map_take]
theorem nv_rep (n : Nat) : nv (List.replicate n 0) = List.replicate n (V.int 0) := by unfold nv; rw [List.map_replicate]; rfl
def cellV (c : Cell) : List V := [.int (c.1 : Int), .int (c.2 : Int)]
def keyC (c : Cell) : List Key := [.inl (c.1 : Int), .inl (c.2 : Int)]
theorem keyC_inj {c d : Cell} (h : keyC c = keyC d) : c = d := by
  unfold keyC at h
  simp only [List.cons.injEq, Sum.inl.injEq, and_true] at h
  exact Prod.ext (by omega) (by omega)
def nmC (c : Cell) : Int := ((c.1 : Int) + (c.2 : Int)) * ((c.1 : Int) + (c.2 : Int) + 1) / 2 + (c.1 : Int)
def wV : Option Nat → V
  | none => .non
  | some p => .int (p : Int)
def Gs.names (g : Gs) : List V := List.zipWith (fun (f : Bool) (c : Cell) => if f = true then V.int (nmC c) else V.non) g.fin g.pos
theorem Gs.names_at {g : Gs} {n p : Nat} (wf : g.Ln n) (hp : p < n) : g.names[p]? = some (if g.fin[p]? = some true then V.int (nmC (g.at p)) else V.non) := by
  have h1 : p < g.fin.length := by rw [wf.lf]; exact hp
  have h2 : p < g.pos.length := by rw [wf.lp]; exact hp
  unfold Gs.names Gs.at
  rw [List.getElem?_zipWith, List.getElem?_eq_getElem h1, List.getElem?_eq_getElem h2, List.getD_eq_getElem?_getD, List.getElem?_eq_getElem h2]
  simp
theorem Gs.at_get {g : Gs} {n p : Nat} (wf : g.Ln n) (hp : p < n) : g.pos[p]? = some (g.at p) := by
  have h2 : p < g.pos.length := by rw [wf.lp]; exact hp
  unfold Gs.at
  rw [List.getD_eq_getElem?_getD, List.getElem?_eq_getElem h2]; rfl
theorem Gs.dn_get {g : Gs} {n p : Nat} (wf : g.Ln n) (hp : p < n) : g.dn[p]? = some (g.dnAt p) := by
  have h2 : p < g.dn.length := by rw [wf.ld]; exact hp
  unfold Gs.dnAt
  rw [List.getD_eq_getElem?_getD, List.getElem?_eq_getElem h2]; rfl
theorem Gs.names_len {g : Gs} {n : Nat} (wf : g.Ln n) : g.names.length = n := by
  unfold Gs.names
  rw [List.length_zipWith, wf.lf, wf.lp]; omega
/-- names after a move, after a stop -/
theorem names_move {fin : List Bool} {pos : List Cell} {p : Nat} {c : Cell} (ok : fin[p]? = some false) :
    List.zipWith (fun (f : Bool) (c : Cell) => if f = true then V.int (nmC c) else V.non) fin (pos.set p c) = List.zipWith (fun (f : Bool) (c : Cell) => if f = true then V.int (nmC c) else V.non) fin pos := by
  apply List.ext_getElem?
  intro q
  rw [List.getElem?_zipWith, List.getElem?_zipWith, List.getElem?_set]
  by_cases e : p = q
  · subst e
    rw [if_pos rfl, ok]
    split <;> (cases hq : pos[p]? <;> simp_all)
  · rw [if_neg e]
theorem names_stop {fin : List Bool} {pos : List Cell} {p : Nat} {c : Cell} (hp : pos[p]? = some c) (hl : p < fin.length) :
    List.zipWith (fun (f : Bool) (c : Cell) => if f = true then V.int (nmC c) else V.non) (fin.set p true) pos = (List.zipWith (fun (f : Bool) (c : Cell) => if f = true then V.int (nmC c) else V.non) fin pos).set p (V.int (nmC c)) := by
  apply List.ext_getElem?
  intro q
  have h2 : p < pos.length := (List.getElem?_eq_some_iff.mp hp).1
  rw [List.getElem?_zipWith, List.getElem?_set, List.getElem?_set, List.getElem?_zipWith, List.length_zipWith]
  by_cases e : p = q
  · subst e
    rw [if_pos rfl, if_pos rfl, if_pos hl, if_pos (by omega), hp]
    simp
  · rw [if_neg e, if_neg e]
/-! ### lists of tuples that stand -/
def Tups (B : Hp) (xs : List V) (ts : List (List V)) : Prop := xs.length = ts.length ∧ ∀ (i : Nat) (t : List V), ts[i]? = some t → ∃ a, xs[i]? = some (.ref a) ∧ B a = some (.tup t)
theorem Tups.mono {B B' : Hp} {xs : List V} {ts : List (List V)} (h : Tups B xs ts) (s : Same B B') : Tups B' xs ts := ⟨h.1, fun i t e => by
  obtain ⟨a, h1, h2⟩ := h.2 i t e
  exact ⟨a, h1, s _ _ h2⟩⟩
theorem Tups.nil (B : Hp) : Tups B [] [] := ⟨rfl, fun i t e => by rw [List.getElem?_nil] at e; cases e⟩
theorem Tups.rep {B : Hp} {a : Addr} {t : List V} (h : B a = some (.tup t)) (n : Nat) : Tups B (List.replicate n (.ref a)) (List.replicate n t) := ⟨by rw [List.length_replicate, List.length_replicate], fun i u e => by
  rw [List.getElem?_replicate] at e ⊢
  split at e
  · cases e
    exact ⟨a, by rw [if_pos ‹_›], h⟩
  · cases e⟩
theorem Tups.set {B : Hp} {xs : List V} {ts : List (List V)} {a : Addr} {t : List V} (h : Tups B xs ts) (p : Nat) (ha : B a = some (.tup t)) : Tups B (xs.set p (.ref a)) (ts.set p t) := ⟨by rw [List.length_set, List.length_set]; exact h.1, fun i u e => by
  rw [List.getElem?_set] at e ⊢
  by_cases c : p = i
  · subst c
    rw [if_pos rfl] at e ⊢
    split at e
    · cases e
      exact ⟨a, by rw [if_pos (by rw [h.1]; assumption)], ha⟩
    · cases e
  · rw [if_neg c] at e ⊢
    exact h.2 i u e⟩
theorem Tups.app {B : Hp} {xs : List V} {ts : List (List V)} {a : Addr} {t : List V} (h : Tups B xs ts) (ha : B a = some (.tup t)) : Tups B (xs ++ [.ref a]) (ts ++ [t]) := ⟨by rw [List.length_append, List.length_append, h.1]; rfl, fun i u e => by
  by_cases c : i < ts.length
  · rw [List.getElem?_append_left c] at e
    rw [List.getElem?_append_left (by rw [h.1]; exact c)]
    exact h.2 i u e
  · rw [List.getElem?_append_right (by omega)] at e
    rw [List.getElem?_append_right (by rw [h.1]; omega), h.1]
    cases hi : i - ts.length with
    | zero => rw [hi] at e; cases e; exact ⟨a, rfl, ha⟩
    | succ j => rw [hi] at e; simp at e⟩
theorem Tups.at {B : Hp} {xs : List V} {ts : List (List V)} {i : Nat} {x : V} (h : Tups B xs ts) (e : xs[i]? = some x) : ∃ a t, x = .ref a ∧ ts[i]? = some t ∧ B a = some (.tup t) := by
  have hi : i < ts.length := by rw [← h.1]; exact (List.getElem?_eq_some_iff.mp e).1
  obtain ⟨a, h1, h2⟩ := h.2 i _ (List.getElem?_eq_getElem hi)
  rw [e] at h1
  exact ⟨a, _, Option.some.inj h1, List.getElem?_eq_getElem hi, h2⟩
theorem Tups.spot {B : Hp} {xs : List V} {g : Gs} {n p : Nat} (h : Tups B xs (g.pos.map cellV)) (wf : g.Ln n) (hp : p < n) : ∃ a, xs[p]? = some (.ref a) ∧ B a = some (.tup (cellV (g.at p))) :=
  h.2 p _ (by rw [List.getElem?_map, Gs.at_get wf hp]; rfl)
/-! ### how many processes enter a cell -/
theorem step_cases (g : Gs) (p : Nat) : (∃ c, (c = ((g.at p).1 + 1, (g.at p).2) ∧ g.dnAt p = 1 ∧ g.y (g.at p) = true ∨ c = ((g.at p).1, (g.at p).2 + 1) ∧ g.dnAt p = 3 ∧ g.x (g.at p) ≠ some p) ∧ g.step p = { g with pos := g.pos.set p c, dn := g.dn.set p 0 }) ∨
    (g.dnAt p = 3 ∧ g.x (g.at p) = some p ∧ g.step p = { g with fin := g.fin.set p true, dn := g.dn.set p 4 }) ∨
    (g.dnAt p ≠ 3 ∧ (g.dnAt p = 1 → g.y (g.at p) = false) ∧ g.step p = { g with dn := g.dn.set p (g.dnAt p + 1), x := if g.dnAt p = 0 then fset g.x (g.at p) (some p) else g.x, y := if g.dnAt p = 2 then fset g.y (g.at p) true else g.y }) := by
  by_cases a : g.dnAt p = 1 ∧ g.y (g.at p) = true
  · have er : g.res p = .right ((g.at p).1 + 1, (g.at p).2) := by unfold Gs.res; rw [if_pos a]
    exact Or.inl ⟨_, Or.inl ⟨rfl, a⟩, by unfold Gs.step; rw [er]⟩
  · by_cases b : g.dnAt p = 3
    · by_cases c : g.x (g.at p) = some p
      · have er : g.res p = .stop (g.at p) := by unfold Gs.res; rw [if_neg a, if_pos b, if_pos c]
        exact Or.inr (Or.inl ⟨b, c, by unfold Gs.step; rw [er]⟩)
      · have er : g.res p = .down ((g.at p).1, (g.at p).2 + 1) := by unfold Gs.res; rw [if_neg a, if_pos b, if_neg c]
        exact Or.inl ⟨_, Or.inr ⟨rfl, b, c⟩, by unfold Gs.step; rw [er]⟩
    · have er : g.res p = .non := by unfold Gs.res; rw [if_neg a, if_neg b]
      exact Or.inr (Or.inr ⟨b, fun h => by cases hy : g.y (g.at p) with | true => exact (a ⟨h, hy⟩).elim | false => rfl, by unfold Gs.step; rw [er]⟩)
theorem gset_self {α : Type} {l : List α} {p : Nat} {a d : α} (h : p < l.length) : (l.set p a).getD p d = a := by
  rw [List.getD_eq_getElem?_getD, List.getElem?_set_self h]; rfl
theorem gset_ne {α : Type} {l : List α} {p q : Nat} {a d : α} (h : q ≠ p) : (l.set p a).getD q d = l.getD q d := by
  rw [List.getD_eq_getElem?_getD, List.getElem?_set_ne (fun e => h e.symm), ← List.getD_eq_getElem?_getD]
/-- where each process has been: 0 not, 1 is, 2 went right, 3 went down -/
structure Gh (g : Gs) (n : Nat) (A : Nat → Bool) (v : Nat → Cell → Nat) : Prop where
  lt : ∀ p c, v p c ≠ 0 → p < n
  ac : ∀ p c, v p c ≠ 0 → A p = true
  here : ∀ p, p < n → A p = true → v p (g.at p) = 1
  one : ∀ p c, v p c = 1 → c = g.at p
  far : ∀ p c, v p c ≠ 0 → c.1 + c.2 ≤ (g.at p).1 + (g.at p).2
  k3 : ∀ p c, v p c ≤ 3
  pre : ∀ p c, v p c ≠ 0 → c = (0, 0) ∨ (∃ r, c.1 = r + 1 ∧ v p (r, c.2) = 2) ∨ ∃ e, c.2 = e + 1 ∧ v p (c.1, e) = 3
  yp : ∀ p c, v p c = 2 → g.y c = true
  yq : ∀ c, g.y c = true → ∃ q, v q c ≠ 0 ∧ v q c ≠ 2 ∧ (v q c = 1 → 2 ≤ g.dnAt q)
  xp : ∀ p c, v p c = 3 → ∃ q, g.x c = some q
  xq : ∀ c q, g.x c = some q → v q c ≠ 0 ∧ v q c ≠ 3 ∧ (v q c = 1 → 1 ≤ g.dnAt q)
theorem Gh.init (n : Nat) (A : Nat → Bool) : Gh (Gs.init n) n A fun p c => if (p < n ∧ A p = true) ∧ c = (0, 0) then 1 else 0 := by
  have ha : ∀ p, (Gs.init n).at p = (0, 0) := fun p => by
    unfold Gs.at Gs.init
    rw [List.getD_eq_getElem?_getD, List.getElem?_replicate]
    split <;> rfl
  refine ⟨fun p c h => ?_, fun p c h => ?_, fun p h hA => ?_, fun p c h => ?_, fun p c h => ?_, fun p c => ?_, fun p c h => ?_, fun p c h => ?_, fun c h => ?_, fun p c h => ?_, fun c q h => ?_⟩
  · by_cases z : (p < n ∧ A p = true) ∧ c = (0, 0)
    · exact z.1.1
    · exact (h (if_neg z)).elim
  · by_cases z : (p < n ∧ A p = true) ∧ c = (0, 0)
    · exact z.1.2
    · exact (h (if_neg z)).elim
  · rw [ha]; exact if_pos ⟨⟨h, hA⟩, rfl⟩
  · rw [ha]
    by_cases z : (p < n ∧ A p = true) ∧ c = (0, 0)
    · exact z.2
    · have h : (if (p < n ∧ A p = true) ∧ c = (0, 0) then 1 else 0) = 1 := h
      rw [if_neg z] at h; cases h
  · by_cases z : (p < n ∧ A p = true) ∧ c = (0, 0)
    · rw [z.2]; exact Nat.zero_le _
    · exact (h (if_neg z)).elim
  · show (if (p < n ∧ A p = true) ∧ c = (0, 0) then 1 else 0) ≤ 3
    split <;> decide
  · by_cases z : (p < n ∧ A p = true) ∧ c = (0, 0)
    · exact Or.inl z.2
    · exact (h (if_neg z)).elim
  · have h : (if (p < n ∧ A p = true) ∧ c = (0, 0) then 1 else 0) = 2 := h
    split at h <;> cases h
  · cases (show false = true from h)
  · have h : (if (p < n ∧ A p = true) ∧ c = (0, 0) then 1 else 0) = 3 := h
    split at h <;> cases h
  · cases (show none = some q from h)
theorem Gh.step {g : Gs} {n p : Nat} {A : Nat → Bool} {v : Nat → Cell → Nat} (h : Gh g n A v) (wf : g.Wf n) (ok : g.Ok p) (hA : A p = true) : ∃ v', Gh (g.step p) n A v' := by
  have hp := ok.lt wf
  have h1 : p < g.pos.length := by rw [wf.lp]; exact hp
  have h2 : p < g.dn.length := by rw [wf.ld]; exact hp
  have d3 := wf.d3 p ok
  have hv := h.here p hp hA
  rcases step_cases g p with ⟨c', hc, e⟩ | ⟨a, b, e⟩ | ⟨a, b, e⟩ <;> rw [e]
  · have hd : c'.1 + c'.2 = (g.at p).1 + (g.at p).2 + 1 := by
      rcases hc with ⟨w, _⟩ | ⟨w, _⟩ <;> (rw [w]; dsimp only; omega)
    have h0 : v p c' = 0 := by
      by_cases z : v p c' = 0
      · exact z
      · have := h.far p c' z; omega
    have hne : c' ≠ g.at p := fun z => by rw [z] at hd; omega
    obtain ⟨k, hk, hk2⟩ : ∃ k, (k = 2 ∨ k = 3) ∧ (k = 2 → g.dnAt p = 1 ∧ g.y (g.at p) = true ∧ c' = ((g.at p).1 + 1, (g.at p).2)) ∧ (k = 3 → g.dnAt p = 3 ∧ g.x (g.at p) ≠ some p ∧ c' = ((g.at p).1, (g.at p).2 + 1)) := by
      rcases hc with ⟨w, w1, w2⟩ | ⟨w, w1, w2⟩
      · exact ⟨2, Or.inl rfl, fun _ => ⟨w1, w2, w⟩, fun z => (by cases z)⟩
      · exact ⟨3, Or.inr rfl, fun z => (by cases z), fun _ => ⟨w1, w2, w⟩⟩
    have an : ∀ q, q ≠ p → Gs.at { g with pos := g.pos.set p c', dn := g.dn.set p 0 } q = g.at q := fun q hq => gset_ne hq
    have as : Gs.at { g with pos := g.pos.set p c', dn := g.dn.set p 0 } p = c' := gset_self h1
    have dn : ∀ q, q ≠ p → Gs.dnAt { g with pos := g.pos.set p c', dn := g.dn.set p 0 } q = g.dnAt q := fun q hq => gset_ne hq
    obtain ⟨v', ev, eo, e1, e2⟩ : ∃ v' : Nat → Cell → Nat, v' p (g.at p) = k ∧ (∀ q c, q ≠ p → v' q c = v q c) ∧ v' p c' = 1 ∧ ∀ c, c ≠ g.at p → c ≠ c' → v' p c = v p c :=
      ⟨fun q c => if q = p then (if c = g.at p then k else if c = c' then 1 else v p c) else v q c, by dsimp only; rw [if_pos rfl, if_pos rfl], fun q c hq => if_neg hq, by dsimp only; rw [if_pos rfl, if_neg hne, if_pos rfl], fun c z1 z2 => by dsimp only; rw [if_pos rfl, if_neg z1, if_neg z2]⟩
    have hkn : k ≠ 0 ∧ k ≠ 1 ∧ k ≤ 3 := by omega
    have back : ∀ c, v' p c ≠ 0 → c = c' ∨ v p c ≠ 0 := fun c z => by
      by_cases w : c = c'
      · exact Or.inl w
      · by_cases w2 : c = g.at p
        · rw [w2, hv]; exact Or.inr (by decide)
        · rw [e2 c w2 w] at z; exact Or.inr z
    have old2 : ∀ c k', v p c = k' → k' ≠ 0 → k' ≠ 1 → v' p c = k' := fun c k' z z1 z2 => by
      rw [e2 c (fun w => z2 (by rw [← z, w, hv])) (fun w => z1 (by rw [← z, w, h0]))]; exact z
    refine ⟨v', ⟨fun q c z => ?_, fun q c z => ?_, fun q hq hqA => ?_, fun q c z => ?_, fun q c z => ?_, fun q c => ?_, fun q c z => ?_, fun q c z => ?_, fun c z => ?_, fun q c z => ?_, fun c q z => ?_⟩⟩
    · by_cases w : q = p
      · rw [w]; exact hp
      · exact h.lt q c (by rw [← eo q c w]; exact z)
    · by_cases w : q = p
      · rw [w]; exact hA
      · exact h.ac q c (by rw [← eo q c w]; exact z)
    · by_cases w : q = p
      · rw [w, as]; exact e1
      · rw [an q w, eo q _ w]; exact h.here q hq hqA
    · by_cases w : q = p
      · subst w
        rw [as]
        by_cases w : c = c'
        · exact w
        · by_cases w2 : c = g.at q
          · rw [w2, ev] at z; omega
          · rw [e2 c w2 w] at z
            exact (w2 (h.one q c z)).elim
      · rw [an q w]; rw [eo q c w] at z; exact h.one q c z
    · by_cases w : q = p
      · subst w
        rw [as]
        rcases back c z with w | w
        · rw [w]; exact Nat.le_refl _
        · have := h.far q c w; omega
      · rw [an q w]; rw [eo q c w] at z; exact h.far q c z
    · by_cases w : q = p
      · subst w
        by_cases w : c = c'
        · rw [w, e1]; decide
        · by_cases w2 : c = g.at q
          · rw [w2, ev]; exact hkn.2.2
          · rw [e2 c w2 w]; exact h.k3 q c
      · rw [eo q c w]; exact h.k3 q c
    · by_cases w : q = p
      · subst w
        rcases back c z with w | w
        · subst w
          rcases hk with u | u
          · obtain ⟨_, _, u3⟩ := hk2.1 u
            exact Or.inr (Or.inl ⟨(g.at q).1, by rw [u3], by rw [show ((g.at q).1, c.2) = g.at q by rw [u3], ev, u]⟩)
          · obtain ⟨_, _, u3⟩ := hk2.2 u
            exact Or.inr (Or.inr ⟨(g.at q).2, by rw [u3], by rw [show (c.1, (g.at q).2) = g.at q by rw [u3], ev, u]⟩)
        · rcases h.pre q c w with u | ⟨r, u1, u2⟩ | ⟨r, u1, u2⟩
          · exact Or.inl u
          · exact Or.inr (Or.inl ⟨r, u1, old2 _ _ u2 (by decide) (by decide)⟩)
          · exact Or.inr (Or.inr ⟨r, u1, old2 _ _ u2 (by decide) (by decide)⟩)
      · rw [eo q c w] at z
        rcases h.pre q c z with u | ⟨r, u1, u2⟩ | ⟨r, u1, u2⟩
        · exact Or.inl u
        · exact Or.inr (Or.inl ⟨r, u1, by rw [eo q _ w]; exact u2⟩)
        · exact Or.inr (Or.inr ⟨r, u1, by rw [eo q _ w]; exact u2⟩)
    · show g.y c = true
      by_cases w : q = p
      · subst w
        by_cases w : c = c'
        · rw [w, e1] at z; cases z
        · by_cases w2 : c = g.at q
          · rw [w2, ev] at z; rw [w2]; exact (hk2.1 z).2.1
          · rw [e2 c w2 w] at z; exact h.yp q c z
      · rw [eo q c w] at z; exact h.yp q c z
    · obtain ⟨q, q1, q2, q3⟩ := h.yq c z
      refine ⟨q, ?_⟩
      by_cases w : q = p
      · subst w
        by_cases w2 : c = g.at q
        · subst w2
          have := q3 hv
          rw [ev]
          have : k = 3 := by
            rcases hk with u | u
            · have := (hk2.1 u).1; omega
            · exact u
          omega
        · have w3 : v q c ≠ 1 := fun u => w2 (h.one q c u)
          rw [old2 c _ rfl q1 w3]
          exact ⟨q1, q2, fun u => (w3 u).elim⟩
      · rw [eo q c w, dn q w]; exact ⟨q1, q2, q3⟩
    · show ∃ q, g.x c = some q
      by_cases w : q = p
      · subst w
        by_cases w : c = c'
        · rw [w, e1] at z; cases z
        · by_cases w2 : c = g.at q
          · rw [w2, ev] at z; rw [w2]
            have := (hk2.2 z).1
            exact Option.isSome_iff_exists.mp (wf.wx q ok (by omega))
          · rw [e2 c w2 w] at z; exact h.xp q c z
      · rw [eo q c w] at z; exact h.xp q c z
    · obtain ⟨q1, q2, q3⟩ := h.xq c q z
      by_cases w : q = p
      · subst w
        by_cases w2 : c = g.at q
        · subst w2
          rw [ev]
          have : k = 2 := by
            rcases hk with u | u
            · exact u
            · exact ((hk2.2 u).2.1 z).elim
          omega
        · have w3 : v q c ≠ 1 := fun u => w2 (h.one q c u)
          rw [old2 c _ rfl q1 w3]
          exact ⟨q1, q2, fun u => (w3 u).elim⟩
      · rw [eo q c w, dn q w]; exact ⟨q1, q2, q3⟩
  · have dn : ∀ q, g.dnAt q ≤ Gs.dnAt { g with fin := g.fin.set p true, dn := g.dn.set p 4 } q := fun q => by
      by_cases w : q = p
      · subst w
        rw [show Gs.dnAt { g with fin := g.fin.set q true, dn := g.dn.set q 4 } q = 4 from gset_self h2]; omega
      · rw [show Gs.dnAt { g with fin := g.fin.set p true, dn := g.dn.set p 4 } q = g.dnAt q from gset_ne w]; exact Nat.le_refl _
    refine ⟨v, ⟨h.lt, h.ac, h.here, h.one, h.far, h.k3, h.pre, h.yp, fun c z => ?_, h.xp, fun c q z => ?_⟩⟩
    · obtain ⟨q, q1, q2, q3⟩ := h.yq c z
      exact ⟨q, q1, q2, fun u => Nat.le_trans (q3 u) (dn q)⟩
    · obtain ⟨q1, q2, q3⟩ := h.xq c q z
      exact ⟨q1, q2, fun u => Nat.le_trans (q3 u) (dn q)⟩
  · generalize hx : (if g.dnAt p = 0 then fset g.x (g.at p) (some p) else g.x) = x'
    generalize hy : (if g.dnAt p = 2 then fset g.y (g.at p) true else g.y) = y'
    have ds : Gs.dnAt { g with dn := g.dn.set p (g.dnAt p + 1), x := x', y := y' } p = g.dnAt p + 1 := gset_self h2
    have dn : ∀ q, g.dnAt q ≤ Gs.dnAt { g with dn := g.dn.set p (g.dnAt p + 1), x := x', y := y' } q := fun q => by
      by_cases w : q = p
      · subst w; rw [ds]; omega
      · rw [show Gs.dnAt { g with dn := g.dn.set p (g.dnAt p + 1), x := x', y := y' } q = g.dnAt q from gset_ne w]; exact Nat.le_refl _
    have yy : ∀ c, y' c = true → g.y c = true ∨ (c = g.at p ∧ g.dnAt p = 2) := fun c z => by
      rw [← hy] at z
      split at z
      · unfold fset at z
        by_cases w : c = g.at p
        · exact Or.inr ⟨w, by assumption⟩
        · rw [if_neg w] at z; exact Or.inl z
      · exact Or.inl z
    have yup : ∀ c, g.y c = true → y' c = true := fun c z => by
      rw [← hy]
      split
      · unfold fset
        split
        · rfl
        · exact z
      · exact z
    have xx : ∀ c q, x' c = some q → g.x c = some q ∨ (c = g.at p ∧ q = p) := fun c q z => by
      rw [← hx] at z
      split at z
      · unfold fset at z
        by_cases w : c = g.at p
        · rw [if_pos w] at z; exact Or.inr ⟨w, (Option.some.inj z).symm⟩
        · rw [if_neg w] at z; exact Or.inl z
      · exact Or.inl z
    have xup : ∀ c, (∃ q, g.x c = some q) → ∃ q, x' c = some q := fun c ⟨q, z⟩ => by
      rw [← hx]
      split
      · unfold fset
        split
        · exact ⟨p, rfl⟩
        · exact ⟨q, z⟩
      · exact ⟨q, z⟩
    refine ⟨v, ⟨h.lt, h.ac, h.here, h.one, h.far, h.k3, h.pre, fun q c z => yup c (h.yp q c z), fun c z => ?_, fun q c z => xup c (h.xp q c z), fun c q z => ?_⟩⟩
    · rcases yy c z with w | ⟨w, w2⟩
      · obtain ⟨q, q1, q2, q3⟩ := h.yq c w
        exact ⟨q, q1, q2, fun u => Nat.le_trans (q3 u) (dn q)⟩
      · exact ⟨p, by rw [w, hv]; decide, by rw [w, hv]; decide, fun _ => by rw [ds]; omega⟩
    · rcases xx c q z with w | ⟨w, w2⟩
      · obtain ⟨q1, q2, q3⟩ := h.xq c q w
        exact ⟨q1, q2, fun u => Nat.le_trans (q3 u) (dn q)⟩
      · subst w2
        exact ⟨by rw [w, hv]; decide, by rw [w, hv]; decide, fun _ => by rw [ds]; omega⟩
theorem Gh.run : ∀ {l : List Nat} {g : Gs} {n : Nat} {A : Nat → Bool} {v : Nat → Cell → Nat}, Gh g n A v → g.Wf n → GVal g l → (∀ p ∈ l, A p = true) → ∃ v', Gh (g.run l) n A v'
  | [], _, _, _, v, h, _, _, _ => ⟨v, h⟩
  | p :: r, g, n, A, v, h, wf, hv, hA => by
    obtain ⟨v', h'⟩ := h.step wf hv.1 (hA p List.mem_cons_self)
    exact Gh.run (l := r) (g := g.step p) h' (wf.step hv.1) hv.2 fun q hq => hA q (List.mem_cons_of_mem _ hq)
/-! ### counting them -/
theorem count_le {L : List Nat} {P Q : Nat → Bool} (h : ∀ p ∈ L, P p = true → Q p = true) : L.countP P ≤ L.countP Q := List.countP_mono_left h
theorem count_lt {P Q : Nat → Bool} {q : Nat} : ∀ {L : List Nat}, (∀ p ∈ L, P p = true → Q p = true) → q ∈ L → Q q = true → P q = false → L.countP P + 1 ≤ L.countP Q
  | [], _, hq, _, _ => (List.not_mem_nil hq).elim
  | a :: r, h, hq, h1, h2 => by
    rw [List.countP_cons, List.countP_cons]
    by_cases e : a = q
    · rw [e, h1, h2, if_pos rfl, if_neg (by decide)]
      have := count_le (L := r) fun p hp => h p (List.mem_cons_of_mem _ hp)
      omega
    · have hq2 : q ∈ r := by
        rcases List.mem_cons.mp hq with z | z
        · exact (e z.symm).elim
        · exact z
      have := count_lt (L := r) (fun p hp => h p (List.mem_cons_of_mem _ hp)) hq2 h1 h2
      have ha := h a List.mem_cons_self
      cases hP : P a with
      | true => rw [ha hP]; omega
      | false => rw [if_neg (by decide)]; split <;> omega
theorem count_lt2 {P Q : Nat → Bool} {q s : Nat} {L : List Nat} (h : ∀ p ∈ L, P p = true → Q p = true) (hq : q ∈ L) (h1 : Q q = true) (h2 : P q = false) (hs : s ∈ L) (h3 : Q s = true) (h4 : P s = false) (ne : q ≠ s) : L.countP P + 2 ≤ L.countP Q := by
  have a := count_lt (L := L) (P := P) (Q := fun p => P p || decide (p = q)) (q := q) (fun p _ hp => by rw [hp]; rfl) hq (by rw [decide_eq_true rfl, Bool.or_true]) h2
  have b := count_lt (L := L) (P := fun p => P p || decide (p = q)) (Q := Q) (q := s) (fun p hp z => by
    rcases Bool.or_eq_true_iff.mp z with w | w
    · exact h p hp w
    · rw [of_decide_eq_true w]; exact h1) hs h3 (by rw [h4, decide_eq_false (fun z => ne z.symm)]; rfl)
  omega
theorem least_of {P : Nat → Prop} : ∀ (k : Nat), P k → ∃ m, m ≤ k ∧ P m ∧ ∀ r, r < m → ¬ P r := fun k => by
  induction k using Nat.strongRecOn with
  | _ k ih =>
    intro hk
    by_cases h : ∃ r, r < k ∧ P r
    · obtain ⟨r, h1, h2⟩ := h
      obtain ⟨m, a, b, c⟩ := ih r h1 h2
      exact ⟨m, by omega, b, c⟩
    · exact ⟨k, Nat.le_refl _, hk, fun r h1 h2 => h ⟨r, h1, h2⟩⟩
theorem most_of {P : Nat → Prop} {B : Nat} {k : Nat} (hk : k ≤ B) (h : P k) : ∃ m, k ≤ m ∧ m ≤ B ∧ P m ∧ ∀ r, m < r → r ≤ B → ¬ P r := by
  obtain ⟨m, a, ⟨b0, b⟩, c⟩ := least_of (P := fun i => i ≤ B ∧ P (B - i)) (B - k) ⟨by omega, by rw [show B - (B - k) = k by omega]; exact h⟩
  refine ⟨B - m, by omega, by omega, b, fun r h1 h2 h3 => c (B - r) (by omega) ⟨by omega, by rw [show B - (B - r) = r by omega]; exact h3⟩⟩
section
variable {g : Gs} {n : Nat} {A : Nat → Bool} {v : Nat → Cell → Nat}
theorem Gh.same (h : Gh g n A v) (p : Nat) : ∀ (t r s : Nat), r ≤ t → s ≤ t → v p (r, t - r) ≠ 0 → v p (s, t - s) ≠ 0 → r = s := by
  intro t
  induction t with
  | zero => intro r s h1 h2 _ _; omega
  | succ t ih =>
    have pr : ∀ r, r ≤ t + 1 → v p (r, t + 1 - r) ≠ 0 → (∃ k, k ≤ t ∧ r = k + 1 ∧ v p (k, t - k) = 2) ∨ (r ≤ t ∧ v p (r, t - r) = 3) := fun r hr z => by
      rcases h.pre p _ z with e | ⟨k, e1, e2⟩ | ⟨e, e1, e2⟩
      · have a := congrArg Prod.fst e
        have b := congrArg Prod.snd e
        dsimp only at a b
        omega
      · dsimp only at e1 e2
        exact Or.inl ⟨k, by omega, e1, by rw [show t - k = t + 1 - r by omega]; exact e2⟩
      · dsimp only at e1 e2
        exact Or.inr ⟨by omega, by rw [show t - r = e by omega]; exact e2⟩
    intro r s h1 h2 z1 z2
    rcases pr r h1 z1 with ⟨k, a1, a2, a3⟩ | ⟨a1, a3⟩ <;> rcases pr s h2 z2 with ⟨j, b1, b2, b3⟩ | ⟨b1, b3⟩
    · have := ih k j a1 b1 (by rw [a3]; decide) (by rw [b3]; decide); omega
    · have := ih k s a1 b1 (by rw [a3]; decide) (by rw [b3]; decide)
      subst this
      rw [a3] at b3; cases b3
    · have := ih r j a1 b1 (by rw [a3]; decide) (by rw [b3]; decide)
      subst this
      rw [a3] at b3; cases b3
    · exact ih r s a1 b1 (by rw [a3]; decide) (by rw [b3]; decide)
theorem Gh.notR (h : Gh g n A v) {p : Nat} {c : Cell} (z : v p c ≠ 0) : ∃ q, v q c ≠ 0 ∧ v q c ≠ 2 := by
  by_cases w : v p c = 2
  · obtain ⟨q, a, b, _⟩ := h.yq c (h.yp p c w)
    exact ⟨q, a, b⟩
  · exact ⟨p, z, w⟩
theorem Gh.notD (h : Gh g n A v) {p : Nat} {c : Cell} (z : v p c ≠ 0) : ∃ q, v q c ≠ 0 ∧ v q c ≠ 3 := by
  by_cases w : v p c = 3
  · obtain ⟨q, e⟩ := h.xp p c w
    obtain ⟨a, b, _⟩ := h.xq c q e
    exact ⟨q, a, b⟩
  · exact ⟨p, z, w⟩
/-- p has been in a cell of diagonal t, between a and b -/
def visB (v : Nat → Cell → Nat) (t a b p : Nat) : Bool := (List.range (t + 1)).any fun r => decide (a ≤ r ∧ r ≤ b ∧ v p (r, t - r) ≠ 0)
theorem visB_iff {t a b p : Nat} : visB v t a b p = true ↔ ∃ r, r ≤ t ∧ a ≤ r ∧ r ≤ b ∧ v p (r, t - r) ≠ 0 := by
  unfold visB
  rw [List.any_eq_true]
  constructor
  · rintro ⟨r, h1, h2⟩
    obtain ⟨h3, h4, h5⟩ := of_decide_eq_true h2
    exact ⟨r, by have := List.mem_range.mp h1; omega, h3, h4, h5⟩
  · rintro ⟨r, h1, h2, h3, h4⟩
    exact ⟨r, List.mem_range.mpr (by omega), decide_eq_true ⟨h2, h3, h4⟩⟩
theorem visB_no {t a b p : Nat} (h : ¬ ∃ r, r ≤ t ∧ a ≤ r ∧ r ≤ b ∧ v p (r, t - r) ≠ 0) : visB v t a b p = false := by
  cases e : visB v t a b p with
  | false => rfl
  | true => exact (h (visB_iff.mp e)).elim
theorem Gh.few (h : Gh g n A v) : ∀ (t a b : Nat), a ≤ b → b ≤ t → (∃ p, v p (a, t - a) ≠ 0) → (∃ p, v p (b, t - b) ≠ 0) → (List.range n).countP (visB v t a b) + t ≤ (List.range n).countP A + (b - a) := by
  intro t
  induction t with
  | zero =>
    intro a b h1 h2 _ _
    have := count_le (L := List.range n) (P := visB v 0 a b) (Q := A) fun p _ hp => by
      obtain ⟨r, _, _, _, z⟩ := visB_iff.mp hp
      exact h.ac _ _ z
    omega
  | succ t ih =>
    intro a b h1 h2 ⟨pa, za⟩ ⟨pb, zb⟩
    have pr : ∀ p r, r ≤ t + 1 → v p (r, t + 1 - r) ≠ 0 → (∃ k, k ≤ t ∧ r = k + 1 ∧ v p (k, t - k) = 2) ∨ (r ≤ t ∧ v p (r, t - r) = 3) := fun p r hr z => by
      rcases h.pre p _ z with e | ⟨k, e1, e2⟩ | ⟨e, e1, e2⟩
      · have a := congrArg Prod.fst e
        have b := congrArg Prod.snd e
        dsimp only at a b
        omega
      · dsimp only at e1 e2
        exact Or.inl ⟨k, by omega, e1, by rw [show t - k = t + 1 - r by omega]; exact e2⟩
      · dsimp only at e1 e2
        exact Or.inr ⟨by omega, by rw [show t - r = e by omega]; exact e2⟩
    -- the cells behind
    have hin : ∀ p, visB v (t + 1) a b p = true → ∃ r, r ≤ t ∧ a ≤ r + 1 ∧ r ≤ b ∧ v p (r, t - r) ≠ 0 := fun p hp => by
      obtain ⟨r, r1, r2, r3, r4⟩ := visB_iff.mp hp
      rcases pr p r r1 r4 with ⟨k, k1, k2, k3⟩ | ⟨k1, k3⟩
      · exact ⟨k, k1, by omega, by omega, by rw [k3]; decide⟩
      · exact ⟨r, k1, by omega, r3, by rw [k3]; decide⟩
    obtain ⟨r0, r1, r2, r3, r4⟩ := hin pa (visB_iff.mpr ⟨a, by omega, Nat.le_refl _, h1, za⟩)
    obtain ⟨a', a1, ⟨a2, a3, a4, pa', a5⟩, a6⟩ := least_of (P := fun r => r ≤ t ∧ a ≤ r + 1 ∧ r ≤ b ∧ ∃ p, v p (r, t - r) ≠ 0) r0 ⟨r1, r2, r3, pa, r4⟩
    obtain ⟨b', b1, b0, ⟨b2, b3, b4, pb', b5⟩, b6⟩ := most_of (P := fun r => r ≤ t ∧ a ≤ r + 1 ∧ r ≤ b ∧ ∃ p, v p (r, t - r) ≠ 0) (B := t) a2 ⟨a2, a3, a4, pa', a5⟩
    have I := ih a' b' b1 b2 ⟨pa', a5⟩ ⟨pb', b5⟩
    have sub : ∀ p ∈ List.range n, visB v (t + 1) a b p = true → visB v t a' b' p = true := fun p _ hp => by
      obtain ⟨r, c1, c2, c3, c4⟩ := hin p hp
      refine visB_iff.mpr ⟨r, c1, ?_, ?_, c4⟩
      · by_cases w : r < a'
        · exact (a6 r w ⟨c1, c2, c3, p, c4⟩).elim
        · omega
      · by_cases w : b' < r
        · exact (b6 r w c1 ⟨c1, c2, c3, p, c4⟩).elim
        · omega
    -- one that does not come from the left end, one that does not come from the right end
    have lo : a' + 1 = a → ∃ q, q < n ∧ visB v t a' b' q = true ∧ visB v (t + 1) a b q = false ∧ v q (a', t - a') ≠ 0 := fun e => by
      obtain ⟨q, q1, q2⟩ := h.notR a5
      refine ⟨q, h.lt _ _ q1, visB_iff.mpr ⟨a', a2, Nat.le_refl _, b1, q1⟩, visB_no ?_, q1⟩
      rintro ⟨r, c1, c2, c3, c4⟩
      rcases pr q r c1 c4 with ⟨k, k1, k2, k3⟩ | ⟨k1, k3⟩
      · have := h.same q t k a' k1 a2 (by rw [k3]; decide) q1
        subst this
        exact q2 k3
      · have := h.same q t r a' k1 a2 (by rw [k3]; decide) q1
        omega
    have hi : b' = b → ∃ q, q < n ∧ visB v t a' b' q = true ∧ visB v (t + 1) a b q = false ∧ v q (b', t - b') ≠ 0 := fun e => by
      obtain ⟨q, q1, q2⟩ := h.notD b5
      refine ⟨q, h.lt _ _ q1, visB_iff.mpr ⟨b', b2, b1, Nat.le_refl _, q1⟩, visB_no ?_, q1⟩
      rintro ⟨r, c1, c2, c3, c4⟩
      rcases pr q r c1 c4 with ⟨k, k1, k2, k3⟩ | ⟨k1, k3⟩
      · have := h.same q t k b' k1 b2 (by rw [k3]; decide) q1
        omega
      · have := h.same q t r b' k1 b2 (by rw [k3]; decide) q1
        subst this
        exact q2 k3
    by_cases ea : a' + 1 = a
    · obtain ⟨q, q0, q1, q2, q3⟩ := lo ea
      by_cases eb : b' = b
      · obtain ⟨s, s0, s1, s2, s3⟩ := hi eb
        have := count_lt2 sub (List.mem_range.mpr q0) q1 q2 (List.mem_range.mpr s0) s1 s2 (fun z => by
          subst z
          have := h.same q t a' b' a2 b2 q3 s3
          clear lo hi
          omega)
        clear lo hi
        omega
      · have := count_lt sub (List.mem_range.mpr q0) q1 q2
        clear lo hi
        omega
    · by_cases eb : b' = b
      · obtain ⟨s, s0, s1, s2, s3⟩ := hi eb
        have := count_lt sub (List.mem_range.mpr s0) s1 s2
        clear lo hi
        omega
      · have := count_le sub
        clear lo hi
        omega
/-- no process gets behind diagonal m - 1, m the number of those that take part -/
theorem Gh.near (h : Gh g n A v) {p : Nat} (hp : p < n) (hA : A p = true) : (g.at p).1 + (g.at p).2 < (List.range n).countP A := by
  have hv : v p (g.at p) ≠ 0 := by rw [h.here p hp hA]; decide
  have e : ((g.at p).1, (g.at p).1 + (g.at p).2 - (g.at p).1) = g.at p := by rw [Nat.add_sub_cancel_left]
  have I := h.few ((g.at p).1 + (g.at p).2) (g.at p).1 (g.at p).1 (Nat.le_refl _) (Nat.le_add_right _ _) ⟨p, by rw [e]; exact hv⟩ ⟨p, by rw [e]; exact hv⟩
  have c : 0 < (List.range n).countP (visB v ((g.at p).1 + (g.at p).2) (g.at p).1 (g.at p).1) := List.countP_pos_iff.mpr ⟨p, List.mem_range.mpr hp, visB_iff.mpr ⟨(g.at p).1, Nat.le_add_right _ _, Nat.le_refl _, Nat.le_refl _, by rw [e]; exact hv⟩⟩
  omega
end
theorem grid_nearA {n p : Nat} {A : Nat → Bool} {sch : List Nat} (hv : GVal (Gs.init n) sch) (hs : ∀ q ∈ sch, A q = true) (hp : p < n) (hA : A p = true) : (((Gs.init n).run sch).at p).1 + (((Gs.init n).run sch).at p).2 < (List.range n).countP A := by
  obtain ⟨v, h⟩ := (Gh.init n A).run (Gs.init_wf n) hv hs
  exact h.near hp hA
theorem grid_near {n p : Nat} {sch : List Nat} (hv : GVal (Gs.init n) sch) (hp : p < n) : (((Gs.init n).run sch).at p).1 + (((Gs.init n).run sch).at p).2 < n := by
  have h := grid_nearA (A := fun _ => true) hv (fun _ _ => rfl) hp rfl
  have := List.countP_le_length (p := fun _ => true) (l := List.range n)
  rw [List.length_range] at this
  omega
/-- the closed cells lie there, too -/
theorem grid_closed {n : Nat} {sch : List Nat} (hv : GVal (Gs.init n) sch) : ∀ c, ((Gs.init n).run sch).y c = true → c.1 + c.2 ≤ n := fun c hc => by
  obtain ⟨v, h⟩ := (Gh.init n (fun _ => true)).run (Gs.init_wf n) hv (fun _ _ => rfl)
  obtain ⟨q, hq, _⟩ := h.yq c hc
  have h1 := h.far q c hq
  have h2 := grid_near hv (h.lt q c hq)
  omega
/-! ### a process alone; at most one stops in a cell -/
def Gs.pot (g : Gs) (p : Nat) : Nat := 4 * ((g.at p).1 + (g.at p).2) + g.dnAt p
theorem Gs.pot_step {g : Gs} {n p : Nat} (wf : g.Wf n) (ok : g.Ok p) : g.pot p + 1 ≤ (g.step p).pot p := by
  have hp := ok.lt wf
  have h1 : p < g.pos.length := by rw [wf.lp]; exact hp
  have h2 : p < g.dn.length := by rw [wf.ld]; exact hp
  unfold Gs.pot
  rcases step_cases g p with ⟨c, hc, e⟩ | ⟨a, b, e⟩ | ⟨a, b, e⟩
  · have ea : (g.step p).at p = c := by rw [e]; exact gset_self h1
    have ed : (g.step p).dnAt p = 0 := by rw [e]; exact gset_self h2
    rw [ea, ed]
    rcases hc with ⟨w, k, _⟩ | ⟨w, k, _⟩ <;> (rw [w, k]; dsimp only; omega)
  · have ea : (g.step p).at p = g.at p := by rw [e]; rfl
    have ed : (g.step p).dnAt p = 4 := by rw [e]; exact gset_self h2
    rw [ea, ed, a]
    exact Nat.le_refl _
  · have ea : (g.step p).at p = g.at p := by rw [e]; rfl
    have ed : (g.step p).dnAt p = g.dnAt p + 1 := by rw [e]; exact gset_self h2
    rw [ea, ed]
    omega
theorem Gs.pot_rep {p : Nat} : ∀ {j : Nat} {g : Gs} {n : Nat}, g.Wf n → GVal g (List.replicate j p) → g.pot p + j ≤ (g.run (List.replicate j p)).pot p
  | 0, _, _, _, _ => Nat.le_refl _
  | j + 1, g, n, wf, hv => by
    have h1 := g.pot_step wf hv.1
    have h2 := Gs.pot_rep (j := j) (g := g.step p) (wf.step hv.1) hv.2
    show g.pot p + (j + 1) ≤ ((g.step p).run (List.replicate j p)).pot p
    omega
structure Uq (g : Gs) (n : Nat) : Prop where
  w3 : ∀ p, g.Ok p → g.dnAt p = 3 → g.y (g.at p) = true
  fy : ∀ q, g.fin[q]? = some true → g.y (g.at q) = true
  fx : ∀ q p, g.fin[q]? = some true → g.Ok p → g.at p = g.at q → 2 ≤ g.dnAt p → g.x (g.at q) ≠ some p
  one : ∀ q p, g.fin[q]? = some true → g.fin[p]? = some true → g.at p = g.at q → p = q
  d4 : ∀ q, g.fin[q]? = some true → g.dnAt q = 4
theorem Uq.init (n : Nat) : Uq (Gs.init n) n := by
  have no : ∀ q : Nat, ¬ ((Gs.init n).fin[q]? = some true) := fun q h => by
    have h : (List.replicate n false)[q]? = some true := h
    rw [List.getElem?_replicate] at h
    split at h <;> cases h
  refine ⟨fun p ok h => ?_, fun q h => (no q h).elim, fun q p h => (no q h).elim, fun q p h => (no q h).elim, fun q h => (no q h).elim⟩
  have hp := ok.lt (Gs.init_wf n)
  have h : (List.replicate n 0).getD p 0 = 3 := h
  rw [List.getD_eq_getElem?_getD, List.getElem?_replicate] at h
  split at h <;> cases h
theorem Uq.step {g : Gs} {n p : Nat} (u : Uq g n) (wf : g.Wf n) (ok : g.Ok p) : Uq (g.step p) n := by
  have hp := ok.lt wf
  have h1 : p < g.pos.length := by rw [wf.lp]; exact hp
  have h2 : p < g.dn.length := by rw [wf.ld]; exact hp
  have h3 : p < g.fin.length := by rw [wf.lf]; exact hp
  have nf : ∀ q, g.fin[q]? = some true → q ≠ p := fun q h z => by
    rw [z] at h
    rw [show g.fin[p]? = some false from ok] at h
    cases h
  rcases step_cases g p with ⟨c, hc, e⟩ | ⟨a, b, e⟩ | ⟨a, b, e⟩ <;> rw [e]
  · have an : ∀ q, q ≠ p → Gs.at { g with pos := g.pos.set p c, dn := g.dn.set p 0 } q = g.at q := fun q hq => gset_ne hq
    have dn : ∀ q, q ≠ p → Gs.dnAt { g with pos := g.pos.set p c, dn := g.dn.set p 0 } q = g.dnAt q := fun q hq => gset_ne hq
    have ds : Gs.dnAt { g with pos := g.pos.set p c, dn := g.dn.set p 0 } p = 0 := gset_self h2
    refine ⟨fun q hq hd => ?_, fun q hq => ?_, fun q r hq hr ha hd => ?_, fun q r hq hr ha => ?_, fun q hq => ?_⟩
    · by_cases w : q = p
      · subst w; rw [ds] at hd; cases hd
      · rw [an q w]; rw [dn q w] at hd; exact u.w3 q hq hd
    · rw [an q (nf q hq)]; exact u.fy q hq
    · rw [an q (nf q hq)] at ha ⊢
      by_cases w : r = p
      · subst w; rw [ds] at hd; omega
      · rw [an r w] at ha; rw [dn r w] at hd; exact u.fx q r hq hr ha hd
    · rw [an q (nf q hq), an r (nf r hr)] at ha
      exact u.one q r hq hr ha
    · rw [dn q (nf q hq)]; exact u.d4 q hq
  · have dn : ∀ q, q ≠ p → Gs.dnAt { g with fin := g.fin.set p true, dn := g.dn.set p 4 } q = g.dnAt q := fun q hq => gset_ne hq
    have ds : Gs.dnAt { g with fin := g.fin.set p true, dn := g.dn.set p 4 } p = 4 := gset_self h2
    have fi : ∀ q, (g.fin.set p true)[q]? = some true → q = p ∨ g.fin[q]? = some true := fun q hq => by
      by_cases w : q = p
      · exact Or.inl w
      · rw [List.getElem?_set_ne (fun z => w z.symm)] at hq
        exact Or.inr hq
    have fo : ∀ q, (g.fin.set p true)[q]? = some false → q ≠ p ∧ g.Ok q := fun q hq => by
      by_cases w : q = p
      · subst w
        rw [List.getElem?_set_self h3] at hq
        cases hq
      · rw [List.getElem?_set_ne (fun z => w z.symm)] at hq
        exact ⟨w, hq⟩
    refine ⟨fun q hq hd => ?_, fun q hq => ?_, fun q r hq hr ha hd => ?_, fun q r hq hr ha => ?_, fun q hq => ?_⟩
    · obtain ⟨w, ho⟩ := fo q hq
      rw [dn q w] at hd
      exact u.w3 q ho hd
    · rcases fi q hq with w | w
      · rw [w]; exact u.w3 p ok a
      · exact u.fy q w
    · obtain ⟨w, ho⟩ := fo r hr
      rw [dn r w] at hd
      rcases fi q hq with z | z
      · show g.x (g.at q) ≠ some r
        rw [z, b]
        intro z2
        exact w (Option.some.inj z2).symm
      · exact u.fx q r z ho ha hd
    · have ha : g.at r = g.at q := ha
      rcases fi q hq with z | z <;> rcases fi r hr with z2 | z2
      · rw [z, z2]
      · rw [z] at ha ⊢
        exact (u.fx r p z2 ok ha.symm (by omega) (by rw [ha]; exact b)).elim
      · rw [z2] at ha ⊢
        exact (u.fx q p z ok ha (by omega) (by rw [← ha]; exact b)).elim
      · exact u.one q r z z2 ha
    · rcases fi q hq with z | z
      · rw [z]; exact ds
      · rw [dn q (nf q z)]; exact u.d4 q z
  · generalize hx : (if g.dnAt p = 0 then fset g.x (g.at p) (some p) else g.x) = x'
    generalize hy : (if g.dnAt p = 2 then fset g.y (g.at p) true else g.y) = y'
    have dn : ∀ q, q ≠ p → Gs.dnAt { g with dn := g.dn.set p (g.dnAt p + 1), x := x', y := y' } q = g.dnAt q := fun q hq => gset_ne hq
    have ds : Gs.dnAt { g with dn := g.dn.set p (g.dnAt p + 1), x := x', y := y' } p = g.dnAt p + 1 := gset_self h2
    have yup : ∀ c, g.y c = true → y' c = true := fun c z => by
      rw [← hy]
      split
      · unfold fset
        split
        · rfl
        · exact z
      · exact z
    refine ⟨fun q hq hd => ?_, fun q hq => yup _ (u.fy q hq), fun q r hq hr ha hd => ?_, u.one, fun q hq => by rw [dn q (nf q hq)]; exact u.d4 q hq⟩
    · by_cases w : q = p
      · subst w
        rw [ds] at hd
        show y' (g.at q) = true
        rw [← hy, if_pos (by omega)]
        exact if_pos rfl
      · rw [dn q w] at hd
        exact yup _ (u.w3 q hq hd)
    · have ha : g.at r = g.at q := ha
      show x' (g.at q) ≠ some r
      by_cases w : r = p
      · subst w
        rw [ds] at hd
        have k : g.dnAt r ≠ 1 := fun z => by
          have h1 := b z
          rw [show g.at r = g.at q from ha] at h1
          rw [u.fy q hq] at h1
          cases h1
        rw [← hx, if_neg (by omega)]
        exact u.fx q r hq hr ha (by omega)
      · rw [dn r w] at hd
        rw [← hx]
        split
        · unfold fset
          split
          · intro z; exact w (Option.some.inj z).symm
          · exact u.fx q r hq hr ha hd
        · exact u.fx q r hq hr ha hd
theorem Uq.run : ∀ {l : List Nat} {g : Gs} {n : Nat}, Uq g n → g.Wf n → GVal g l → Uq (g.run l) n
  | [], _, _, h, _, _ => h
  | p :: r, g, n, h, wf, hv => Uq.run (l := r) (g := g.step p) (h.step wf hv.1) (wf.step hv.1) hv.2
theorem grid_uq {n : Nat} {sch : List Nat} (hv : GVal (Gs.init n) sch) : Uq ((Gs.init n).run sch) n := (Uq.init n).run (Gs.init_wf n) hv
/-- names tell cells -/
theorem tri_mono {a b : Nat} (h : a + 1 ≤ b) : ((a : Int)) * (a + 1) / 2 + a + 1 ≤ (b : Int) * (b + 1) / 2 := by
  have e := tri (a : Int)
  have h1 : ((a : Int) + 1) * ((a : Int) + 1 + 1) ≤ (b : Int) * ((b : Int) + 1) := Int.mul_le_mul (by omega) (by omega) (by omega) (by omega)
  have h2 := Int.ediv_le_ediv (show (0 : Int) < 2 by decide) h1
  omega
theorem nm_inj {c d : Cell} (h : nmC c = nmC d) : c = d := by
  unfold nmC at h
  have e1 : (c.1 : Int) + c.2 = ((c.1 + c.2 : Nat) : Int) := by omega
  have e2 : (d.1 : Int) + d.2 = ((d.1 + d.2 : Nat) : Int) := by omega
  rw [e1, e2] at h
  have hs : c.1 + c.2 = d.1 + d.2 := by
    rcases Nat.lt_trichotomy (c.1 + c.2) (d.1 + d.2) with z | z | z
    · have := tri_mono z; omega
    · exact z
    · have := tri_mono z; omega
  rw [hs] at h
  exact Prod.ext (by omega) (by omega)
theorem nm_bound {c : Cell} {m : Nat} (h : c.1 + c.2 < m) : 0 ≤ nmC c ∧ 2 * nmC c < (m : Int) * (m + 1) := by
  unfold nmC
  have e1 : (c.1 : Int) + c.2 = ((c.1 + c.2 : Nat) : Int) := by omega
  have h0 := tri_mono (a := c.1 + c.2) (b := m) h
  have h1 := tri_even (m : Int)
  have h2 : 0 ≤ ((c.1 + c.2 : Nat) : Int) * (((c.1 + c.2 : Nat) : Int) + 1) := Int.mul_nonneg (by omega) (by omega)
  rw [e1]
  constructor <;> omega
/-! ### a dict whose keys are those that took part -/
theorem put_keys {kvs : List (Key × V)} {ks : List Nat} (h : kvs.map (·.1) = ks.map fun (q : Nat) => (Sum.inl (q : Int) : Key)) (q : Nat) (v : V) : (putK kvs (Sum.inl (q : Int) : Key) v).map (·.1) = (if q ∈ ks then ks else ks ++ [q]).map fun (q : Nat) => (Sum.inl (q : Int) : Key) := by
  have hany : (kvs.any fun kv => decide (kv.1 = (Sum.inl (q : Int) : Key))) = decide (q ∈ ks) := by
    have : (kvs.any fun kv => decide (kv.1 = (Sum.inl (q : Int) : Key))) = ((kvs.map (·.1)).any fun k => decide (k = (Sum.inl (q : Int) : Key))) := by rw [List.any_map]; rfl
    rw [this, h, List.any_map]
    clear h this
    induction ks with
    | nil => rfl
    | cons a r ih =>
      rw [List.any_cons, ih]
      by_cases c : a = q
      · subst c
        simp
      · have : decide ((Sum.inl (a : Int) : Key) = Sum.inl (q : Int)) = false := decide_eq_false fun z => c (by injection z; omega)
        simp only [Function.comp]
        rw [this, Bool.false_or]
        simp only [List.mem_cons, decide_eq_decide]
        exact ⟨Or.inr, fun z => z.resolve_left fun w => c w.symm⟩
  unfold putK
  rw [hany]
  by_cases c : q ∈ ks
  · rw [if_pos (by simpa using c), if_pos c, ← h, List.map_map]
    refine List.map_congr_left fun kv _ => ?_
    simp only [Function.comp]
    split <;> rfl
  · rw [if_neg (by simpa using c), if_neg c, List.map_append, h, List.map_append]
    rfl
def tookK (p : Nat) (l : List Nat) : List (Key × V) := l.foldl (fun kvs (q : Nat) => putK kvs (Sum.inl (q : Int) : Key) (.bl true)) [((Sum.inl (p : Int) : Key), .bl true)]
theorem tookK_app (p q : Nat) (l : List Nat) : tookK p (l ++ [q]) = putK (tookK p l) (Sum.inl (q : Int) : Key) (.bl true) := by
  unfold tookK
  rw [List.foldl_append]
  rfl
theorem took_go : ∀ (l : List Nat) (kvs : List (Key × V)) (ks : List Nat), (kvs.map (·.1) = ks.map fun (q : Nat) => (Sum.inl (q : Int) : Key)) → ks.Nodup → ∃ ks' : List Nat, (l.foldl (fun kvs (q : Nat) => putK kvs (Sum.inl (q : Int) : Key) (.bl true)) kvs).map (·.1) = (ks'.map fun (q : Nat) => (Sum.inl (q : Int) : Key)) ∧ ks'.Nodup ∧ ∀ q, q ∈ ks' ↔ q ∈ ks ∨ q ∈ l
  | [], kvs, ks, h, nd => ⟨ks, h, nd, fun q => by simp⟩
  | a :: r, kvs, ks, h, nd => by
    have h1 := put_keys h a (.bl true)
    have nd1 : (if a ∈ ks then ks else ks ++ [a]).Nodup := by
      split
      · exact nd
      · rename_i c
        exact List.nodup_append.mpr ⟨nd, List.nodup_cons.mpr ⟨List.not_mem_nil, List.nodup_nil⟩, fun x hx y hy z => c (by rw [List.mem_singleton.mp hy] at z; rw [← z]; exact hx)⟩
    obtain ⟨ks', e1, e2, e3⟩ := took_go r _ _ h1 nd1
    refine ⟨ks', e1, e2, fun q => (e3 q).trans ?_⟩
    split
    · rename_i c
      constructor
      · rintro (z | z)
        · exact Or.inl z
        · exact Or.inr (List.mem_cons_of_mem _ z)
      · rintro (z | z)
        · exact Or.inl z
        · rcases List.mem_cons.mp z with w | w
          · rw [w]; exact Or.inl c
          · exact Or.inr w
    · rw [List.mem_append, List.mem_singleton, List.mem_cons, or_assoc]
theorem took_len {n p : Nat} {l : List Nat} (hp : p < n) (hl : ∀ q ∈ l, q < n) : (tookK p l).length = (List.range n).countP fun q => decide (q = p ∨ q ∈ l) := by
  obtain ⟨ks, h1, h2, h3⟩ := took_go l [((Sum.inl (p : Int) : Key), .bl true)] [p] rfl (List.nodup_cons.mpr ⟨List.not_mem_nil, List.nodup_nil⟩)
  have e : (tookK p l).length = ks.length := by
    have := congrArg List.length h1
    rw [List.length_map, List.length_map] at this
    exact this
  rw [e, List.countP_eq_length_filter]
  refine ((List.perm_ext_iff_of_nodup h2 (List.nodup_range.sublist List.filter_sublist)).mpr fun q => ?_).length_eq
  rw [h3, List.mem_singleton, List.mem_filter, List.mem_range, decide_eq_true_eq]
  constructor
  · intro z
    refine ⟨?_, z⟩
    rcases z with w | w
    · rw [w]; exact hp
    · exact hl q w
  · exact fun z => z.2
theorem took_le (p : Nat) : ∀ l : List Nat, (tookK p l).length ≤ l.length + 1 := fun l => by
  unfold tookK
  have : ∀ (l : List Nat) (kvs : List (Key × V)), (l.foldl (fun kvs (q : Nat) => putK kvs (Sum.inl (q : Int) : Key) (.bl true)) kvs).length ≤ l.length + kvs.length := by
    intro l
    induction l with
    | nil => intro kvs; exact Nat.le_of_eq (Nat.zero_add _).symm
    | cons a r ih =>
      intro kvs
      have h1 := ih (putK kvs (Sum.inl (a : Int) : Key) (.bl true))
      have h2 := length_putK kvs (Sum.inl (a : Int) : Key) (.bl true)
      rw [List.foldl_cons, List.length_cons]
      omega
  exact this l _
/-! ### the Walk as it stands -/
structure Wad where
  w : Addr
  dx : Addr
  cl : Addr
  pl : Addr
  dl : Addr
  nl : Addr
  sl : Addr
  rl : Addr
def splE (d : Ad) (g : Gs) (e : Cell × Addr × Addr) : Addr × HO := (e.2.1, .ins d.c_Splitter e.2.2 [("writer", wV (g.x e.1)), ("closed", .bl (g.y e.1))])
def csK (cs : List (Cell × Addr × Addr)) : List (List Key × V) := cs.map fun e => (keyC e.1, V.ref e.2.1)
def walkO (d : Ad) (W : Wad) : Addr × HO := (W.w, .ins d.c_Walk W.dx [("cells", .ref W.cl), ("places", .ref W.pl), ("done", .ref W.dl), ("names", .ref W.nl), ("steps", .ref W.sl), ("reports", .ref W.rl)])
def walkL (d : Ad) (W : Wad) (g : Gs) (xs : List V) (cs : List (Cell × Addr × Addr)) (sch : List Nat) (rp : List V) (l : List (Addr × HO)) : List (Addr × HO) :=
  walkO d W :: (W.cl, .dT (csK cs)) :: (W.pl, .lst xs) :: (W.dl, .lst (nv g.dn)) :: (W.nl, .lst g.names) :: (W.sl, .lst (nv sch)) :: (W.rl, .lst rp) :: (cs.map (splE d g) ++ l)
structure WalkC (d : Ad) (B H : Hp) (W : Wad) (g : Gs) (n : Nat) (xs : List V) (cs : List (Cell × Addr × Addr)) (sch : List Nat) (rp : List V) (evs : List (List V)) (m b : Nat) (l : List (Addr × HO)) : Prop where
  sp : Tups B xs (g.pos.map cellV)
  rt : Tups B rp evs
  nd : (cs.map (·.1)).Nodup
  fr : ∀ c, c ∉ cs.map (·.1) → g.x c = none ∧ g.y c = false
  ln : cs.length ≤ m
  bd : ∀ c ∈ g.pos, c.1 + c.2 ≤ b
  rn : evs.length ≤ m
  led : Led B H (walkL d W g xs cs sch rp l)
def WalkR (d : Ad) (B H : Hp) (W : Wad) (g : Gs) (n : Nat) (sch : List Nat) (evs : List (List V)) (l : List (Addr × HO)) : Prop :=
  g.Wf n ∧ ∃ xs cs rp, WalkC d B H W g n xs cs sch rp evs sch.length sch.length l
theorem csK_look (c : Cell) : ∀ cs : List (Cell × Addr × Addr), (∃ s dx, (c, s, dx) ∈ cs ∧ valV (csK cs) (keyC c) = some (.ref s)) ∨ (c ∉ cs.map (·.1) ∧ valV (csK cs) (keyC c) = none)
  | [] => Or.inr ⟨List.not_mem_nil, rfl⟩
  | (c1, s1, dx1) :: r => by
    by_cases e : c1 = c
    · subst e
      exact Or.inl ⟨s1, dx1, List.mem_cons_self, valV_pos rfl⟩
    · have hk : ¬ keyC c1 = keyC c := fun z => e (keyC_inj z)
      have hv : valV (csK ((c1, s1, dx1) :: r)) (keyC c) = valV (csK r) (keyC c) := valV_neg (p := (keyC c1, V.ref s1)) hk
      rcases csK_look c r with ⟨s, dx, h1, h2⟩ | ⟨h1, h2⟩
      · exact Or.inl ⟨s, dx, List.mem_cons_of_mem _ h1, by rw [hv]; exact h2⟩
      · exact Or.inr ⟨fun z => by
          rw [List.map_cons] at z
          rcases List.mem_cons.mp z with z | z
          · exact e z.symm
          · exact h1 z, by rw [hv]; exact h2⟩
/-- one splitter of them is changed -/
theorem put_spl {d : Ad} {g g' : Gs} {c : Cell} {s dx : Addr} : ∀ {cs : List (Cell × Addr × Addr)}, (cs.map (·.1)).Nodup → ((cs.map (splE d g)).map (·.1)).Nodup → (c, s, dx) ∈ cs → (∀ c', c' ≠ c → g'.x c' = g.x c' ∧ g'.y c' = g.y c') →
    putL (cs.map (splE d g)) s (splE d g' (c, s, dx)).2 = cs.map (splE d g')
  | [], _, _, h, _ => by cases h
  | e :: r, n1, n2, h, hc => by
    rw [List.map_cons] at n1
    rw [List.map_cons, List.map_cons] at n2
    obtain ⟨a1, a2⟩ := List.nodup_cons.mp n1
    obtain ⟨b1, b2⟩ := List.nodup_cons.mp n2
    rw [List.map_cons, putL_cons, List.map_cons]
    rcases List.mem_cons.mp h with z | z
    · subst z
      rw [if_pos (show (splE d g (c, s, dx)).1 = s from rfl), putL_not (show s ∉ _ from b1)]
      congr 1
      refine List.map_congr_left fun e he => ?_
      have : e.1 ≠ c := fun z => a1 (by rw [← z]; exact List.mem_map_of_mem (f := (·.1)) he)
      unfold splE
      rw [(hc _ this).1, (hc _ this).2]
    · have ne : e.1 ≠ c := fun w => a1 (by rw [w]; exact List.mem_map_of_mem (f := (·.1)) z)
      have ne2 : ¬ (splE d g e).1 = s := fun w => b1 (by
        rw [w]
        exact List.mem_map.mpr ⟨splE d g (c, s, dx), List.mem_map_of_mem z, rfl⟩)
      rw [if_neg ne2, put_spl a2 b2 z hc]
      congr 1
      unfold splE
      rw [(hc _ ne).1, (hc _ ne).2]
theorem names_init (n : Nat) : (Gs.init n).names = List.replicate n .non := by
  apply List.ext_getElem?
  intro q
  have wf := Gs.init_wf n
  by_cases c : q < n
  · rw [Gs.names_at wf.toLn c, List.getElem?_replicate, if_pos c, if_neg]
    show ¬ (List.replicate n false)[q]? = some true
    rw [List.getElem?_replicate, if_pos c]
    decide
  · rw [List.getElem?_eq_none (by rw [Gs.names_len wf.toLn]; omega), List.getElem?_eq_none (by rw [List.length_replicate]; omega)]
/-- what a step gives, as told -/
def resT : Rs → Option (Str × Int)
  | .non => none
  | .right c => some ("right", nmC c)
  | .down c => some ("down", nmC c)
  | .stop c => some ("stop", nmC c)
def RV (B : Hp) (v : V) : Option (Str × Int) → Prop
  | none => v = .non
  | some (s, i) => ∃ t, v = .ref t ∧ B t = some (.tup [.str s, .int i])
def evT (p : Nat) : Option (Str × Int) → List (List V)
  | none => []
  | some (s, i) => [[.int (p : Int), .str s, .int i]]
def evsOf : Gs → List Nat → List (List V)
  | _, [] => []
  | g, p :: r => evT p (resT (g.res p)) ++ evsOf (g.step p) r
theorem evsOf_app : ∀ (l : List Nat) (g : Gs) (p : Nat), evsOf g (l ++ [p]) = evsOf g l ++ evT p (resT ((g.run l).res p))
  | [], g, p => by
    show evT p (resT (g.res p)) ++ [] = [] ++ _
    rw [List.append_nil]; rfl
  | q :: r, g, p => by
    show evT q (resT (g.res q)) ++ evsOf (g.step q) (r ++ [p]) = (evT q (resT (g.res q)) ++ evsOf (g.step q) r) ++ _
    rw [evsOf_app r, List.append_assoc]
    rfl
theorem nm_bd {c : Cell} {m : Nat} (h : c.1 + c.2 ≤ m) (hm : m ≤ 1000000) : (0 : Int) ≤ c.1 ∧ (c.1 : Int) ≤ 10 ^ 15 ∧ (0 : Int) ≤ c.2 ∧ (c.2 : Int) ≤ 10 ^ 15 := by omega
theorem walk_tail {d : Ad} {B H : Hp} {W : Wad} {g : Gs} {xs : List V} {cs : List (Cell × Addr × Addr)} {sch : List Nat} {rp : List V} {l : List (Addr × HO)} (L : Led B H (walkL d W g xs cs sch rp l)) : Led B H l :=
  L.subl (((((((List.sublist_append_right _ l).cons _).cons _).cons _).cons _).cons _).cons _ |>.cons _)
theorem walk_front {d : Ad} {B H : Hp} {W : Wad} {g : Gs} {xs : List V} {cs : List (Cell × Addr × Addr)} {sch : List Nat} {rp : List V} {l : List (Addr × HO)} : Led B H (walkL d W g xs cs sch rp l) ↔ Led B H (l ++ walkL d W g xs cs sch rp []) := by
  have p : (walkL d W g xs cs sch rp l).Perm (l ++ walkL d W g xs cs sch rp []) := by
    have e : walkL d W g xs cs sch rp l = walkL d W g xs cs sch rp [] ++ l := by
      unfold walkL
      simp only [List.append_nil, List.cons_append]
    rw [e]
    exact List.perm_append_comm
  exact ⟨fun L => L.perm p, fun L => L.perm p.symm⟩
theorem Led.nd_mid {B H : Hp} {a b c : List (Addr × HO)} (L : Led B H (a ++ (b ++ c))) : ((b).map (·.1)).Nodup ∧ (∀ e ∈ b, e.1 ∉ a.map (·.1) ∧ e.1 ∉ c.map (·.1)) := by
  have nd := L.nd
  rw [List.map_append, List.map_append] at nd
  obtain ⟨n1, n2, n3⟩ := List.nodup_append.mp nd
  obtain ⟨m1, m2, m3⟩ := List.nodup_append.mp n2
  refine ⟨m1, fun e he => ⟨fun z => ?_, fun z => ?_⟩⟩
  · exact n3 _ z e.1 (List.mem_append_left _ (List.mem_map_of_mem he)) rfl
  · exact m3 e.1 (List.mem_map_of_mem he) _ z rfl
/-! ### a Run as it stands -/
structure Rad where
  r : Addr
  dx : Addr
  ml : Addr
def runO (d : Ad) (R : Rad) (W : Wad) : Addr × HO := (R.r, .ins d.c_Run R.dx [("_walk", .ref W.w), ("_marks", .ref R.ml)])
def RunR (d : Ad) (B H : Hp) (R : Rad) (n : Nat) (sch mks : List Nat) (l : List (Addr × HO)) : Prop :=
  GVal (Gs.init n) sch ∧ ∃ W, WalkR d B H W ((Gs.init n).run sch) n sch (evsOf (Gs.init n) sch) (runO d R W :: (R.ml, .lst (nv mks)) :: l)
theorem RunR.split {d : Ad} {B H : Hp} {R : Rad} {n : Nat} {sch mks : List Nat} {l : List (Addr × HO)} (h : RunR d B H R n sch mks l) : ∃ W xs cs rp, Led B H (runO d R W :: (R.ml, .lst (nv mks)) :: l ++ walkL d W ((Gs.init n).run sch) xs cs sch rp []) ∧ ∀ B' H' sl, Same B B' → Led B' H' (runO d R W :: (R.ml, .lst (nv sl)) :: l ++ walkL d W ((Gs.init n).run sch) xs cs sch rp []) → RunR d B' H' R n sch sl l := by
  obtain ⟨hv, W, wf, xs, cs, rp, C⟩ := h
  exact ⟨W, xs, cs, rp, walk_front.mp C.led, fun B' H' sl s L => ⟨hv, W, wf, xs, cs, rp, ⟨C.sp.mono s, C.rt.mono s, C.nd, C.fr, C.ln, C.bd, C.rn, walk_front.mpr L⟩⟩⟩
theorem RunR.sub {d : Ad} {B H : Hp} {R : Rad} {n : Nat} {sch mks : List Nat} {l l' : List (Addr × HO)} (h : RunR d B H R n sch mks l) (s : l'.Sublist l) : RunR d B H R n sch mks l' := by
  obtain ⟨hv, W, wf, xs, cs, rp, C⟩ := h
  exact ⟨hv, W, wf, xs, cs, rp, ⟨C.sp, C.rt, C.nd, C.fr, C.ln, C.bd, C.rn, walk_front.mpr ((walk_front.mp C.led).subl (((s.cons_cons _).cons_cons _).append_right _))⟩⟩
theorem hWf {d : Ad} {B H : Hp} {R : Rad} {n : Nat} {sch mks : List Nat} {l : List (Addr × HO)} (h : RunR d B H R n sch mks l) : ((Gs.init n).run sch).Wf n := h.2.choose_spec.1
/-- a new thing beside a run -/
theorem RunR.new {d : Ad} {B H : Hp} {R : Rad} {n : Nat} {sch mks : List Nat} {l : List (Addr × HO)} (h : RunR d B H R n sch mks l) {o : HO} {G : Addr → Hp → Prop} (k : ∀ p H', RunR d B H' R n sch mks ((p, o) :: l) → G p H') : NewK o H G := by
  obtain ⟨hv, W, wf, xs, cs, rp, C⟩ := h
  refine NewK.of (walk_front.mp C.led) fun p H1 L => k p H1 ⟨hv, W, wf, xs, cs, rp, ⟨C.sp, C.rt, C.nd, C.fr, C.ln, C.bd, C.rn, walk_front.mpr ?_⟩⟩
  exact L.sel (.cons (.tl .hd) (.cons (.tl .hd) (.cons .hd .all)))
def stepV (B : Hp) (g : Gs) (p : Nat) (v : V) : Prop := RV B v (resT (g.res p))
/-- what a play tells -/
def ToldR (B : Hp) : Gs → List Nat → List V → Prop
  | _, [], vs => vs = []
  | g, p :: r, vs => ∃ v ws, vs = v :: ws ∧ RV B v (resT (g.res p)) ∧ ToldR B (g.step p) r ws
theorem RV.mono {B B' : Hp} {v : V} {r : Option (Str × Int)} (h : RV B v r) (s : Same B B') : RV B' v r := by
  cases r with
  | none => exact h
  | some e => obtain ⟨t, h1, h2⟩ := h; exact ⟨t, h1, s _ _ h2⟩
theorem ToldR.mono {B B' : Hp} (s : Same B B') : ∀ {l : List Nat} {g : Gs} {vs : List V}, ToldR B g l vs → ToldR B' g l vs
  | [], _, _, h => h
  | p :: r, g, _, ⟨v, ws, e, h1, h2⟩ => ⟨v, ws, e, h1.mono s, ToldR.mono s h2⟩
theorem ToldR.app {B : Hp} {v : V} {p : Nat} : ∀ {l : List Nat} {g : Gs} {vs : List V}, ToldR B g l vs → RV B v (resT ((g.run l).res p)) → ToldR B g (l ++ [p]) (vs ++ [v])
  | [], g, _, h, h2 => ⟨v, [], by rw [show _ = [] from h]; rfl, h2, rfl⟩
  | q :: r, g, _, ⟨w, ws, e, h1, h3⟩, h2 => ⟨w, ws ++ [v], by rw [e]; rfl, h1, ToldR.app h3 h2⟩
theorem ToldR.len {B : Hp} : ∀ {l : List Nat} {g : Gs} {vs : List V}, ToldR B g l vs → vs.length = l.length
  | [], _, _, h => by rw [show _ = [] from h]; rfl
  | q :: r, g, _, ⟨w, ws, e, h1, h3⟩ => by rw [e, List.length_cons, List.length_cons, ToldR.len h3]
theorem dpAll_len {K : PySem.W.Frag} {H : Hp} : ∀ {vs : List V} {ds : List PyData}, DpAll K H vs ds → vs.length = ds.length
  | _, _, .nil => rfl
  | _, _, .cons _ r => by rw [List.length_cons, List.length_cons, dpAll_len r]
theorem res_strOk {g : Gs} {p : Nat} {s : Str} {i : Int} (h : resT (g.res p) = some (s, i)) : PyData.strOk s = true := by
  cases hr : g.res p <;> rw [hr] at h
  · cases h
  · cases h; decide +kernel
  · cases h; decide +kernel
  · cases h; decide +kernel
theorem ToldR.dp {K : PySem.W.Frag} {B H : Hp} (s : Same B H) : ∀ {l : List Nat} {g : Gs} {vs : List V}, ToldR B g l vs → ∃ ds : List PyData, (∀ H', Same B H' → DpAll K H' vs ds) ∧ ∀ d ∈ ds, Eqd 2 d
  | [], _, _, h => ⟨[], fun _ _ => by rw [show _ = [] from h]; exact .nil, fun d hd => (List.not_mem_nil hd).elim⟩
  | p :: r, g, _, ⟨v, ws, e, h1, h2⟩ => by
    obtain ⟨ds, i1, i2⟩ := ToldR.dp s h2
    cases hr : resT (g.res p) with
    | none =>
      rw [hr] at h1
      refine ⟨.none :: ds, fun H' s' => ?_, fun d hd => ?_⟩
      · rw [e, show v = .non from h1]; exact .cons .non (i1 H' s')
      · rcases List.mem_cons.mp hd with z | z
        · rw [z]; exact ⟨Eqd.non.c, Nat.le_succ_of_le Eqd.non.p⟩
        · exact i2 d z
    | some a =>
      obtain ⟨st, i⟩ := a
      have hok := res_strOk hr
      rw [hr] at h1
      obtain ⟨t, rfl, ht⟩ := h1
      refine ⟨.tuple [.str st, .int i] :: ds, fun H' s' => ?_, fun d hd => ?_⟩
      · rw [e]; exact .cons (.tup (.inl (.inl (s' _ _ ht))) (.cons (.str _) (.cons (.int _) .nil))) (i1 H' s')
      · rcases List.mem_cons.mp hd with z | z
        · rw [z]
          refine Eqd.tup fun x hx => ?_
          simp only [List.mem_cons, List.not_mem_nil, or_false] at hx
          rcases hx with w | w
          · rw [w]; exact Eqd.str _ hok
          · rw [w]; exact Eqd.int _
        · exact i2 d z
theorem grun_append (g : Gs) (a b : List Nat) : g.run (a ++ b) = (g.run a).run b := List.foldl_append
/-! ### a run and a machine side by side -/
structure WalkF (d : Ad) (B : Hp) (W : Wad) (g : Gs) (xs : List V) (cs : List (Cell × Addr × Addr)) (rp : List V) (evs : List (List V)) (b : Nat) : Prop where
  sp : Tups B xs (g.pos.map cellV)
  rt : Tups B rp evs
  nd : (cs.map (·.1)).Nodup
  fr : ∀ c, c ∉ cs.map (·.1) → g.x c = none ∧ g.y c = false
  ln : cs.length ≤ b
  bd : ∀ c ∈ g.pos, c.1 + c.2 ≤ b
  rn : evs.length ≤ b
theorem WalkF.mono {d : Ad} {B B' : Hp} {W : Wad} {g : Gs} {xs : List V} {cs : List (Cell × Addr × Addr)} {rp : List V} {evs : List (List V)} {b : Nat} (F : WalkF d B W g xs cs rp evs b) (s : Same B B') : WalkF d B' W g xs cs rp evs b := ⟨F.sp.mono s, F.rt.mono s, F.nd, F.fr, F.ln, F.bd, F.rn⟩
def runL (d : Ad) (R : Rad) (W : Wad) (n : Nat) (xs : List V) (cs : List (Cell × Addr × Addr)) (sch mks : List Nat) (rp : List V) (l : List (Addr × HO)) : List (Addr × HO) := walkL d W ((Gs.init n).run sch) xs cs sch rp (runO d R W :: (R.ml, .lst (nv mks)) :: l)
theorem walkL_app {d : Ad} {W : Wad} {g : Gs} {xs : List V} {cs : List (Cell × Addr × Addr)} {sch : List Nat} {rp : List V} {l : List (Addr × HO)} : walkL d W g xs cs sch rp l = walkL d W g xs cs sch rp [] ++ l := by
  unfold walkL
  simp only [List.cons_append, List.append_nil]
theorem runL_perm {d : Ad} {R : Rad} {W : Wad} {n : Nat} {xs : List V} {cs : List (Cell × Addr × Addr)} {sch mks : List Nat} {rp : List V} (A l : List (Addr × HO)) : (A ++ runL d R W n xs cs sch mks rp l).Perm (runL d R W n xs cs sch mks rp (A ++ l)) := by
  unfold runL
  rw [walkL_app, walkL_app (l := _ :: _ :: (A ++ l))]
  have h := List.perm_append_comm_assoc A (walkL d W ((Gs.init n).run sch) xs cs sch rp [] ++ [runO d R W, (R.ml, .lst (nv mks))]) l
  simp only [List.append_assoc, List.cons_append, List.nil_append] at h ⊢
  exact h
def RunF (d : Ad) (B : Hp) (W : Wad) (n : Nat) (sch : List Nat) (xs : List V) (cs : List (Cell × Addr × Addr)) (rp : List V) : Prop := GVal (Gs.init n) sch ∧ ((Gs.init n).run sch).Wf n ∧ WalkF d B W ((Gs.init n).run sch) xs cs rp (evsOf (Gs.init n) sch) sch.length
theorem RunR.view {d : Ad} {B H : Hp} {R : Rad} {n : Nat} {sch mks : List Nat} {l : List (Addr × HO)} : RunR d B H R n sch mks l ↔ ∃ W xs cs rp, RunF d B W n sch xs cs rp ∧ Led B H (runL d R W n xs cs sch mks rp l) :=
  ⟨fun ⟨hv, W, wf, xs, cs, rp, C⟩ => ⟨W, xs, cs, rp, ⟨hv, wf, ⟨C.sp, C.rt, C.nd, C.fr, C.ln, C.bd, C.rn⟩⟩, C.led⟩, fun ⟨W, xs, cs, rp, ⟨hv, wf, F⟩, L⟩ => ⟨hv, W, wf, xs, cs, rp, ⟨F.sp, F.rt, F.nd, F.fr, F.ln, F.bd, F.rn, L⟩⟩⟩
theorem RunR.perm {d : Ad} {B H : Hp} {R : Rad} {n : Nat} {sch mks : List Nat} {l l' : List (Addr × HO)} (h : RunR d B H R n sch mks l) (p : l.Perm l') : RunR d B H R n sch mks l' := by
  obtain ⟨W, xs, cs, rp, F, L⟩ := RunR.view.mp h
  refine RunR.view.mpr ⟨W, xs, cs, rp, F, ?_⟩
  have h1 := runL_perm (d := d) (R := R) (W := W) (n := n) (xs := xs) (cs := cs) (sch := sch) (mks := mks) (rp := rp) l []
  have h2 := runL_perm (d := d) (R := R) (W := W) (n := n) (xs := xs) (cs := cs) (sch := sch) (mks := mks) (rp := rp) l' []
  rw [List.append_nil] at h1 h2
  exact L.perm (h1.symm.trans ((p.append_right _).trans h2))
theorem RunR.front {d : Ad} {B H : Hp} {R : Rad} {n : Nat} {sch mks : List Nat} {l : List (Addr × HO)} (h : RunR d B H R n sch mks l) : ∃ rest, Led B H (l ++ rest) ∧ ∀ B' H' l', Same B B' → Led B' H' (l' ++ rest) → RunR d B' H' R n sch mks l' := by
  obtain ⟨W, xs, cs, rp, F, L⟩ := RunR.view.mp h
  have pm : ∀ l : List (Addr × HO), (runL d R W n xs cs sch mks rp l).Perm (l ++ runL d R W n xs cs sch mks rp []) := fun l => by
    have h1 := runL_perm (d := d) (R := R) (W := W) (n := n) (xs := xs) (cs := cs) (sch := sch) (mks := mks) (rp := rp) l []
    rw [List.append_nil] at h1
    exact h1.symm
  exact ⟨_, L.perm (pm l), fun B' H' l' s L' => RunR.view.mpr ⟨W, xs, cs, rp, ⟨F.1, F.2.1, F.2.2.mono s⟩, L'.perm (pm l').symm⟩⟩
def rvD : Option (Str × Int) → PyData
  | none => .none
  | some (s, i) => .tuple [.str s, .int i]
theorem RV.dp {K : PySem.W.Frag} {B H : Hp} {v : V} {r : Option (Str × Int)} (h : RV B v r) (s : Same B H) : Dp K H v (rvD r) := by
  cases r with
  | none => rw [show v = .non from h]; exact .non
  | some e => obtain ⟨t, rfl, ht⟩ := h; exact .tup (.inl (.inl (s _ _ ht))) (.cons (.str _) (.cons (.int _) .nil))
theorem rvD_ok {g : Gs} {p : Nat} : Eqd 2 (rvD (resT (g.res p))) := by
  cases h : resT (g.res p) with
  | none => exact ⟨Eqd.non.c, Nat.le_succ_of_le Eqd.non.p⟩
  | some e =>
    obtain ⟨st, i⟩ := e
    have hk := res_strOk h
    refine Eqd.tup fun x hx => ?_
    simp only [List.mem_cons, List.not_mem_nil, or_false] at hx
    rcases hx with w | w
    · rw [w]; exact Eqd.str _ hk
    · rw [w]; exact Eqd.int _
def toldD : Gs → List Nat → List PyData
  | _, [] => []
  | g, p :: r => rvD (resT (g.res p)) :: toldD (g.step p) r
/-! ### the text of a run -/
def rowT (sch : List Nat) : Str := if sch = [] then "-" else txt "," sch
def runT (n : Nat) (sch : List Nat) : Str := Txt.join " " [nT n, rowT sch]
theorem cm_tl : TL.tl "," = [44] := by rfl
theorem cm_ok : (Str.ofString ",").cps.all (· < 256) = true := by decide +kernel
theorem sp1_tl : TL.tl " " = [32] := by rfl
theorem sp1_ok : (Str.ofString " ").cps.all (· < 256) = true := by decide +kernel
theorem da_tl : TL.tl "-" = [45] := by rfl
theorem row_signs {sch : List Nat} : ∀ c ∈ TL.tl (rowT sch), 44 ≤ c ∧ c ≤ 57 := fun c hc => by
  unfold rowT at hc
  split at hc
  · rw [da_tl] at hc
    rw [List.mem_singleton.mp hc]
    decide
  · rw [txt_tl, cm_tl] at hc
    rcases joinL_mem hc with z | ⟨p, hp, z⟩
    · rw [List.mem_singleton.mp z]; decide
    · obtain ⟨n, _, rfl⟩ := List.mem_map.mp hp
      have := TL.numL_digits n c z
      omega
theorem row_ne {p : Nat} {r : List Nat} : txt "," (p :: r) ≠ "-" := fun h => by
  have h2 := congrArg TL.tl h
  rw [da_tl, txt_tl, cm_tl] at h2
  have key : ∀ c ∈ TL.numL p, c = 45 := fun c hc => by
    have : c ∈ TL.joinL [44] ((p :: r).map fun n => TL.numL n) := by
      cases r with
      | nil => exact hc
      | cons q r => exact List.mem_append_left _ hc
    rw [h2] at this
    exact List.mem_singleton.mp this
  obtain ⟨c, t, e⟩ : ∃ c t, TL.numL p = c :: t := by
    cases hq : TL.numL p with
    | nil => exact absurd hq (TL.numL_ne p)
    | cons c t => exact ⟨c, t, rfl⟩
  have k1 := key c (by rw [e]; exact List.mem_cons_self)
  have k2 := TL.numL_digits p c (by rw [e]; exact List.mem_cons_self)
  omega
theorem row_len {sch : List Nat} {k : Nat} (hb : ∀ p ∈ sch, p < 100) (hl : sch.length ≤ k) : (rowT sch).length ≤ 3 * k + 1 := by
  unfold rowT
  split
  · rw [show (Str.ofString "-").length = 1 from rfl]; omega
  · have := txt_len (sep := ",") (k := 2) (by decide) hb
    rw [show (Str.ofString ",").length = 1 from rfl] at this
    omega
theorem run_split (n : Nat) (sch : List Nat) : Txt.split (runT n sch) " " = [nT n, rowT sch] := by
  unfold runT
  refine TL.split_join sp1_tl sp1_ok (fun e => by cases e) fun p hp => ?_
  simp only [List.mem_cons, List.not_mem_nil, or_false] at hp
  rcases hp with z | z
  · rw [z]; exact fun w => by have := nT_digits n 32 w; omega
  · rw [z]; exact fun w => by have := row_signs 32 w; omega
theorem run_tl (n : Nat) (sch : List Nat) : TL.tl (runT n sch) = TL.tl (nT n) ++ ([32] ++ TL.tl (rowT sch)) := by
  unfold runT
  rw [TL.join_eq, TL.tl_join, sp1_tl]
  rfl
theorem run_cat {a : Str} {n : Nat} {sch : List Nat} (h : TL.tl a = TL.tl (nT n) ++ ([32] ++ TL.tl (rowT sch))) : a = runT n sch := TL.ext_tl (h.trans (run_tl n sch).symm)
theorem run_len {n : Nat} {sch : List Nat} {k : Nat} (hn : n < 100) (hb : ∀ p ∈ sch, p < 100) (hl : sch.length ≤ k) : (runT n sch).length ≤ 3 * k + 4 := by
  have h1 := row_len hb hl
  have h2 := nT_len (k := 2) (by decide) (show n < 10 ^ 2 from hn)
  rw [TL.len_tl] at h1 h2 ⊢
  rw [run_tl]
  simp only [List.length_append, List.length_cons, List.length_nil]
  omega
theorem gval_small {n : Nat} {sch : List Nat} (hn : n ≤ 40) (hv : GVal (Gs.init n) sch) : ∀ p ∈ sch, p < 100 := fun p hp => Nat.lt_of_lt_of_le (GVal.lt (Gs.init_wf n) hv p hp) (by omega)
/-! ### two runs side by side -/
theorem runL_out {d : Ad} {R : Rad} {W : Wad} {n : Nat} {xs : List V} {cs : List (Cell × Addr × Addr)} {sch mks : List Nat} {rp : List V} (l : List (Addr × HO)) : (runL d R W n xs cs sch mks rp l).Perm (l ++ runL d R W n xs cs sch mks rp []) := by
  have h1 := runL_perm (d := d) (R := R) (W := W) (n := n) (xs := xs) (cs := cs) (sch := sch) (mks := mks) (rp := rp) l []
  rw [List.append_nil] at h1
  exact h1.symm
theorem runL_sub {d : Ad} {R : Rad} {W : Wad} {n : Nat} {xs : List V} {cs : List (Cell × Addr × Addr)} {sch mks : List Nat} {rp : List V} {l l' : List (Addr × HO)} (h : l.Perm l') : (runL d R W n xs cs sch mks rp l).Perm (runL d R W n xs cs sch mks rp l') := ((runL_out l).trans (h.append_right _)).trans (runL_out l').symm
def Two (d : Ad) (B H : Hp) (R : Rad) (n : Nat) (sch mks : List Nat) (R' : Rad) (n' : Nat) (sch' mks' : List Nat) (l : List (Addr × HO)) : Prop := ∃ W xs cs rp W' xs' cs' rp', RunF d B W n sch xs cs rp ∧ RunF d B W' n' sch' xs' cs' rp' ∧ Led B H (runL d R W n xs cs sch mks rp (runL d R' W' n' xs' cs' sch' mks' rp' l))
theorem RunF.mono {d : Ad} {B B' : Hp} {W : Wad} {n : Nat} {sch : List Nat} {xs : List V} {cs : List (Cell × Addr × Addr)} {rp : List V} (h : RunF d B W n sch xs cs rp) (s : Same B B') : RunF d B' W n sch xs cs rp := ⟨h.1, h.2.1, h.2.2.mono s⟩
section
variable {d : Ad} {B H : Hp} {R R' : Rad} {n n' : Nat} {sch mks sch' mks' : List Nat} {l : List (Addr × HO)}
theorem Two.fst (h : Two d B H R n sch mks R' n' sch' mks' l) : ∃ A, RunR d B H R n sch mks (A ++ l) ∧ ∀ B' H' sch1 mks1 l1, Same B B' → RunR d B' H' R n sch1 mks1 (A ++ l1) → Two d B' H' R n sch1 mks1 R' n' sch' mks' l1 := by
  obtain ⟨W, xs, cs, rp, W', xs', cs', rp', F, F', L⟩ := h
  have pm : ∀ l, (runL d R' W' n' xs' cs' sch' mks' rp' l).Perm (runL d R' W' n' xs' cs' sch' mks' rp' [] ++ l) := fun l => (runL_out l).trans List.perm_append_comm
  refine ⟨runL d R' W' n' xs' cs' sch' mks' rp' [], RunR.view.mpr ⟨W, xs, cs, rp, F, L.perm (runL_sub (pm l))⟩, fun B' H' sch1 mks1 l1 s h1 => ?_⟩
  obtain ⟨W1, xs1, cs1, rp1, F1, L1⟩ := RunR.view.mp h1
  exact ⟨W1, xs1, cs1, rp1, W', xs', cs', rp', F1, F'.mono s, L1.perm (runL_sub (pm l1).symm)⟩
theorem Two.swap (h : Two d B H R n sch mks R' n' sch' mks' l) : Two d B H R' n' sch' mks' R n sch mks l := by
  obtain ⟨W, xs, cs, rp, W', xs', cs', rp', F, F', L⟩ := h
  refine ⟨W', xs', cs', rp', W, xs, cs, rp, F', F, L.perm ?_⟩
  refine (runL_out _).trans ?_
  refine ((runL_out l).append_right _).trans ?_
  refine List.Perm.symm ((runL_out _).trans (((runL_out l).append_right _).trans ?_))
  rw [List.append_assoc, List.append_assoc]
  exact List.Perm.append_left _ List.perm_append_comm
theorem Two.snd (h : Two d B H R n sch mks R' n' sch' mks' l) : ∃ A, RunR d B H R' n' sch' mks' (A ++ l) ∧ ∀ B' H' sch1 mks1 l1, Same B B' → RunR d B' H' R' n' sch1 mks1 (A ++ l1) → Two d B' H' R n sch mks R' n' sch1 mks1 l1 := by
  obtain ⟨A, h1, h2⟩ := h.swap.fst
  exact ⟨A, h1, fun B' H' sch1 mks1 l1 s h3 => (h2 B' H' sch1 mks1 l1 s h3).swap⟩
theorem Two.front (h : Two d B H R n sch mks R' n' sch' mks' l) : ∃ rest, Led B H (l ++ rest) ∧ ∀ B' H' l', Same B B' → Led B' H' (l' ++ rest) → Two d B' H' R n sch mks R' n' sch' mks' l' := by
  obtain ⟨W, xs, cs, rp, W', xs', cs', rp', F, F', L⟩ := h
  have pm : ∀ l, (runL d R W n xs cs sch mks rp (runL d R' W' n' xs' cs' sch' mks' rp' l)).Perm (l ++ (runL d R' W' n' xs' cs' sch' mks' rp' [] ++ runL d R W n xs cs sch mks rp [])) := fun l => by
    refine (runL_out _).trans ?_
    rw [← List.append_assoc]
    exact (runL_out l).append_right _
  exact ⟨_, L.perm (pm l), fun B' H' l' s L' => ⟨W, xs, cs, rp, W', xs', cs', rp', F.mono s, F'.mono s, L'.perm (pm l').symm⟩⟩
theorem Two.sub {l' : List (Addr × HO)} (h : Two d B H R n sch mks R' n' sch' mks' l) (s : l'.Sublist l) : Two d B H R n sch mks R' n' sch' mks' l' := by
  obtain ⟨rest, L, back⟩ := h.front
  exact back B H l' (Same.refl B) (L.subl (s.append_right _))
theorem Two.perm {l' : List (Addr × HO)} (h : Two d B H R n sch mks R' n' sch' mks' l) (s : l.Perm l') : Two d B H R n sch mks R' n' sch' mks' l' := by
  obtain ⟨rest, L, back⟩ := h.front
  exact back B H l' (Same.refl B) (L.perm (s.append_right _))
theorem Two.new {o : HO} {G : Addr → Hp → Prop} (h : Two d B H R n sch mks R' n' sch' mks' l) (k : ∀ p H', Two d B H' R n sch mks R' n' sch' mks' ((p, o) :: l) → G p H') : NewK o H G := by
  obtain ⟨rest, L, back⟩ := h.front
  exact NewK.of L fun p H1 L => k p H1 (back _ _ ((p, o) :: l) (Same.refl _) L)
/-- the second run is done with -/
theorem Two.one (h : Two d B H R n sch mks R' n' sch' mks' l) : RunR d B H R n sch mks l := by
  obtain ⟨A, h1, _⟩ := h.fst
  exact h1.sub (List.sublist_append_right A l)
end
theorem RunR.at {d : Ad} {B H : Hp} {R : Rad} {n : Nat} {sch mks : List Nat} {l : List (Addr × HO)} (h : RunR d B H R n sch mks l) : ∃ fs, H R.r = some (.ins d.c_Run R.dx fs) := by
  obtain ⟨W, xs, cs, rp, L, _⟩ := h.split
  exact ⟨_, L.at (List.mem_cons_self)⟩
theorem RunR.at2 {d : Ad} {B H : Hp} {R : Rad} {n : Nat} {sch mks : List Nat} {l : List (Addr × HO)} (h : RunR d B H R n sch mks l) : ∃ w, H R.r = some (.ins d.c_Run R.dx [("_walk", .ref w), ("_marks", .ref R.ml)]) := by
  obtain ⟨W, xs, cs, rp, L, _⟩ := h.split
  exact ⟨_, L.at (List.mem_cons_self)⟩
theorem RunR.led {d : Ad} {B H : Hp} {R : Rad} {n : Nat} {sch mks : List Nat} {l : List (Addr × HO)} (h : RunR d B H R n sch mks l) : Led B H l := by
  obtain ⟨rest, L, _⟩ := h.front
  exact L.subl (List.sublist_append_left _ _)
/-- == of lists of small numbers -/
theorem dp_nv {K : PySem.W.Frag} {H : Hp} : ∀ l : List Nat, DpAll K H (nv l) (l.map fun (p : Nat) => PyData.int (p : Int))
  | [] => .nil
  | p :: r => .cons (.int _) (dp_nv r)
theorem eqvAll_nv : ∀ a b : List Nat, PyData.eqvAll (a.map fun (p : Nat) => PyData.int (p : Int)) (b.map fun (p : Nat) => PyData.int (p : Int)) = decide (a = b)
  | [], [] => by rw [List.map_nil, PyData.eqvAll]; rfl
  | [], _ :: _ => by rw [List.map_nil, List.map_cons, PyData.eqvAll]; rfl
  | _ :: _, [] => by rw [List.map_nil, List.map_cons, PyData.eqvAll]; rfl
  | x :: a, y :: b => by
    rw [List.map_cons, List.map_cons, PyData.eqvAll, eqvAll_nv a b, PyData.eqv]
    by_cases h : x = y
    · subst h
      by_cases h2 : a = b
      · subst h2; simp
      · rw [decide_eq_false h2, decide_eq_false (fun z => h2 (List.cons.inj z).2), Bool.and_false]
    · rw [show ((x : Int) == (y : Int)) = false from beq_eq_false_iff_ne.mpr (fun z => h (by omega)), decide_eq_false (fun z => h (List.cons.inj z).1), Bool.false_and]
theorem eqd_nv (l : List Nat) : Eqd 2 (.list (l.map fun (p : Nat) => PyData.int (p : Int))) := Eqd.lst fun x hx => by obtain ⟨p, _, rfl⟩ := List.mem_map.mp hx; exact Eqd.int _
/-- xs == ys, lists of such numbers -/
theorem eq_nv {K : PySem.W.Frag} {H : Hp} {a b : Addr} {xs ys : List Nat} {Q : VK} (h : SqL K H a (nv xs)) (h2 : SqL K H b (nv ys)) (q : Q (.bl (decide (xs = ys))) H) : rEqL K (.ref a) (.ref b) H Q := by
  refine Or.inl (EqD.of (.lst h (dp_nv xs)) (.lst h2 (dp_nv ys)) ((eqd_nv xs).sh (by decide)) ((eqd_nv ys).sh (by decide)) ?_)
  rw [PyData.eqv, eqvAll_nv]
  exact q
/-- xs == ys, the same data -/
theorem eq_dat {K : PySem.W.Frag} {H : Hp} {a b : V} {x : PyData} {k : Nat} {Q : VK} (h : Dp K H a x) (h2 : Dp K H b x) (g : Eqd k x) (hk : k ≤ 60) (q : Q (.bl true) H) : rEqL K a b H Q := by
  refine Or.inl (EqD.of h h2 (g.sh (by omega)) (g.sh (by omega)) ?_)
  rw [SeqAt.eqv_refl _ g.c]
  exact q
/-- lists of pairs of numbers -/
def tupD (ts : List (List Int)) : PyData := .list (ts.map fun t => .tuple (t.map PyData.int))
theorem dp_ints {K : PySem.W.Frag} {H : Hp} : ∀ l : List Int, DpAll K H (l.map V.int) (l.map PyData.int)
  | [] => .nil
  | p :: r => .cons (.int _) (dp_ints r)
theorem dp_tups {K : PySem.W.Frag} {B H : Hp} (s : Same B H) : ∀ {xs : List V} {ts : List (List Int)}, Tups B xs (ts.map fun t => t.map V.int) → DpAll K H xs (ts.map fun t => PyData.tuple (t.map PyData.int))
  | [], [], _ => .nil
  | [], _ :: _, h => by have := h.1; simp at this
  | _ :: _, [], h => by have := h.1; simp at this
  | x :: xs, t :: ts, h => by
    obtain ⟨a, e, ha⟩ := h.2 0 (t.map V.int) rfl
    cases e
    exact .cons (.tup (.inl (.inl (s _ _ ha))) (dp_ints t)) (dp_tups s ⟨by have := h.1; simpa using this, fun i u hu => h.2 (i + 1) u hu⟩)
theorem eqd_tupD (ts : List (List Int)) : Eqd 3 (tupD ts) := Eqd.lst fun x hx => by
  obtain ⟨t, _, rfl⟩ := List.mem_map.mp hx
  exact Eqd.tup fun y hy => by obtain ⟨p, _, rfl⟩ := List.mem_map.mp hy; exact Eqd.int _
/-! ### == of lists of None, numbers, bools -/
def toDf : V → PyData
  | .bl b => .bool b
  | .int i => .int i
  | _ => .none
def plainV : V → Bool
  | .non => true
  | .bl _ => true
  | .int _ => true
  | _ => false
theorem dp_plain {K : PySem.W.Frag} {H : Hp} : ∀ l : List V, (∀ x ∈ l, plainV x = true) → DpAll K H l (l.map toDf)
  | [], _ => .nil
  | x :: r, h => by
    refine .cons ?_ (dp_plain r fun y hy => h y (List.mem_cons_of_mem _ hy))
    have := h x List.mem_cons_self
    cases x <;> first | exact .non | exact .bl _ | exact .int _ | cases this
theorem eqd_plain {l : List V} (hp : ∀ x ∈ l, plainV x = true) : Eqd 2 (.list (l.map toDf)) := Eqd.lst fun d hd => by
  obtain ⟨x, hx, rfl⟩ := List.mem_map.mp hd
  have := hp x hx
  cases x <;> first | exact Eqd.non | exact Eqd.bl _ | exact Eqd.int _ | cases this
theorem ne_plain {K : PySem.W.Frag} {H : Hp} {a b : Addr} {l : List V} {Q : VK} (h : SqL K H a l) (h2 : SqL K H b l) (hp : ∀ x ∈ l, plainV x = true) (q : Q (.bl false) H) : rNeD K (.ref a) (.ref b) H Q := by
  have g := eqd_plain hp
  refine NeD.of (.lst h (dp_plain l hp)) (.lst h2 (dp_plain l hp)) (g.sh (by decide)) (g.sh (by decide)) ?_
  rw [SeqAt.eqv_refl _ g.c]
  exact q
theorem eq_plain {K : PySem.W.Frag} {H : Hp} {a b : Addr} {l : List V} {Q : VK} (h : SqL K H a l) (h2 : SqL K H b l) (hp : ∀ x ∈ l, plainV x = true) (q : Q (.bl true) H) : rEqL K (.ref a) (.ref b) H Q := by
  have g := eqd_plain hp
  refine Or.inl (EqD.of (.lst h (dp_plain l hp)) (.lst h2 (dp_plain l hp)) (g.sh (by decide)) (g.sh (by decide)) ?_)
  rw [SeqAt.eqv_refl _ g.c]
  exact q
theorem names_plain {g : Gs} {n : Nat} (wf : g.Ln n) : ∀ x ∈ g.names, plainV x = true := fun x hx => by
  obtain ⟨i, hi, e⟩ := List.mem_iff_getElem.mp hx
  have h := Gs.names_at (p := i) wf (by rw [← Gs.names_len wf]; exact hi)
  rw [List.getElem?_eq_getElem hi, e] at h
  rw [Option.some.inj h]
  split <;> rfl
theorem ne_nv0 {K : PySem.W.Frag} {H : Hp} {a b : Addr} {l : List Nat} {Q : VK} (h : SqL K H a (nv l)) (h2 : SqL K H b []) (q : Q (.bl (!l.isEmpty)) H) : rNeD K (.ref a) (.ref b) H Q := by
  have dp : ∀ l : List Nat, DpAll K H (nv l) (l.map fun (p : Nat) => .int (p : Int)) := fun l => by
    induction l with
    | nil => exact .nil
    | cons x r ih => exact .cons (.int _) ih
  refine NeD.nil (k := 1) h (dp l) (fun x hx => by obtain ⟨p, _, rfl⟩ := List.mem_map.mp hx; exact Eqd.int _) (by decide) h2 ?_
  rw [List.isEmpty_map]
  exact q
/-- a drawer of numbers stands at u, besides l -/
def Urn (B H : Hp) (u : Addr) (l : List (Addr × HO)) (c : Nat) : Prop := ∃ x y z : Int, Led B H ((u, .lst [.int x, .int y, .int z]) :: l) ∧ 0 ≤ x ∧ 0 ≤ y ∧ y < 2 ^ 150 ∧ 0 ≤ z ∧ z ≤ (c : Int)
theorem Urn.led {B H : Hp} {u : Addr} {l : List (Addr × HO)} {c : Nat} (U : Urn B H u l c) : Led B H l := by
  obtain ⟨x, y, z, L, _⟩ := U
  exact L.drop (n := 1)
theorem Urn.map {B H B' H' : Hp} {u : Addr} {l l' : List (Addr × HO)} {c : Nat} (U : Urn B H u l c) (h : ∀ o, Led B H ((u, o) :: l) → Led B' H' ((u, o) :: l')) : Urn B' H' u l' c := by
  obtain ⟨x, y, z, L, r⟩ := U
  exact ⟨x, y, z, h _ L, r⟩
theorem Urn.up {B H : Hp} {u : Addr} {l : List (Addr × HO)} {c d : Nat} (U : Urn B H u l c) (h : c ≤ d) : Urn B H u l d := by
  obtain ⟨x, y, z, L, r1, r2, r3, r4, r5⟩ := U
  exact ⟨x, y, z, L, r1, r2, r3, r4, by omega⟩
theorem Urn.new {B H : Hp} {u : Addr} {l : List (Addr × HO)} {c : Nat} {o : HO} {G : Addr → Hp → Prop} (U : Urn B H u l c) (k : ∀ p H1, Urn B H1 u ((p, o) :: l) c → G p H1) : NewK o H G := fun p hp =>
  k p _ (U.map fun o L => (L.new hp).sel (.cons (.tl .hd) .all))
theorem Urn.sel {B H : Hp} {u : Addr} {l l' : List (Addr × HO)} {c : Nat} (U : Urn B H u l c) (h : Sel l l') : Urn B H u l' c := U.map fun o L => L.sel (.cons .hd h)
theorem Urn.put {B H : Hp} {u p : Addr} {o : HO} {l l' : List (Addr × HO)} {c : Nat} (U : Urn B H u l c) (h : Put l p o l') : Urn B (upd H p o) u l' c := U.map fun _ L => L.put (.tl h)
theorem Urn.catK {B H : Hp} {u p q : Addr} {l : List (Addr × HO)} {c : Nat} {xs ys : List V} {G : Addr → Hp → Prop} (U : Urn B H u l c) (h : (p, HO.lst xs) ∈ l) (h2 : (q, HO.lst ys) ∈ l) (a : xs.length + ys.length ≤ sizeLine)
    (k : ∀ r H1, Urn B H1 u ((r, .lst (xs ++ ys)) :: l) c → G r H1) : CatK p q H G := ⟨xs, ys, U.led.at h, U.led.at h2, a, U.new k⟩
theorem Urn.appK {B H : Hp} {u p : Addr} {l l' : List (Addr × HO)} {c : Nat} {xs : List V} {v : V} {G : Hp → Prop} (U : Urn B H u l c) (h : (p, HO.lst xs) ∈ l) (a : xs.length < sizeLine) (t : Put l p (.lst (xs ++ [v])) l')
    (k : ∀ H1, Urn B H1 u l' c → G H1) : AppK p v H G := ⟨xs, U.led.at h, a, k _ (U.put t)⟩
theorem Urn.setK {B H : Hp} {u p : Addr} {l l' : List (Addr × HO)} {c j : Nat} {i : Int} {xs : List V} {v : V} {G : Hp → Prop} (U : Urn B H u l c) (h : (p, HO.lst xs) ∈ l) (a : ixN xs.length i = some j) (t : Put l p (.lst (xs.set j v)) l')
    (k : ∀ H1, Urn B H1 u l' c → G H1) : SetK p i v H G := ⟨xs, j, U.led.at h, a, k _ (U.put t)⟩
theorem Urn.rptK {B H : Hp} {u a : Addr} {l : List (Addr × HO)} {c n : Nat} {v : V} {G : Addr → Hp → Prop} (U : Urn B H u l c) (h : (a, HO.lst [v]) ∈ l) (hn : n ≤ 100000) (k : ∀ p H1, Urn B H1 u ((p, .lst (List.replicate n v)) :: l) c → G p H1) : RptK a (n : Int) H G :=
  ⟨[v], U.led.at h, by omega, by omega, Nat.le_trans (m := 100000) (by rw [Int.toNat_natCast]; simpa using hn) (by decide), by rw [Int.toNat_natCast, flat_one]; exact U.new k⟩
theorem Urn.remK {B H : Hp} {u a : Addr} {l l' : List (Addr × HO)} {c : Nat} {n : Int} {ns : List Int} {G : Hp → Prop} (U : Urn B H u l c) (h : (a, HO.lst (ns.map V.int)) ∈ l) (hm : n ∈ ns) (t : Put l a (.lst ((ns.erase n).map V.int)) l') (k : ∀ H1, Urn B H1 u l' c → G H1) : RemK a n H G := by
  obtain ⟨j, h1, h2, h3⟩ := first_at hm
  exact ⟨ns, j, U.led.at h, h1, h2, by rw [h3]; exact k _ (U.put t)⟩
theorem Urn.sink {B H : Hp} {u p : Addr} {o : HO} {l : List (Addr × HO)} {c : Nat} (U : Urn B H u ((p, o) :: l) c) : ∃ B', Same B B' ∧ B' p = some o ∧ Urn B' H u l c := by
  obtain ⟨x, y, z, L, r⟩ := U
  obtain ⟨B', s, h, L⟩ := (L.sel (l' := (p, o) :: (u, .lst [.int x, .int y, .int z]) :: l) (.cons (.tl .hd) (.cons .hd .all))).sink
  exact ⟨B', s, h, x, y, z, L, r⟩
theorem pickV {l : List V} {r : Int} (h0 : 0 ≤ r) (h : r < l.length) : ∃ x ∈ l, atI l r = some x := ⟨_, List.getElem_mem _, atI_in h0 h⟩
/-- a drawer and a run -/
def RunB (d : Ad) (B H : Hp) (u : Addr) (c : Nat) (R : Rad) (n : Nat) (sch mks : List Nat) (l : List (Addr × HO)) : Prop := ∃ W xs cs rp, RunF d B W n sch xs cs rp ∧ Urn B H u (runL d R W n xs cs sch mks rp l) c
theorem RunB.run {d : Ad} {B H : Hp} {u : Addr} {c : Nat} {R : Rad} {n : Nat} {sch mks : List Nat} {l : List (Addr × HO)} (h : RunB d B H u c R n sch mks l) : ∃ e, RunR d B H R n sch mks (e :: l) ∧ ∀ B' H' sch' mks' l', Same B B' → RunR d B' H' R n sch' mks' (e :: l') → RunB d B' H' u c R n sch' mks' l' := by
  obtain ⟨W, xs, cs, rp, F, x, y, z, L, hr⟩ := h
  refine ⟨(u, .lst [.int x, .int y, .int z]), RunR.view.mpr ⟨W, xs, cs, rp, F, L.perm (runL_perm [(u, .lst [.int x, .int y, .int z])] l)⟩, fun B' H' sch' mks' l' s h => ?_⟩
  obtain ⟨W', xs', cs', rp', F', L'⟩ := RunR.view.mp h
  exact ⟨W', xs', cs', rp', F', x, y, z, L'.perm (runL_perm [(u, .lst [.int x, .int y, .int z])] l').symm, hr⟩
theorem RunB.up {d : Ad} {B H : Hp} {u : Addr} {c c' : Nat} {R : Rad} {n : Nat} {sch mks : List Nat} {l : List (Addr × HO)} (h : RunB d B H u c R n sch mks l) (hc : c ≤ c') : RunB d B H u c' R n sch mks l := by
  obtain ⟨W, xs, cs, rp, F, U⟩ := h
  exact ⟨W, xs, cs, rp, F, U.up hc⟩
theorem RunB.front {d : Ad} {B H : Hp} {u : Addr} {c : Nat} {R : Rad} {n : Nat} {sch mks : List Nat} {l : List (Addr × HO)} (h : RunB d B H u c R n sch mks l) : ∃ rest, Urn B H u (l ++ rest) c ∧ ∀ B' H' u' c' l', Same B B' → Urn B' H' u' (l' ++ rest) c' → RunB d B' H' u' c' R n sch mks l' := by
  obtain ⟨W, xs, cs, rp, F, U⟩ := h
  have pm : ∀ l : List (Addr × HO), (runL d R W n xs cs sch mks rp l).Perm (l ++ runL d R W n xs cs sch mks rp []) := fun l => by
    have h1 := runL_perm (d := d) (R := R) (W := W) (n := n) (xs := xs) (cs := cs) (sch := sch) (mks := mks) (rp := rp) l []
    rw [List.append_nil] at h1
    exact h1.symm
  refine ⟨_, U.map fun o L => L.perm ((pm l).cons _), fun B' H' u' c' l' s U' => ?_⟩
  exact ⟨W, xs, cs, rp, ⟨F.1, F.2.1, F.2.2.mono s⟩, U'.map fun o L => L.perm ((pm l').cons _).symm⟩
theorem RunB.fact {d : Ad} {B H : Hp} {u : Addr} {c : Nat} {R : Rad} {n : Nat} {sch mks : List Nat} {l : List (Addr × HO)} (h : RunB d B H u c R n sch mks l) : GVal (Gs.init n) sch ∧ ((Gs.init n).run sch).Wf n ∧ ∀ c ∈ ((Gs.init n).run sch).pos, c.1 + c.2 ≤ sch.length := by
  obtain ⟨W, xs, cs, rp, F, U⟩ := h
  exact ⟨F.1, F.2.1, F.2.2.bd⟩
theorem RunB.perm {d : Ad} {B H : Hp} {u : Addr} {c : Nat} {R : Rad} {n : Nat} {sch mks : List Nat} {l l' : List (Addr × HO)} (h : RunB d B H u c R n sch mks l) (p : l.Perm l') : RunB d B H u c R n sch mks l' := by
  obtain ⟨rest, U, back⟩ := h.front
  exact back _ _ _ _ _ (Same.refl _) (U.map fun o L => L.perm ((p.append_right _).cons _))
theorem RunB.new {d : Ad} {B H : Hp} {u : Addr} {c : Nat} {R : Rad} {n : Nat} {sch mks : List Nat} {l : List (Addr × HO)} {o : HO} {G : Addr → Hp → Prop} (h : RunB d B H u c R n sch mks l) (k : ∀ p H', RunB d B H' u c R n sch mks ((p, o) :: l) → G p H') : NewK o H G := by
  obtain ⟨rest, U, back⟩ := h.front
  exact U.new fun p H1 U => k p H1 (back _ _ _ _ ((p, o) :: l) (Same.refl _) U)
theorem RunB.sub {d : Ad} {B H : Hp} {u : Addr} {c : Nat} {R : Rad} {n : Nat} {sch mks : List Nat} {l l' : List (Addr × HO)} (h : RunB d B H u c R n sch mks l) (s : l'.Sublist l) : RunB d B H u c R n sch mks l' := by
  obtain ⟨rest, U, back⟩ := h.front
  exact back _ _ _ _ _ (Same.refl _) (U.map fun o L => L.subl ((s.append_right _).cons_cons _))
section
variable {P : Program} {w : World} {K : PySem.W.Frag} {mg : Str → Option Value} {bs : Heap} {d : Ad}
/-! cut is_integer -/
def sp_is_integer (K : PySem.W.Frag) : Sp := fun vs H Q _ => ∃ a : Int, vs = [.int a] ∧ Q (.bl true) H
theorem ok_is_integer (m : Mo K mg d) (sm : SM bs) : FnOk P w K mg bs CX0 1 d.a_is_integer d.fd_is_integer ["value"] (sp_is_integer K) := by
  refine m.F_is_integer.ok (k := 0) sc_is_integer (fun vs H Q E h => ?_) (fun cdv A fr s H vs Q E hr h => ?_)
  · obtain ⟨a, rfl, q⟩ := h
    rfl
  · obtain ⟨a, rfl, q⟩ := h
    refine ⟨_, (pss_one (ps_ret (pe_and (pe_callB cr_is (by rfl) m.n_isinstance (by decide +kernel) (pa_cons (pv 0) (pa_cons (pe_bltn (v := .ty "int") (by rfl) m.n_int (by decide +kernel) rfl) pa_nil))) (pe_one (pe_not (pe_callB cr_is (by rfl) m.n_isinstance (by decide +kernel) (pa_cons (pv 0) (pa_cons (pe_bltn (v := .ty "bool") (by rfl) m.n_bool (by decide +kernel) rfl) pa_nil)))))))), ?_⟩
    walk_at "vc"
    exact q
/-! cut is_integer_within -/
def sp_is_integer_within (K : PySem.W.Frag) : Sp := fun vs H Q _ => ∃ a lo hi : Int, vs = [.int a, .int lo, .int hi] ∧ Q (.bl (decide (lo ≤ a) && decide (a ≤ hi))) H
theorem ok_is_integer_within (m : Mo K mg d) (sm : SM bs) (G_is_integer : FnOk P w K mg bs CX0 1 d.a_is_integer d.fd_is_integer ["value"] (sp_is_integer K)) : FnOk P w K mg bs CX0 2 d.a_is_integer_within d.fd_is_integer_within ["value", "least", "greatest"] (sp_is_integer_within K) := by
  refine m.F_is_integer_within.ok (k := 1) sc_is_integer_within (fun vs H Q E h => ?_) (fun cdv A fr s H vs Q E hr h => ?_)
  · obtain ⟨a, lo, hi, rfl, q⟩ := h
    rfl
  · obtain ⟨a, lo, hi, rfl, q⟩ := h
    refine ⟨_, (pss_one (ps_ret (pe_and (pe_call G_is_integer (hr.mono (by decide)) (by rfl) m.g_is_integer m.F_is_integer.kp m.b_is_integer .nil pass0 (pa_cons (pv 0) pa_nil)) (pe_one (pe_chain op_le op_le (pv 1) (pv 0) (pv 2)))))), ?_⟩
    walk_at "vc"
    refine ⟨_, rfl, ?_⟩
    walk_at "vc"
    split
    · rename_i h1
      rw [decide_eq_true h1] at q
      exact q
    · rename_i h1
      rw [decide_eq_false h1] at q
      exact q
/-! cut check_count -/
def sp_check_count (K : PySem.W.Frag) : Sp := fun vs H Q _ => ∃ c g : Int, vs = [.int c, .int g] ∧ 1 ≤ c ∧ c ≤ g ∧ Q .non H
theorem ok_check_count (m : Mo K mg d) (sm : SM bs) (G_is_integer_within : FnOk P w K mg bs CX0 2 d.a_is_integer_within d.fd_is_integer_within ["value", "least", "greatest"] (sp_is_integer_within K)) : FnOk P w K mg bs CX0 3 d.a_check_count d.fd_check_count ["count", "greatest"] (sp_check_count K) := by
  refine m.F_check_count.ok (k := 2) sc_check_count (fun vs H Q E h => ?_) (fun cdv A fr s H vs Q E hr h => ?_)
  · obtain ⟨c, g, rfl, h0, h1, q⟩ := h
    rfl
  · obtain ⟨c, g, rfl, h0, h1, q⟩ := h
    refine ⟨_, (pss_one (ps_if (pt_not (pt_val (pe_call G_is_integer_within (hr.mono (by decide)) (by rfl) m.g_is_integer_within m.F_is_integer_within.kp m.b_is_integer_within .nil pass0 (pa_cons (pv 0) (pa_cons pe_int (pa_cons (pv 1) pa_nil))))))
      (pss_one ps_never)
      pss_nil)), ?_⟩
    walk_at "vc"
    refine ⟨_, _, _, rfl, ?_⟩
    walk_at "vc"
    rw [decide_eq_true h0, decide_eq_true h1]
    walk_at "vc"
    exact q
/-! cut Walk___init__ -/
def sp_Walk___init__ (K : PySem.W.Frag) (d : Ad) : Sp := fun vs H Q _ => ∃ (B : Hp) (p dx : Addr) (n : Nat) (l : List (Addr × HO)), vs = [.ref p, .int n] ∧ n ≤ 40 ∧ Led B H ((p, .ins d.c_Walk dx []) :: l) ∧ ∀ B' H' W, Same B B' → W.w = p → WalkR d B' H' W (Gs.init n) n [] [] l → Q .non H'
theorem ok_Walk___init__ (m : Mo K mg d) (sm : SM bs) : FnOk P w K mg bs CX0 1 d.a_Walk___init__ d.fd_Walk___init__ ["self", "count"] (sp_Walk___init__ K d) := by
  refine m.F_Walk___init__.ok (k := 0) sc_Walk___init__ (fun vs H Q E h => ?_) (fun cdv A fr s H vs Q E hr h => ?_)
  · obtain ⟨B, p0, dx, n, l, rfl, hn, L, q⟩ := h
    rfl
  · obtain ⟨B, p0, dx, n, l, rfl, hn, L, q⟩ := h
    refine ⟨_, (pss_cons (ps_fld (pv 0) pe_dnewT rfl)
      (pss_cons (ps_fld (pv 0) (pe_op op_rep (pe_lst (pa_cons (pe_tup (pa_cons pe_int (pa_cons pe_int pa_nil))) pa_nil)) (pv 1)) rfl)
      (pss_cons (ps_fld (pv 0) (pe_op op_rep (pe_lst (pa_cons pe_int pa_nil)) (pv 1)) rfl)
      (pss_cons (ps_fld (pv 0) (pe_op op_rep (pe_lst (pa_cons pe_non pa_nil)) (pv 1)) rfl)
      (pss_cons (ps_fld (pv 0) (pe_lst pa_nil) rfl)
      (pss_one (ps_fld (pv 0) (pe_lst pa_nil) rfl))))))), ?_⟩
    walk_at "vc"
    refine NewK.of L fun cl H1 L => ?_
    refine StK.of L (by walk_at "mem") m.C_Walk m.x_Walk_cells (fs' := [("cells", .ref cl)]) (by walk_at "fs") (by walk_at "put") fun H1 L => ?_
    walk_at "sds"
    refine NewK.of L fun t H1 L => ?_
    walk_at "vc"
    walk_at "sds"
    refine NewK.of L fun p1 H1 L => ?_
    refine RptK.of L (by walk_at "mem") (by omega) fun pl H1 L => ?_
    refine StK.of L (by walk_at "mem") m.C_Walk m.x_Walk_places (fs' := [("cells", .ref cl), ("places", .ref pl)]) (by walk_at "fs") (by walk_at "put") fun H1 L => ?_
    refine NewK.of L fun p2 H1 L => ?_
    refine RptK.of L (by walk_at "mem") (by omega) fun dl H1 L => ?_
    refine StK.of L (by walk_at "mem") m.C_Walk m.x_Walk_done (fs' := [("cells", .ref cl), ("places", .ref pl), ("done", .ref dl)]) (by walk_at "fs") (by walk_at "put") fun H1 L => ?_
    refine NewK.of L fun p3 H1 L => ?_
    refine RptK.of L (by walk_at "mem") (by omega) fun nl H1 L => ?_
    refine StK.of L (by walk_at "mem") m.C_Walk m.x_Walk_names (fs' := [("cells", .ref cl), ("places", .ref pl), ("done", .ref dl), ("names", .ref nl)]) (by walk_at "fs") (by walk_at "put") fun H1 L => ?_
    refine NewK.of L fun sl H1 L => ?_
    refine StK.of L (by walk_at "mem") m.C_Walk m.x_Walk_steps (fs' := [("cells", .ref cl), ("places", .ref pl), ("done", .ref dl), ("names", .ref nl), ("steps", .ref sl)]) (by walk_at "fs") (by walk_at "put") fun H1 L => ?_
    refine NewK.of L fun rl H1 L => ?_
    refine StK.of L (by walk_at "mem") m.C_Walk m.x_Walk_reports (fs' := [("cells", .ref cl), ("places", .ref pl), ("done", .ref dl), ("names", .ref nl), ("steps", .ref sl), ("reports", .ref rl)]) (by walk_at "fs") (by walk_at "put") fun H1 L => ?_
    obtain ⟨B2, s2, ht, L⟩ := L.sinkM (p := t) (o := .tup [.int 0, .int 0]) (by walk_at "pick")
    refine q B2 H1 ⟨p0, dx, cl, pl, dl, nl, sl, rl⟩ s2 rfl ⟨Gs.init_wf n, List.replicate n (.ref t), [], [], ⟨?_, Tups.nil _, List.nodup_nil, fun c _ => ⟨rfl, rfl⟩, Nat.le_refl _, fun c hc => ?_, Nat.le_refl _, ?_⟩⟩
    · show Tups B2 _ ((List.replicate n ((0, 0) : Cell)).map cellV)
      rw [List.map_replicate]
      exact Tups.rep ht n
    · rw [List.eq_of_mem_replicate (show c ∈ List.replicate n ((0, 0) : Cell) from hc)]
      exact Nat.le_refl _
    · unfold walkL walkO
      rw [names_init, show nv (Gs.init n).dn = _ from nv_rep n]
      exact L.sel (by walk_at "sel")
/-! cut Splitter_perform -/
def sp_Splitter_perform (K : PySem.W.Frag) (d : Ad) : Sp := fun vs H Q _ => ∃ (B : Hp) (l : List (Addr × HO)) (s dx : Addr) (x : Option Nat) (y : Bool) (p k : Nat), vs = [.ref s, .int p, .int k] ∧ Led B H l ∧ (s, HO.ins d.c_Splitter dx [("writer", wV x), ("closed", .bl y)]) ∈ l ∧ k ≤ 3 ∧
  ∀ H', Led B H' (putL l s (.ins d.c_Splitter dx [("writer", wV (if k = 0 then some p else x)), ("closed", .bl (if k = 2 then true else y))])) →
    Q (if k = 1 ∧ y = true then .str "right" else if k = 3 then (if x = some p then .str "stop" else .str "down") else .non) H'
theorem ok_Splitter_perform (m : Mo K mg d) (sm : SM bs) : FnOk P w K mg bs CX0 1 d.a_Splitter_perform d.fd_Splitter_perform ["self", "process", "done"] (sp_Splitter_perform K d) := by
  refine m.F_Splitter_perform.ok (k := 0) sc_Splitter_perform (fun vs H Q E h => ?_) (fun cdv A fr s H vs Q E hr h => ?_)
  · obtain ⟨B, l, s0, dx, x, y, p, k, rfl, L, hm, hk3, q⟩ := h
    rfl
  · obtain ⟨B, l, s0, dx, x, y, p, k, rfl, L, hm, hk3, q⟩ := h
    refine ⟨_, (pss_cons (ps_if (pt_cmpR op_eq (pv 2) pe_int (nomark _))
      (pss_one (ps_fld (pv 0) (pv 1) rfl))
      (pss_one (ps_if (pt_cmpR op_eq (pv 2) pe_int (nomark _))
      (pss_one (ps_if (pt_val (pe_fld (pv 0) rfl))
      (pss_one (ps_ret pe_str))
      pss_nil))
      (pss_one (ps_if (pt_cmpR op_eq (pv 2) pe_int (nomark _))
      (pss_one (ps_fld (pv 0) pe_bl rfl))
      (pss_one (ps_if (pt_cmpR op_eq (pe_fld (pv 0) rfl) (pv 1) (nomark _))
      (pss_one (ps_ret pe_str))
      (pss_one (ps_ret pe_str)))))))))
      (pss_one (ps_ret pe_non))), ?_⟩
    walk_at "vc"
    have same := putL_same L.nd hm
    have wn : ∀ {P Q : Prop}, (if wV x = .int (p : Int) then P else Q) ↔ (if x = some p then P else Q) := by
      intro P Q
      have : (wV x = .int (p : Int)) ↔ x = some p := by
        cases x with
        | none => simp [wV]
        | some z => simp only [wV, V.int.injEq, Option.some.injEq]; omega
      simp only [this]
    have sw : scal (wV x) (.int (p : Int)) = true := by cases x <;> rfl
    obtain rfl | rfl | rfl | rfl : k = 0 ∨ k = 1 ∨ k = 2 ∨ k = 3 := by omega
    · walk_at "ifs"
      refine StK.ofM L hm m.C_Splitter m.x_Splitter_writer (fs' := [("writer", .int p), ("closed", .bl y)]) (by walk_at "fs") fun H1 L => ?_
      exact q _ L
    · walk_at "ifs"
      refine FldK.of L hm m.C_Splitter m.x_Splitter_closed (v := .bl y) (by walk_at "fs") ?_
      walk_at "vc"
      rw [if_neg (by decide), if_neg (by decide), same] at q
      cases y with
      | true => exact q _ L
      | false => exact q _ L
    · walk_at "ifs"
      refine StK.ofM L hm m.C_Splitter m.x_Splitter_closed (fs' := [("writer", wV x), ("closed", .bl true)]) (by walk_at "fs") fun H1 L => ?_
      exact q _ L
    · walk_at "ifs"
      refine FldK.of L hm m.C_Splitter m.x_Splitter_writer (v := wV x) (by walk_at "fs") ?_
      refine ⟨sw, ?_⟩
      rw [if_neg (by decide), if_neg (by decide), same] at q
      rw [wn]
      split
      · rename_i c
        simp only [c] at q
        exact q _ L
      · rename_i c
        rw [if_neg (by omega), if_pos rfl, if_neg c] at q
        exact q _ L
/-! cut check_coordinate -/
def sp_check_coordinate (K : PySem.W.Frag) : Sp := fun vs H Q _ => ∃ t : Int, vs = [.int t] ∧ 0 ≤ t ∧ t ≤ 10 ^ 15 ∧ Q .non H
theorem ok_check_coordinate (m : Mo K mg d) (sm : SM bs) (G_is_integer_within : FnOk P w K mg bs CX0 2 d.a_is_integer_within d.fd_is_integer_within ["value", "least", "greatest"] (sp_is_integer_within K)) : FnOk P w K mg bs CX0 3 d.a_check_coordinate d.fd_check_coordinate ["value"] (sp_check_coordinate K) := by
  obtain ⟨t_GREATEST_COORDINATE, h_GREATEST_COORDINATE⟩ := m.mg_GREATEST_COORDINATE
  refine m.F_check_coordinate.ok (k := 2) sc_check_coordinate (fun vs H Q E h => ?_) (fun cdv A fr s H vs Q E hr h => ?_)
  · obtain ⟨t, rfl, h0, h1, q⟩ := h
    rfl
  · obtain ⟨t, rfl, h0, h1, q⟩ := h
    refine ⟨_, (pss_one (ps_if (pt_not (pt_val (pe_call G_is_integer_within (hr.mono (by decide)) (by rfl) m.g_is_integer_within m.F_is_integer_within.kp m.b_is_integer_within .nil pass0 (pa_cons (pv 0) (pa_cons pe_int (pa_cons (pe_glob (v := .int (1000000000000000)) rfl h_GREATEST_COORDINATE ⟨_, rfl⟩) pa_nil))))))
      (pss_one ps_never)
      pss_nil)), ?_⟩
    walk_at "vc"
    refine ⟨_, _, _, rfl, ?_⟩
    walk_at "vc"
    rw [decide_eq_true h0, decide_eq_true (show t ≤ 1000000000000000 from h1)]
    walk_at "vc"
    exact q
/-! cut cells_before -/
def sp_cells_before (K : PySem.W.Frag) : Sp := fun vs H Q _ => ∃ t : Int, vs = [.int t] ∧ 0 ≤ t ∧ t < 2 ^ 60 ∧ Q (.int (t * (t + 1) / 2)) H
theorem ok_cells_before (m : Mo K mg d) (sm : SM bs) : FnOk P w K mg bs CX0 1 d.a_cells_before d.fd_cells_before ["diagonal"] (sp_cells_before K) := by
  refine m.F_cells_before.ok (k := 0) sc_cells_before (fun vs H Q E h => ?_) (fun cdv A fr s H vs Q E hr h => ?_)
  · obtain ⟨t, rfl, h0, h1, q⟩ := h
    rfl
  · obtain ⟨t, rfl, h0, h1, q⟩ := h
    refine ⟨_, (pss_one (ps_ret (pe_op op_fdiv (pe_op op_mul (pv 0) (pe_op op_add (pv 0) pe_int)) pe_int))), ?_⟩
    walk_at "vc"
    exact ⟨by walk_at "sd", by walk_at "sd", q⟩
/-! cut name_of -/
def sp_name_of (K : PySem.W.Frag) : Sp := fun vs H Q _ => ∃ r d : Int, vs = [.int r, .int d] ∧ 0 ≤ r ∧ r ≤ 10 ^ 15 ∧ 0 ≤ d ∧ d ≤ 10 ^ 15 ∧ Q (.int ((r + d) * (r + d + 1) / 2 + r)) H
theorem ok_name_of (m : Mo K mg d) (sm : SM bs) (G_check_coordinate : FnOk P w K mg bs CX0 3 d.a_check_coordinate d.fd_check_coordinate ["value"] (sp_check_coordinate K)) (G_cells_before : FnOk P w K mg bs CX0 1 d.a_cells_before d.fd_cells_before ["diagonal"] (sp_cells_before K)) : FnOk P w K mg bs CX0 4 d.a_name_of d.fd_name_of ["right", "down"] (sp_name_of K) := by
  refine m.F_name_of.ok (k := 3) sc_name_of (fun vs H Q E h => ?_) (fun cdv A fr s H vs Q E hr h => ?_)
  · obtain ⟨r, d', rfl, h0, h1, h2, h3, q⟩ := h
    rfl
  · obtain ⟨r, d', rfl, h0, h1, h2, h3, q⟩ := h
    refine ⟨_, (pss_cons (ps_expr (pe_call G_check_coordinate (hr.mono (by decide)) (by rfl) m.g_check_coordinate m.F_check_coordinate.kp m.b_check_coordinate .nil pass0 (pa_cons (pv 0) pa_nil)))
      (pss_cons (ps_expr (pe_call G_check_coordinate (hr.mono (by decide)) (by rfl) m.g_check_coordinate m.F_check_coordinate.kp m.b_check_coordinate .nil pass0 (pa_cons (pv 1) pa_nil)))
      (pss_one (ps_ret (pe_op op_add (pe_call G_cells_before (hr.mono (by decide)) (by rfl) m.g_cells_before m.F_cells_before.kp m.b_cells_before .nil pass0 (pa_cons (pe_op op_add (pv 0) (pv 1)) pa_nil)) (pv 0)))))), ?_⟩
    walk_at "vc"
    refine ⟨_, rfl, h0, h1, ?_⟩
    walk_at "vc"
    refine ⟨_, rfl, h2, h3, ?_⟩
    walk_at "vc"
    refine ⟨_, rfl, by omega, by omega, ?_⟩
    walk_at "vc"
    exact q
/-! cut Walk__end_in_cell -/
def sp_Walk__end_in_cell (K : PySem.W.Frag) (d : Ad) : Sp := fun vs H Q _ => ∃ (B : Hp) (W : Wad) (g : Gs) (n m b p : Nat) (xs : List V) (cs : List (Cell × Addr × Addr)) (sch : List Nat) (rp : List V) (evs : List (List V)) (l : List (Addr × HO)) (r : Str),
  vs = [.ref W.w, .int p, .str r] ∧ WalkC d B H W g n xs cs sch rp evs m b l ∧ g.Ln n ∧ g.Ok p ∧ b ≤ 1000000 ∧ p < n ∧
  (r = "stop" → ∀ H', WalkC d B H' W { g with fin := g.fin.set p true } n xs cs sch rp evs m b l → Q (.int (nmC (g.at p))) H') ∧
  (r ≠ "stop" → ∀ B' H' xs', Same B B' → let c := if r = "right" then ((g.at p).1 + 1, (g.at p).2) else ((g.at p).1, (g.at p).2 + 1)
    WalkC d B' H' W { g with pos := g.pos.set p c, dn := g.dn.set p 0 } n xs' cs sch rp evs m (b + 1) l → Q (.int (nmC c)) H')
theorem ok_Walk__end_in_cell (m : Mo K mg d) (sm : SM bs) (G_name_of : FnOk P w K mg bs CX0 4 d.a_name_of d.fd_name_of ["right", "down"] (sp_name_of K)) : FnOk P w K mg bs CX0 5 d.a_Walk__end_in_cell d.fd_Walk__end_in_cell ["self", "process", "result"] (sp_Walk__end_in_cell K d) := by
  refine m.F_Walk__end_in_cell.ok (k := 4) sc_Walk__end_in_cell (fun vs H Q E h => ?_) (fun cdv A fr s H vs Q E hr h => ?_)
  · obtain ⟨B, W, g, n, m0, M, p, xs, cs, sch, rp, evs, l, r, rfl, C, wf, ok, hm, hp, q1, q2⟩ := h
    rfl
  · obtain ⟨B, W, g, n, m0, M, p, xs, cs, sch, rp, evs, l, r, rfl, C, wf, ok, hm, hp, q1, q2⟩ := h
    refine ⟨_, (pss_cons (ps_asg (pe_ix ix_list (pe_fld (pv 0) rfl) (pv 1) (fun _ _ => rfl)) (show PG _ _ (gTup K 2 _) from pg_tup (by rfl) (pgs_cons (pg_name (i := 3) sc_Walk__end_in_cell.nd rfl (.inl rfl)) (pgs_cons (pg_name (i := 4) sc_Walk__end_in_cell.nd rfl (.inl rfl)) pgs_nil))))
      (pss_cons (ps_if (pt_cmpR op_eq (pv 2) pe_str (nomark _))
      (pss_cons (ps_asg (pe_call G_name_of (hr.mono (by decide)) (by rfl) m.g_name_of m.F_name_of.kp m.b_name_of .nil pass0 (pa_cons (pv 3) (pa_cons (pv 4) pa_nil))) (pg_sub (pe_fld (pv 0) rfl) (pv 1) set_list))
      (pss_one (ps_ret (pe_ix ix_list (pe_fld (pv 0) rfl) (pv 1) (fun _ _ => rfl)))))
      pss_nil)
      (pss_cons (ps_if (pt_cmpR op_eq (pv 2) pe_str (nomark _))
      (pss_one (ps_aug (i := 3) sc_Walk__end_in_cell.nd rfl (.inl rfl) pe_int ip_add))
      (pss_one (ps_aug (i := 4) sc_Walk__end_in_cell.nd rfl (.inl rfl) pe_int ip_add)))
      (pss_cons (ps_asg (pe_tup (pa_cons (pv 3) (pa_cons (pv 4) pa_nil))) (pg_sub (pe_fld (pv 0) rfl) (pv 1) set_list))
      (pss_cons (ps_asg pe_int (pg_sub (pe_fld (pv 0) rfl) (pv 1) set_list))
      (pss_one (ps_ret (pe_call G_name_of (hr.mono (by decide)) (by rfl) m.g_name_of m.F_name_of.kp m.b_name_of .nil pass0 (pa_cons (pv 3) (pa_cons (pv 4) pa_nil)))))))))), ?_⟩
    have L := C.led
    unfold walkL walkO at L
    obtain ⟨t, hx, ht⟩ := C.sp.spot wf hp
    have hg := Gs.at_get wf hp
    have hb0 := C.bd _ (List.mem_of_getElem? hg)
    have hbd := nm_bd hb0 hm
    walk_at "vc"
    refine FldK.of L (by walk_at "mem") m.C_Walk m.x_Walk_places (v := .ref W.pl) (by walk_at "fs") ?_
    walk_at "vc"
    refine IxLK.of (L.lstAt (by walk_at "mem")) (atI_nat' hx) ?_
    walk_at "vc"
    refine UnpK.of (.inl (.inl (L.sm _ _ ht))) rfl ?_
    unfold cellV
    walk_at "vc"
    by_cases hr : r = Str.ofString "stop"
    · rw [if_pos hr]
      refine ⟨_, _, rfl, hbd.1, hbd.2.1, hbd.2.2.1, hbd.2.2.2, ?_⟩
      have hl := Gs.names_len wf
      refine FldK.of L (by walk_at "mem") m.C_Walk m.x_Walk_names (v := .ref W.nl) (by walk_at "fs") ?_
      walk_at "vc"
      refine SetK.of L (by walk_at "mem") (ixN_nat (by rw [hl]; exact hp)) (by walk_at "put") fun H1 L => ?_
      refine FldK.of L (by walk_at "mem") m.C_Walk m.x_Walk_names (v := .ref W.nl) (by walk_at "fs") ?_
      walk_at "vc"
      refine IxLK.of (L.lstAt (by walk_at "mem")) (atI_nat' (List.getElem?_set_self (by rw [hl]; exact hp))) ?_
      refine q1 hr H1 ⟨C.sp, C.rt, C.nd, C.fr, C.ln, C.bd, C.rn, ?_⟩
      have e : Gs.names { g with fin := g.fin.set p true } = g.names.set p (.int (nmC (g.at p))) := names_stop hg (by rw [wf.lf]; exact hp)
      unfold walkL walkO
      rw [e]
      exact L
    · rw [if_neg hr]
      have fin : ∀ (c : Cell) (B2 H1 : Hp) (xs' : List V), c = (if r = Str.ofString "right" then ((g.at p).1 + 1, (g.at p).2) else ((g.at p).1, (g.at p).2 + 1)) → Same B B2 → Tups B2 xs' ((g.pos.set p c).map cellV) →
          Led B2 H1 ((W.dl, HO.lst (nv (g.dn.set p 0))) :: (W.pl, .lst xs') :: (walkO d W) :: (W.cl, .dT (csK cs)) :: (W.nl, .lst g.names) :: (W.sl, .lst (nv sch)) :: (W.rl, .lst rp) :: (cs.map (splE d g) ++ l)) → Q (.int (nmC c)) H1 := by
        intro c B2 H1 xs' hc s2 ht2 L
        have := q2 hr B2 H1 xs' s2
        dsimp only at this
        rw [← hc] at this
        have hcm : c.1 + c.2 ≤ M + 1 := by
          have := C.bd _ (List.mem_of_getElem? hg)
          rw [hc]
          split <;> (dsimp only; omega)
        refine this ⟨ht2, C.rt.mono s2, C.nd, C.fr, C.ln, fun c' hc' => ?_, C.rn, ?_⟩
        · rcases List.mem_or_eq_of_mem_set hc' with z | z
          · have := C.bd _ z; omega
          · rw [z]; exact hcm
        · unfold walkL
          rw [show Gs.names { g with pos := g.pos.set p c, dn := g.dn.set p 0 } = g.names from names_move ok]
          exact L.sel (.cons (.tl (.tl .hd)) (.cons (.tl (.tl .hd)) (.cons (.tl .hd) (.cons .hd .all))))
      by_cases hr2 : r = Str.ofString "right"
      · rw [if_pos hr2]
        rw [if_pos hr2] at fin
        refine NewK.of L fun t2 H1 L => ?_
        obtain ⟨B2, s2, ht2, L⟩ := L.sink
        refine FldK.of L (by walk_at "mem") m.C_Walk m.x_Walk_places (v := .ref W.pl) (by walk_at "fs") ?_
        walk_at "vc"
        refine SetK.of L (by walk_at "mem") (ixN_nat (List.getElem?_eq_some_iff.mp hx).1) (by walk_at "put") fun H2 L => ?_
        refine FldK.of L (by walk_at "mem") m.C_Walk m.x_Walk_done (v := .ref W.dl) (by walk_at "fs") ?_
        walk_at "vc"
        refine SetK.of L (by walk_at "mem") (ixN_nat (by rw [nv_len, wf.ld]; exact hp)) (by walk_at "put") fun H3 L => ?_
        rw [show (nv g.dn).set p (V.int 0) = nv (g.dn.set p 0) from nv_set _ _ 0] at L
        refine ⟨_, _, rfl, by omega, by omega, hbd.2.2.1, hbd.2.2.2, ?_⟩
        refine fin _ B2 H3 _ rfl s2 ?_ (L.sel (by unfold walkO; walk_at "sel"))
        rw [List.map_set]
        exact (C.sp.mono s2).set p ht2
      · rw [if_neg hr2]
        rw [if_neg hr2] at fin
        refine NewK.of L fun t2 H1 L => ?_
        obtain ⟨B2, s2, ht2, L⟩ := L.sink
        refine FldK.of L (by walk_at "mem") m.C_Walk m.x_Walk_places (v := .ref W.pl) (by walk_at "fs") ?_
        walk_at "vc"
        refine SetK.of L (by walk_at "mem") (ixN_nat (List.getElem?_eq_some_iff.mp hx).1) (by walk_at "put") fun H2 L => ?_
        refine FldK.of L (by walk_at "mem") m.C_Walk m.x_Walk_done (v := .ref W.dl) (by walk_at "fs") ?_
        walk_at "vc"
        refine SetK.of L (by walk_at "mem") (ixN_nat (by rw [nv_len, wf.ld]; exact hp)) (by walk_at "put") fun H3 L => ?_
        rw [show (nv g.dn).set p (V.int 0) = nv (g.dn.set p 0) from nv_set _ _ 0] at L
        refine ⟨_, _, rfl, hbd.1, hbd.2.1, by omega, by omega, ?_⟩
        refine fin _ B2 H3 _ rfl s2 ?_ (L.sel (by unfold walkO; walk_at "sel"))
        rw [List.map_set]
        exact (C.sp.mono s2).set p ht2
/-! cut Splitter___init__ -/
def sp_Splitter___init__ (K : PySem.W.Frag) (d : Ad) : Sp := fun vs H Q _ => ∃ (B : Hp) (s dxs : Addr) (l : List (Addr × HO)), vs = [.ref s] ∧ Led B H ((s, .ins d.c_Splitter dxs []) :: l) ∧ ∀ H', Led B H' ((s, .ins d.c_Splitter dxs [("writer", .non), ("closed", .bl false)]) :: l) → Q .non H'
theorem ok_Splitter___init__ (m : Mo K mg d) (sm : SM bs) : FnOk P w K mg bs CX0 1 d.a_Splitter___init__ d.fd_Splitter___init__ ["self"] (sp_Splitter___init__ K d) := by
  refine m.F_Splitter___init__.ok (k := 0) sc_Splitter___init__ (fun vs H Q E h => ?_) (fun cdv A fr s H vs Q E hr h => ?_)
  · obtain ⟨B, s0, dxs, l, rfl, L, q⟩ := h
    rfl
  · obtain ⟨B, s0, dxs, l, rfl, L, q⟩ := h
    refine ⟨_, (pss_cons (ps_fld (pv 0) pe_non rfl)
      (pss_one (ps_fld (pv 0) pe_bl rfl))), ?_⟩
    walk_at "vc"
    refine StK.of L (by walk_at "mem") m.C_Splitter m.x_Splitter_writer (fs' := [("writer", .non)]) (by walk_at "fs") (by walk_at "put") fun H1 L => ?_
    refine StK.of L (by walk_at "mem") m.C_Splitter m.x_Splitter_closed (fs' := [("writer", .non), ("closed", .bl false)]) (by walk_at "fs") (by walk_at "put") fun H1 L => ?_
    exact q _ L
/-! cut Walk__splitter_at -/
def sp_Walk__splitter_at (K : PySem.W.Frag) (d : Ad) : Sp := fun vs H Q _ => ∃ (B : Hp) (W : Wad) (g : Gs) (n m b : Nat) (xs : List V) (cs : List (Cell × Addr × Addr)) (sch : List Nat) (rp : List V) (evs : List (List V)) (l : List (Addr × HO)) (t : Addr) (c : Cell),
  vs = [.ref W.w, .ref t] ∧ WalkC d B H W g n xs cs sch rp evs m b l ∧ B t = some (.tup (cellV c)) ∧ m ≤ 1000000 ∧ ∀ H' s dx cs', WalkC d B H' W g n xs cs' sch rp evs (m + 1) b l → (c, s, dx) ∈ cs' → Q (.ref s) H'
theorem ok_Walk__splitter_at (m : Mo K mg d) (sm : SM bs) (G_Splitter___init__ : FnOk P w K mg bs CX0 1 d.a_Splitter___init__ d.fd_Splitter___init__ ["self"] (sp_Splitter___init__ K d)) : FnOk P w K mg bs CX0 3 d.a_Walk__splitter_at d.fd_Walk__splitter_at ["self", "place"] (sp_Walk__splitter_at K d) := by
  refine m.F_Walk__splitter_at.ok (k := 2) sc_Walk__splitter_at (fun vs H Q E h => ?_) (fun cdv A fr s H vs Q E hr h => ?_)
  · obtain ⟨B, W, g, n, M, bb, xs, cs, sch, rp, evs, l, t, c, rfl, C, ht, hm, q⟩ := h
    rfl
  · obtain ⟨B, W, g, n, M, bb, xs, cs, sch, rp, evs, l, t, c, rfl, C, ht, hm, q⟩ := h
    refine ⟨_, (pss_cons (ps_if (pt_cmp (pc_dnotin (Nat.lt_of_le_of_lt (Nat.add_le_add_left (by decide) _) hr.units) (pv 1) (pe_fld (pv 0) rfl)))
      (pss_one (ps_dput (Nat.lt_of_le_of_lt (Nat.add_le_add_left (by decide) _) hr.units) (pe_fld (pv 0) rfl) (pv 1) (pe_make0 m.K_Splitter G_Splitter___init__ (hr.mono (by decide)) (by rfl) m.g_Splitter m.b_Splitter___init__ .nil pass0) rfl))
      pss_nil)
      (pss_one (ps_ret (pe_dget (Nat.lt_of_le_of_lt (Nat.add_le_add_left (by decide) _) hr.units) (pe_fld (pv 0) rfl) (pv 1) (fun _ _ => rfl))))), ?_⟩
    have L := C.led
    unfold walkL walkO at L
    walk_at "vc"
    refine FldK.of L (by walk_at "mem") m.C_Walk m.x_Walk_cells (v := .ref W.cl) (by walk_at "fs") ?_
    walk_at "vc"
    refine KinK.t (k := keyC c) L (by walk_at "mem") (L.sm _ _ ht) ?_
    rcases csK_look c cs with ⟨s, dx, h1, h2⟩ | ⟨h1, h2⟩
    · rw [h2]
      walk_at "vc"
      refine FldK.of L (by walk_at "mem") m.C_Walk m.x_Walk_cells (v := .ref W.cl) (by walk_at "fs") ?_
      walk_at "vc"
      refine DGetK.t (k := keyC c) L (by walk_at "mem") (L.sm _ _ ht) h2 ?_
      exact q _ s dx cs ⟨C.sp, C.rt, C.nd, C.fr, by have := C.ln; omega, C.bd, by have := C.rn; omega, C.led⟩ h1
    · rw [h2]
      walk_at "vc"
      refine MkK.of L fun s dx H1 L => ?_
      refine ⟨B, s, dx, _, rfl, L, fun H2 L => ⟨rfl, ?_⟩⟩
      refine FldK.of L (by walk_at "mem") m.C_Walk m.x_Walk_cells (v := .ref W.cl) (by walk_at "fs") ?_
      walk_at "vc"
      refine DPutK.t (k := keyC c) L (by walk_at "mem") (L.sm _ _ ht) (Nat.lt_of_le_of_lt (m := 1000000) (by unfold csK; rw [List.length_map]; have := C.ln; omega) (by decide)) (by walk_at "put") fun H3 L => ?_
      refine FldK.of L (by walk_at "mem") m.C_Walk m.x_Walk_cells (v := .ref W.cl) (by walk_at "fs") ?_
      walk_at "vc"
      have e : putK (csK cs) (keyC c) (V.ref s) = csK (cs ++ [(c, s, dx)]) := by
        rw [putK_new _ h2]
        unfold csK
        rw [List.map_append]
        rfl
      rw [e] at L
      have e2 : valV (csK (cs ++ [(c, s, dx)])) (keyC c) = some (.ref s) := by
        rw [← e, valV_put, if_pos rfl]
      refine DGetK.t (k := keyC c) L (by walk_at "mem") (L.sm _ _ ht) e2 ?_
      obtain ⟨f1, f2⟩ := C.fr c h1
      refine q _ s dx (cs ++ [(c, s, dx)]) ⟨C.sp, C.rt, ?_, fun c2 hc => C.fr c2 fun z => hc (by rw [List.map_append]; exact List.mem_append_left _ z), by rw [List.length_append]; have := C.ln; simp only [List.length_cons, List.length_nil]; omega, C.bd, by have := C.rn; omega, ?_⟩ (List.mem_append_right _ List.mem_cons_self)
      · rw [List.map_append]
        refine List.nodup_append.mpr ⟨C.nd, List.nodup_cons.mpr ⟨List.not_mem_nil, List.nodup_nil⟩, fun a ha b hb z => h1 ?_⟩
        rw [List.mem_singleton.mp hb] at z
        exact (show a = c from z) ▸ ha
      · unfold walkL walkO
        rw [List.map_append]
        have e3 : splE d g (c, s, dx) = (s, .ins d.c_Splitter dx [("writer", .non), ("closed", .bl false)]) := by unfold splE; rw [f1, f2]; rfl
        show Led B H3 (_ :: _ :: _ :: _ :: _ :: _ :: _ :: (List.map (splE d g) cs ++ [splE d g (c, s, dx)] ++ l))
        rw [e3, List.append_assoc]
        exact L.perm (List.perm_middle (l₁ := _ :: _ :: _ :: _ :: _ :: _ :: _ :: List.map (splE d g) cs)).symm
/-! cut Walk_step -/
theorem spl_mem {d : Ad} {W : Wad} {g : Gs} {xs : List V} {cs : List (Cell × Addr × Addr)} {sch : List Nat} {rp : List V} {l : List (Addr × HO)} {e : Cell × Addr × Addr} (h : e ∈ cs) : splE d g e ∈ walkL d W g xs cs sch rp l := by
  unfold walkL
  exact .tail _ (.tail _ (.tail _ (.tail _ (.tail _ (.tail _ (.tail _ (List.mem_append_left _ (List.mem_map_of_mem h))))))))
theorem put_walk {d : Ad} {B H : Hp} {W : Wad} {g g' : Gs} {xs : List V} {cs : List (Cell × Addr × Addr)} {sch : List Nat} {rp : List V} {l : List (Addr × HO)} {c : Cell} {s dx : Addr} (L : Led B H (walkL d W g xs cs sch rp l)) (nd : (cs.map (·.1)).Nodup) (h : (c, s, dx) ∈ cs)
    (hc : ∀ c', c' ≠ c → g'.x c' = g.x c' ∧ g'.y c' = g.y c') (h1 : g'.dn = g.dn) (h2 : g'.names = g.names) : putL (walkL d W g xs cs sch rp l) s (splE d g' (c, s, dx)).2 = walkL d W g' xs cs sch rp l := by
  have LL : Led B H ((walkO d W :: (W.cl, .dT (csK cs)) :: (W.pl, .lst xs) :: (W.dl, .lst (nv g.dn)) :: (W.nl, .lst g.names) :: (W.sl, .lst (nv sch)) :: (W.rl, .lst rp) :: []) ++ (cs.map (splE d g) ++ l)) := L
  obtain ⟨n1, n2⟩ := Led.nd_mid LL
  have hs := n2 _ (List.mem_map_of_mem (f := splE d g) h)
  show putL ((walkO d W :: (W.cl, .dT (csK cs)) :: (W.pl, .lst xs) :: (W.dl, .lst (nv g.dn)) :: (W.nl, .lst g.names) :: (W.sl, .lst (nv sch)) :: (W.rl, .lst rp) :: []) ++ (cs.map (splE d g) ++ l)) s _ = _
  rw [putL_app, putL_app, putL_not (show s ∉ _ from hs.1), putL_not (show s ∉ l.map (·.1) from hs.2), put_spl nd n1 h hc]
  unfold walkL
  rw [h1, h2]
  rfl
def rsV : Rs → V
  | .non => .non
  | .right _ => .str "right"
  | .down _ => .str "down"
  | .stop _ => .str "stop"
theorem res_facts {g : Gs} {p : Nat} {r : Rs} (h : g.res p = r) : match r with
    | .non => True
    | .right c => g.dnAt p = 1 ∧ c = ((g.at p).1 + 1, (g.at p).2) ∧ True
    | .down c => g.dnAt p = 3 ∧ c = ((g.at p).1, (g.at p).2 + 1) ∧ True
    | .stop c => g.dnAt p = 3 ∧ c = g.at p ∧ True := by
  unfold Gs.res at h
  split at h
  · rename_i c; subst h; exact ⟨c.1, rfl, trivial⟩
  · split at h
    · rename_i c
      split at h
      · subst h; exact ⟨c, rfl, trivial⟩
      · subst h; exact ⟨c, rfl, trivial⟩
    · subst h; trivial
theorem Gs.Ln.dnset {g : Gs} {n : Nat} (wf : g.Ln n) (p k : Nat) : Gs.Ln { g with dn := g.dn.set p k } n := ⟨wf.lp, by show (g.dn.set p k).length = n; rw [List.length_set]; exact wf.ld, wf.lf⟩
theorem res_V (g : Gs) (p : Nat) : (if g.dnAt p = 1 ∧ g.y (g.at p) = true then V.str "right" else if g.dnAt p = 3 then (if g.x (g.at p) = some p then V.str "stop" else .str "down") else .non) = rsV (g.res p) := by
  unfold Gs.res
  split
  · rfl
  · split
    · split <;> rfl
    · rfl
def sp_Walk_step (K : PySem.W.Frag) (d : Ad) : Sp := fun vs H Q _ => ∃ (B : Hp) (W : Wad) (g : Gs) (n p : Nat) (sch : List Nat) (evs : List (List V)) (l : List (Addr × HO)), vs = [.ref W.w, .int p] ∧ WalkR d B H W g n sch evs l ∧ g.Ok p ∧ sch.length < 1000000 ∧
  ∀ B' H' v, Same B B' → WalkR d B' H' W (g.step p) n (sch ++ [p]) (evs ++ evT p (resT (g.res p))) l → RV B' v (resT (g.res p)) → Q v H'
theorem ok_Walk_step (m : Mo K mg d) (sm : SM bs) (G_Splitter_perform : FnOk P w K mg bs CX0 1 d.a_Splitter_perform d.fd_Splitter_perform ["self", "process", "done"] (sp_Splitter_perform K d)) (G_Walk__end_in_cell : FnOk P w K mg bs CX0 5 d.a_Walk__end_in_cell d.fd_Walk__end_in_cell ["self", "process", "result"] (sp_Walk__end_in_cell K d)) (G_Walk__splitter_at : FnOk P w K mg bs CX0 3 d.a_Walk__splitter_at d.fd_Walk__splitter_at ["self", "place"] (sp_Walk__splitter_at K d)) : FnOk P w K mg bs CX0 6 d.a_Walk_step d.fd_Walk_step ["self", "process"] (sp_Walk_step K d) := by
  refine m.F_Walk_step.ok (k := 5) sc_Walk_step (fun vs H Q E h => ?_) (fun cdv A fr s H vs Q E hr h => ?_)
  · obtain ⟨B, W, g, n, p, sch, evs, l, rfl, ⟨wf, xs, cs, rp, C⟩, ok, hm, q⟩ := h
    rfl
  · obtain ⟨B, W, g, n, p, sch, evs, l, rfl, ⟨wf, xs, cs, rp, C⟩, ok, hm, q⟩ := h
    refine ⟨_, (pss_cons (ps_asg (pe_meth (pe_meth (pv 0) m.C_Walk m.M_Walk__splitter_at G_Walk__splitter_at (hr.mono (by decide)) m.b_Walk__splitter_at .nil pass0 (pa_cons (pe_ix ix_list (pe_fld (pv 0) rfl) (pv 1) (fun _ _ => rfl)) pa_nil)) m.C_Splitter m.M_Splitter_perform G_Splitter_perform (hr.mono (by decide)) m.b_Splitter_perform .nil pass0 (pa_cons (pv 1) (pa_cons (pe_ix ix_list (pe_fld (pv 0) rfl) (pv 1) (fun _ _ => rfl)) pa_nil))) (pg_name (i := 2) sc_Walk_step.nd rfl (.inl rfl)))
      (pss_cons (ps_expr (pe_bm PySem.F.plainAttrs_list PySem.F.slot_list_append PySem.F.type_list_append mt_append (pe_fld (pv 0) rfl) (pa_cons (pv 1) pa_nil)))
      (pss_cons (ps_augS (pe_fld (pv 0) rfl) (pv 1) pget_list pe_int ip_add set_list)
      (pss_cons (ps_if (pt_cmpR op_isN (pv 2) pe_non (nomark _))
      (pss_one (ps_ret pe_non))
      pss_nil)
      (pss_cons (ps_asg (pe_meth (pv 0) m.C_Walk m.M_Walk__end_in_cell G_Walk__end_in_cell (hr.mono (by decide)) m.b_Walk__end_in_cell .nil pass0 (pa_cons (pv 1) (pa_cons (pv 2) pa_nil))) (pg_name (i := 3) sc_Walk_step.nd rfl (.inl rfl)))
      (pss_cons (ps_expr (pe_bm PySem.F.plainAttrs_list PySem.F.slot_list_append PySem.F.type_list_append mt_append (pe_fld (pv 0) rfl) (pa_cons (pe_tup (pa_cons (pv 1) (pa_cons (pv 2) (pa_cons (pv 3) pa_nil)))) pa_nil)))
      (pss_one (ps_ret (pe_tup (pa_cons (pv 2) (pa_cons (pv 3) pa_nil))))))))))), ?_⟩
    have hp := ok.lt wf
    have L := C.led
    have hrn := C.rn
    unfold walkL walkO at L
    obtain ⟨t, hx, ht⟩ := C.sp.spot wf.toLn hp
    have hg := Gs.at_get wf.toLn hp
    have hk := Gs.dn_get wf.toLn hp
    have hk3 := wf.d3 p ok
    walk_at "vc"
    refine MtK.of L (by walk_at "mem") (by walk_at "fs") ?_
    refine FldK.of L (by walk_at "mem") m.C_Walk m.x_Walk_places (v := .ref W.pl) (by walk_at "fs") ?_
    walk_at "vc"
    refine IxLK.of (L.lstAt (by walk_at "mem")) (atI_nat' hx) ?_
    refine ⟨B, W, g, n, sch.length, sch.length, xs, cs, sch, rp, evs, l, t, g.at p, rfl, C, ht, by omega, fun H1 s dx cs C hcs => ?_⟩
    walk_at "vc"
    have L := C.led
    refine MtK.of (C := d.c_Splitter) L (spl_mem hcs) (by walk_at "fs") ?_
    have LL := L
    unfold walkL walkO at LL
    refine FldK.of LL (by walk_at "mem") m.C_Walk m.x_Walk_done (v := .ref W.dl) (by walk_at "fs") ?_
    walk_at "vc"
    refine IxLK.of (LL.lstAt (by walk_at "mem")) (nv_atI hk) ?_
    refine ⟨B, _, s, dx, g.x (g.at p), g.y (g.at p), p, g.dnAt p, rfl, L, spl_mem hcs, hk3, fun H2 L3 => ?_⟩
    rw [res_V]
    have key := fun (g1 : Gs) (e : (if g.dnAt p = 0 then some p else g.x (g.at p)) = g1.x (g.at p)) (e2 : (if g.dnAt p = 2 then true else g.y (g.at p)) = g1.y (g.at p)) (hc : ∀ c', c' ≠ g.at p → g1.x c' = g.x c' ∧ g1.y c' = g.y c') (h1 : g1.dn = g.dn) (h2 : g1.names = g.names) =>
      (show Led B H2 (walkL d W g1 xs cs sch rp l) by rw [← put_walk L C.nd hcs hc h1 h2]; unfold splE; rw [← e, ← e2]; exact L3)
    have fr1 := fun (g1 : Gs) (hc : ∀ c', c' ≠ g.at p → g1.x c' = g.x c' ∧ g1.y c' = g.y c') => (show ∀ c, c ∉ cs.map (·.1) → g1.x c = none ∧ g1.y c = false from fun c h => by
      have ne : c ≠ g.at p := fun z => h (by rw [z]; exact List.mem_map.mpr ⟨_, hcs, rfl⟩)
      rw [(hc c ne).1, (hc c ne).2]
      exact C.fr c h)
    have hb1 : sch.length < sizeLine := Nat.lt_of_lt_of_le hm (by decide)
    have hdl : p < g.dn.length := by rw [wf.ld]; exact hp
    have wf' := wf.step ok
    have bd1 : (∀ c ∈ (g.step p).pos, c.1 + c.2 ≤ sch.length + 1) → ∀ c ∈ (g.step p).pos, c.1 + c.2 ≤ (sch ++ [p]).length := fun h c hc => by rw [List.length_append]; exact h c hc
    have ls : (sch ++ [p]).length = sch.length + 1 := by rw [List.length_append]; rfl
    have go2 := fun (g1 : Gs) (L : Led B H2 (walkL d W g1 xs cs sch rp l)) (hdn : g1.dn = g.dn) (G : Hp → Prop) (k : ∀ H4, Led B H4 (walkL d W { g1 with dn := g.dn.set p (g.dnAt p + 1) } xs cs (sch ++ [p]) rp l) → G H4) =>
      (show FldK K W.w (Str.ofString "steps") H2 fun v => tyV K "list" v H2 ∧ rAppend v [V.int ↑p] H2 fun x_1 H1 => FldK K W.w (Str.ofString "done") H1 fun v => rIxL K v (V.int ↑p) H1 fun x_2 H3 => ∃ i, x_2 = V.int i ∧ rSetL v (V.int ↑p) (V.int (i + 1)) H3 fun H6 => G H6 by
      unfold walkL walkO at L
      rw [hdn] at L
      refine FldK.of L (by walk_at "mem") m.C_Walk m.x_Walk_steps (v := .ref W.sl) (by walk_at "fs") ?_
      walk_at "vc"
      refine ⟨tyL (L.lstAt (by walk_at "mem")), AppK.of L (by walk_at "mem") (by rw [nv_len]; exact hb1) (by walk_at "put") fun H3 L => ?_⟩
      rw [← nv_app] at L
      refine FldK.of L (by walk_at "mem") m.C_Walk m.x_Walk_done (v := .ref W.dl) (by walk_at "fs") ?_
      walk_at "vc"
      refine IxLK.of (L.lstAt (by walk_at "mem")) (nv_atI hk) ?_
      walk_at "vc"
      refine SetK.of L (by walk_at "mem") (ixN_nat (by rw [nv_len]; exact hdl)) (by walk_at "put") fun H4 L => ?_
      rw [nv_put] at L
      exact k H4 L)
    cases hr : g.res p with
    | non =>
      have e0 : g.step p = { g with dn := g.dn.set p (g.dnAt p + 1), x := if g.dnAt p = 0 then fset g.x (g.at p) (some p) else g.x, y := if g.dnAt p = 2 then fset g.y (g.at p) true else g.y } := by unfold Gs.step; rw [hr]
      have hc : ∀ c', c' ≠ g.at p → (g.step p).x c' = g.x c' ∧ (g.step p).y c' = g.y c' := fun c' h => by
        rw [e0]
        dsimp only
        constructor
        · split
          · unfold fset; rw [if_neg h]
          · rfl
        · split
          · unfold fset; rw [if_neg h]
          · rfl
      have LL := key { g with x := (g.step p).x, y := (g.step p).y } (by
        rw [e0]
        dsimp only
        split
        · unfold fset; rw [if_pos rfl]
        · rfl) (by
        rw [e0]
        dsimp only
        split
        · unfold fset; rw [if_pos rfl]
        · rfl) hc rfl rfl
      refine go2 _ LL rfl _ fun H4 L => ?_
      rw [if_pos (show rsV Rs.non = V.non from rfl)]
      rw [hr] at q
      refine q B H4 .non (Same.refl B) ⟨wf', xs, cs, rp, ⟨?_, ?_, C.nd, fr1 (g.step p) hc, by rw [ls]; exact C.ln, ?_, by rw [ls]; simpa [evT, resT] using C.rn, ?_⟩⟩ rfl
      · rw [e0]; exact C.sp
      · simpa [evT, resT] using C.rt
      · rw [e0, ls]; exact fun c hc => Nat.le_succ_of_le (C.bd c hc)
      · rw [e0] at L ⊢
        exact L
    | right c =>
      obtain ⟨hk1, he, hne⟩ := res_facts hr
      have ce : (if Str.ofString "right" = Str.ofString "right" then ((Gs.at { g with dn := g.dn.set p (g.dnAt p + 1) } p).1 + 1, (Gs.at { g with dn := g.dn.set p (g.dnAt p + 1) } p).2) else ((Gs.at { g with dn := g.dn.set p (g.dnAt p + 1) } p).1, (Gs.at { g with dn := g.dn.set p (g.dnAt p + 1) } p).2 + 1)) = c := by rw [if_pos rfl]; exact he.symm
      have LL := key g (by rw [if_neg (by omega)]) (by rw [if_neg (by omega)]) (fun c' h => ⟨rfl, rfl⟩) rfl rfl
      refine go2 _ LL rfl _ fun H4 L => ?_
      rw [if_neg (by intro z; cases z)]
      have LW := L
      unfold walkL walkO at LW
      refine MtK.of LW (by walk_at "mem") (by walk_at "fs") ?_
      have e0 : g.step p = { g with pos := g.pos.set p c, dn := g.dn.set p 0 } := by unfold Gs.step; rw [hr]
      refine ⟨B, W, { g with dn := g.dn.set p (g.dnAt p + 1) }, n, sch.length + 1, sch.length, p, xs, cs, sch ++ [p], rp, evs, l, _, rfl, ⟨C.sp, C.rt, C.nd, C.fr, C.ln, C.bd, C.rn, L⟩, wf.toLn.dnset p _, ok, by omega, hp, fun z => absurd z (by decide +kernel), fun _ B2 H5 xs' s2 C5 => ?_⟩
      rw [ce] at C5 ⊢
      have L5 := C5.led
      unfold walkL walkO at L5
      refine FldK.of L5 (by walk_at "mem") m.C_Walk m.x_Walk_reports (v := .ref W.rl) (by walk_at "fs") ?_
      walk_at "vc"
      refine ⟨tyL (L5.lstAt (by walk_at "mem")), NewK.of L5 fun t3 H6 L6 => ?_⟩
      obtain ⟨B3, s3, ht3, L6⟩ := L6.sink
      refine AppK.of L6 (by walk_at "mem") (Nat.lt_of_le_of_lt (m := 1000001) (by rw [C.rt.1]; have := C.rn; omega) (by decide)) (by walk_at "put") fun H7 L7 => ?_
      refine NewK.of L7 fun t4 H8 L8 => ?_
      obtain ⟨B4, s4, ht4, L8⟩ := L8.sink
      rw [hr] at q
      refine q B4 H8 (.ref t4) ((s2.trans s3).trans s4) ⟨wf', xs', cs, rp ++ [.ref t3], ⟨?_, ?_, C.nd, ?_, by rw [ls]; exact C.ln, ?_, ?_, ?_⟩⟩ ⟨t4, rfl, ht4⟩
      · rw [e0]; exact (C5.sp.mono s3).mono s4
      · exact ((C5.rt.mono s3).app ht3).mono s4
      · rw [e0]; exact C.fr
      · rw [e0, ls]; exact C5.bd
      · rw [List.length_append, ls]
        exact Nat.succ_le_succ hrn
      · rw [e0]
        have := L8
        rw [show (g.dn.set p (g.dnAt p + 1)).set p 0 = g.dn.set p 0 from List.set_set ..] at this
        exact this
    | down c =>
      obtain ⟨hk1, he, hne⟩ := res_facts hr
      have ce : (if Str.ofString "down" = Str.ofString "right" then ((Gs.at { g with dn := g.dn.set p (g.dnAt p + 1) } p).1 + 1, (Gs.at { g with dn := g.dn.set p (g.dnAt p + 1) } p).2) else ((Gs.at { g with dn := g.dn.set p (g.dnAt p + 1) } p).1, (Gs.at { g with dn := g.dn.set p (g.dnAt p + 1) } p).2 + 1)) = c := by rw [if_neg (by decide +kernel)]; exact he.symm
      have LL := key g (by rw [if_neg (by omega)]) (by rw [if_neg (by omega)]) (fun c' h => ⟨rfl, rfl⟩) rfl rfl
      refine go2 _ LL rfl _ fun H4 L => ?_
      rw [if_neg (by intro z; cases z)]
      have LW := L
      unfold walkL walkO at LW
      refine MtK.of LW (by walk_at "mem") (by walk_at "fs") ?_
      have e0 : g.step p = { g with pos := g.pos.set p c, dn := g.dn.set p 0 } := by unfold Gs.step; rw [hr]
      refine ⟨B, W, { g with dn := g.dn.set p (g.dnAt p + 1) }, n, sch.length + 1, sch.length, p, xs, cs, sch ++ [p], rp, evs, l, _, rfl, ⟨C.sp, C.rt, C.nd, C.fr, C.ln, C.bd, C.rn, L⟩, wf.toLn.dnset p _, ok, by omega, hp, fun z => absurd z (by decide +kernel), fun _ B2 H5 xs' s2 C5 => ?_⟩
      rw [ce] at C5 ⊢
      have L5 := C5.led
      unfold walkL walkO at L5
      refine FldK.of L5 (by walk_at "mem") m.C_Walk m.x_Walk_reports (v := .ref W.rl) (by walk_at "fs") ?_
      walk_at "vc"
      refine ⟨tyL (L5.lstAt (by walk_at "mem")), NewK.of L5 fun t3 H6 L6 => ?_⟩
      obtain ⟨B3, s3, ht3, L6⟩ := L6.sink
      refine AppK.of L6 (by walk_at "mem") (Nat.lt_of_le_of_lt (m := 1000001) (by rw [C.rt.1]; have := C.rn; omega) (by decide)) (by walk_at "put") fun H7 L7 => ?_
      refine NewK.of L7 fun t4 H8 L8 => ?_
      obtain ⟨B4, s4, ht4, L8⟩ := L8.sink
      rw [hr] at q
      refine q B4 H8 (.ref t4) ((s2.trans s3).trans s4) ⟨wf', xs', cs, rp ++ [.ref t3], ⟨?_, ?_, C.nd, ?_, by rw [ls]; exact C.ln, ?_, ?_, ?_⟩⟩ ⟨t4, rfl, ht4⟩
      · rw [e0]; exact (C5.sp.mono s3).mono s4
      · exact ((C5.rt.mono s3).app ht3).mono s4
      · rw [e0]; exact C.fr
      · rw [e0, ls]; exact C5.bd
      · rw [List.length_append, ls]
        exact Nat.succ_le_succ hrn
      · rw [e0]
        have := L8
        rw [show (g.dn.set p (g.dnAt p + 1)).set p 0 = g.dn.set p 0 from List.set_set ..] at this
        exact this
    | stop c =>
      obtain ⟨hk1, he, hne⟩ := res_facts hr
      have LL := key g (by rw [if_neg (by omega)]) (by rw [if_neg (by omega)]) (fun c' h => ⟨rfl, rfl⟩) rfl rfl
      refine go2 _ LL rfl _ fun H4 L => ?_
      rw [if_neg (by intro z; cases z)]
      have LW := L
      unfold walkL walkO at LW
      refine MtK.of LW (by walk_at "mem") (by walk_at "fs") ?_
      have e0 : g.step p = { g with fin := g.fin.set p true, dn := g.dn.set p 4 } := by unfold Gs.step; rw [hr]
      refine ⟨B, W, { g with dn := g.dn.set p (g.dnAt p + 1) }, n, sch.length + 1, sch.length, p, xs, cs, sch ++ [p], rp, evs, l, _, rfl, ⟨C.sp, C.rt, C.nd, C.fr, C.ln, C.bd, C.rn, L⟩, wf.toLn.dnset p _, ok, by omega, hp, fun _ H5 C5 => ?_, fun z => absurd rfl z⟩
      rw [show g.dnAt p + 1 = 4 by omega] at C5
      have ce : Gs.at { g with dn := g.dn.set p (g.dnAt p + 1) } p = c := he.symm
      rw [ce]
      have L5 := C5.led
      unfold walkL walkO at L5
      refine FldK.of L5 (by walk_at "mem") m.C_Walk m.x_Walk_reports (v := .ref W.rl) (by walk_at "fs") ?_
      walk_at "vc"
      refine ⟨tyL (L5.lstAt (by walk_at "mem")), NewK.of L5 fun t3 H6 L6 => ?_⟩
      obtain ⟨B3, s3, ht3, L6⟩ := L6.sink
      refine AppK.of L6 (by walk_at "mem") (Nat.lt_of_le_of_lt (m := 1000001) (by rw [C.rt.1]; have := C.rn; omega) (by decide)) (by walk_at "put") fun H7 L7 => ?_
      refine NewK.of L7 fun t4 H8 L8 => ?_
      obtain ⟨B4, s4, ht4, L8⟩ := L8.sink
      rw [hr] at q
      refine q B4 H8 (.ref t4) (s3.trans s4) ⟨wf', xs, cs, rp ++ [.ref t3], ⟨?_, ?_, C.nd, ?_, by rw [ls]; exact C.ln, ?_, ?_, ?_⟩⟩ ⟨t4, rfl, ht4⟩
      · rw [e0]; exact (C.sp.mono s3).mono s4
      · exact ((C.rt.mono s3).app ht3).mono s4
      · rw [e0]; exact C.fr
      · rw [e0, ls]; exact fun c hc => Nat.le_succ_of_le (C.bd c hc)
      · rw [List.length_append, ls]
        exact Nat.succ_le_succ hrn
      · rw [e0]
        exact L8
/-! cut Walk_can_step -/
def sp_Walk_can_step (K : PySem.W.Frag) (d : Ad) : Sp := fun vs H Q _ => ∃ (B : Hp) (W : Wad) (g : Gs) (n p : Nat) (sch : List Nat) (evs : List (List V)) (l : List (Addr × HO)), vs = [.ref W.w, .int p] ∧ WalkR d B H W g n sch evs l ∧ p < n ∧ Q (.bl (decide (g.fin[p]? = some false))) H
theorem ok_Walk_can_step (m : Mo K mg d) (sm : SM bs) (G_is_integer_within : FnOk P w K mg bs CX0 2 d.a_is_integer_within d.fd_is_integer_within ["value", "least", "greatest"] (sp_is_integer_within K)) : FnOk P w K mg bs CX0 3 d.a_Walk_can_step d.fd_Walk_can_step ["self", "process"] (sp_Walk_can_step K d) := by
  refine m.F_Walk_can_step.ok (k := 2) sc_Walk_can_step (fun vs H Q E h => ?_) (fun cdv A fr s H vs Q E hr h => ?_)
  · obtain ⟨B, W, g, n, p, sch, evs, l, rfl, ⟨wf, xs, cs, rp, C⟩, hp, q⟩ := h
    rfl
  · obtain ⟨B, W, g, n, p, sch, evs, l, rfl, ⟨wf, xs, cs, rp, C⟩, hp, q⟩ := h
    refine ⟨_, (pss_one (ps_ret (pe_and (pe_call G_is_integer_within (hr.mono (by decide)) (by rfl) m.g_is_integer_within m.F_is_integer_within.kp m.b_is_integer_within .nil pass0 (pa_cons (pv 1) (pa_cons pe_int (pa_cons (pe_op op_sub (pe_callB cr_len (by rfl) m.n_len (by decide +kernel) (pa_cons (pe_fld (pv 0) rfl) pa_nil)) pe_int) pa_nil)))) (pe_one (pe_cmpR op_isN (pe_ix ix_list (pe_fld (pv 0) rfl) (pv 1) (fun _ _ => rfl)) pe_non (nomark _)))))), ?_⟩
    have L := C.led
    unfold walkL walkO at L
    walk_at "vc"
    refine FldK.of L (by walk_at "mem") m.C_Walk m.x_Walk_names (v := .ref W.nl) (by walk_at "fs") ?_
    walk_at "vc"
    refine LenK.ofL (L.lstAt (by walk_at "mem")) ?_
    rw [Gs.names_len wf.toLn]
    walk_at "vc"
    refine ⟨_, _, _, rfl, ?_⟩
    walk_at "vc"
    rw [decide_eq_true (show (0 : Int) ≤ p by omega), decide_eq_true (show (p : Int) ≤ (n : Int) - 1 by omega)]
    walk_at "vc"
    refine FldK.of L (by walk_at "mem") m.C_Walk m.x_Walk_names (v := .ref W.nl) (by walk_at "fs") ?_
    walk_at "vc"
    refine IxLK.of (L.lstAt (by walk_at "mem")) (atI_nat' (Gs.names_at wf.toLn hp)) ?_
    have hf : p < g.fin.length := by rw [wf.lf]; exact hp
    have e : decide ((if g.fin[p]? = some true then V.int (nmC (g.at p)) else V.non) = .non) = decide (g.fin[p]? = some false) := by
      rw [List.getElem?_eq_getElem hf]
      cases g.fin[p] <;> simp
    walk_at "vc"
    rw [e]
    exact q
/-! cut perform_schedule -/
def sp_perform_schedule (K : PySem.W.Frag) (d : Ad) : Sp := fun vs H Q _ => ∃ (B : Hp) (W : Wad) (g : Gs) (n : Nat) (sch0 sch : List Nat) (evs : List (List V)) (l : List (Addr × HO)) (a : Addr), vs = [.ref W.w, .ref a] ∧ WalkR d B H W g n sch0 evs l ∧ (∀ B' H', Same B B' → Led B' H' l → SqL K H' a (nv sch)) ∧ GVal g sch ∧ sch0.length + sch.length ≤ 1000000 ∧
  ∀ B' H', Same B B' → WalkR d B' H' W (g.run sch) n (sch0 ++ sch) (evs ++ evsOf g sch) l → Q .non H'
theorem ok_perform_schedule (m : Mo K mg d) (sm : SM bs) (G_Walk_step : FnOk P w K mg bs CX0 6 d.a_Walk_step d.fd_Walk_step ["self", "process"] (sp_Walk_step K d)) (G_Walk_can_step : FnOk P w K mg bs CX0 3 d.a_Walk_can_step d.fd_Walk_can_step ["self", "process"] (sp_Walk_can_step K d)) : FnOk P w K mg bs CX0 7 d.a_perform_schedule d.fd_perform_schedule ["run", "schedule"] (sp_perform_schedule K d) := by
  refine m.F_perform_schedule.ok (k := 6) sc_perform_schedule (fun vs H Q E h => ?_) (fun cdv A fr s H vs Q E hr h => ?_)
  · obtain ⟨B, W, g, n, sch0, sch, evs, l, a, rfl, R, ha, hv, hm, q⟩ := h
    rfl
  · obtain ⟨B, W, g, n, sch0, sch, evs, l, a, rfl, R, ha, hv, hm, q⟩ := h
    refine ⟨_, (pss_cons (ps_if (pt_not (pt_val (pe_callB cr_is (by rfl) m.n_isinstance (by decide +kernel) (pa_cons (pv 1) (pa_cons (pe_bltn (v := .ty "list") (by rfl) m.n_list (by decide +kernel) rfl) pa_nil)))))
      (pss_one ps_never)
      pss_nil)
      (pss_one (ps_for PassesOwn.never rfl (pi_list (pv 1)) (pg_name (i := 2) sc_perform_schedule.nd rfl (.inl rfl))
      (pss_cons (ps_if (pt_not (pt_val (pe_meth (pv 0) m.C_Walk m.M_Walk_can_step G_Walk_can_step (hr.mono (by decide)) m.b_Walk_can_step .nil pass0 (pa_cons (pv 2) pa_nil))))
      (pss_one ps_never)
      pss_nil)
      (pss_one (ps_expr (pe_meth (pv 0) m.C_Walk m.M_Walk_step G_Walk_step (hr.mono (by decide)) m.b_Walk_step .nil pass0 (pa_cons (pv 2) pa_nil)))))))), ?_⟩
    have lk : ∀ {B1 H1 : Hp} {g1 : Gs} {s1 : List Nat} {e1 : List (List V)}, Same B B1 → WalkR d B1 H1 W g1 n s1 e1 l → SqL K H1 a (nv sch) := by
      rintro B1 H1 g1 s1 e1 s ⟨_, _, _, _, C⟩
      exact ha _ _ s (walk_tail C.led)
    walk_at "vc"
    refine IsK.lstL (b := true) (lk (Same.refl B) R) (by decide +kernel) ?_
    walk_at "vc"
    refine ⟨⟨_, lk (Same.refl B) R⟩, ?_⟩
    refine loop_list (xs := nv sch) (fun i σ H' => ∃ y B', σ = [some (.ref W.w), some (.ref a), y] ∧ Same B B' ∧ WalkR d B' H' W (g.run (sch.take i)) n (sch0 ++ sch.take i) (evs ++ evsOf g (sch.take i)) l) ⟨_, B, rfl, Same.refl B, by
      show WalkR d B H W g n (sch0 ++ []) (evs ++ []) l
      rw [List.append_nil, List.append_nil]
      exact R⟩ (fun i σ H' _ ⟨_, _, _, s, R⟩ => lk s R) (fun i x σ H' N hx h hN => ?_) (fun σ H' h => ?_)
    · obtain ⟨y, B', rfl, sB, R⟩ := h
      obtain ⟨p, hp, rfl⟩ := nv_at hx
      have ok := hv.at hp
      have wf := R.1
      have hpn := ok.lt wf
      have il : i < sch.length := (List.getElem?_eq_some_iff.mp hp).1
      have e1 : g.run (sch.take (i + 1)) = (g.run (sch.take i)).step p := grun_take hp
      have e2 : sch.take (i + 1) = sch.take i ++ [p] := by rw [List.take_add_one, hp]; rfl
      obtain ⟨_, xs, cs, rp, C⟩ := id R
      have L := C.led
      unfold walkL walkO at L
      walk_at "vc"
      refine MtK.of L (by walk_at "mem") (by walk_at "fs") ?_
      refine ⟨B', W, _, n, p, _, _, l, rfl, R, hpn, ?_⟩
      rw [decide_eq_true (show (g.run (sch.take i)).fin[p]? = some false from ok)]
      walk_at "vc"
      refine MtK.of L (by walk_at "mem") (by walk_at "fs") ?_
      refine ⟨B', W, _, n, p, _, _, l, rfl, R, ok, by rw [List.length_append, List.length_take]; omega, fun B2 H2 v s2 R2 _ => ?_⟩
      refine hN _ _ ⟨_, B2, rfl, sB.trans s2, ?_⟩
      rw [e1, e2, evsOf_app, ← List.append_assoc, ← List.append_assoc]
      exact R2
    · obtain ⟨y, B', rfl, sB, R⟩ := h
      walk_at "vc"
      rw [List.take_of_length_le (by rw [nv_len]; omega)] at R
      exact q B' H' sB R
/-! cut walk_after -/
def sp_walk_after (K : PySem.W.Frag) (d : Ad) : Sp := fun vs H Q _ => ∃ (B : Hp) (l : List (Addr × HO)) (n : Nat) (sch : List Nat) (a : Addr), vs = [.int n, .ref a] ∧ Led B H l ∧ 1 ≤ n ∧ n ≤ 40 ∧ (∀ B' H', Same B B' → Led B' H' l → SqL K H' a (nv sch)) ∧ GVal (Gs.init n) sch ∧ sch.length ≤ 1000000 ∧
  ∀ B' H' W, Same B B' → WalkR d B' H' W ((Gs.init n).run sch) n sch (evsOf (Gs.init n) sch) l → Q (.ref W.w) H'
theorem ok_walk_after (m : Mo K mg d) (sm : SM bs) (G_check_count : FnOk P w K mg bs CX0 3 d.a_check_count d.fd_check_count ["count", "greatest"] (sp_check_count K)) (G_Walk___init__ : FnOk P w K mg bs CX0 1 d.a_Walk___init__ d.fd_Walk___init__ ["self", "count"] (sp_Walk___init__ K d)) (G_perform_schedule : FnOk P w K mg bs CX0 7 d.a_perform_schedule d.fd_perform_schedule ["run", "schedule"] (sp_perform_schedule K d)) : FnOk P w K mg bs CX0 8 d.a_walk_after d.fd_walk_after ["count", "schedule"] (sp_walk_after K d) := by
  obtain ⟨t_GREATEST_COUNT, h_GREATEST_COUNT⟩ := m.mg_GREATEST_COUNT
  refine m.F_walk_after.ok (k := 7) sc_walk_after (fun vs H Q E h => ?_) (fun cdv A fr s H vs Q E hr h => ?_)
  · obtain ⟨B, l, n, sch, a, rfl, L, h1, hn, ha, hv, hm, q⟩ := h
    rfl
  · obtain ⟨B, l, n, sch, a, rfl, L, h1, hn, ha, hv, hm, q⟩ := h
    refine ⟨_, (pss_cons (ps_expr (pe_call G_check_count (hr.mono (by decide)) (by rfl) m.g_check_count m.F_check_count.kp m.b_check_count .nil pass0 (pa_cons (pv 0) (pa_cons (pe_glob (v := .int (40)) rfl h_GREATEST_COUNT ⟨_, rfl⟩) pa_nil))))
      (pss_cons (ps_asg (pe_make m.K_Walk G_Walk___init__ (hr.mono (by decide)) (by rfl) m.g_Walk m.b_Walk___init__ .nil pass0 (pa_cons (pv 0) pa_nil)) (pg_name (i := 2) sc_walk_after.nd rfl (.inl rfl)))
      (pss_cons (ps_expr (pe_call G_perform_schedule (hr.mono (by decide)) (by rfl) m.g_perform_schedule m.F_perform_schedule.kp m.b_perform_schedule .nil pass0 (pa_cons (pv 2) (pa_cons (pv 1) pa_nil))))
      (pss_one (ps_ret (pv 2)))))), ?_⟩
    walk_at "vc"
    refine ⟨_, _, rfl, by omega, by omega, ?_⟩
    walk_at "vc"
    refine MkK.of L fun x dx H1 L => ?_
    refine ⟨B, x, dx, n, l, rfl, hn, L, fun B2 H2 W s2 hW R => ⟨rfl, ?_⟩⟩
    subst hW
    refine ⟨B2, W, _, n, [], sch, [], l, a, rfl, R, fun B' H' s L => ha B' H' (s2.trans s) L, hv, by simpa using hm, fun B3 H3 s3 R3 => ?_⟩
    walk_at "vc"
    exact q B3 H3 W (s2.trans s3) R3
/-! cut words_of -/
def sp_words_of (K : PySem.W.Frag) : Sp := fun vs H Q _ => ∃ (B : Hp) (l : List (Addr × HO)) (a : Str), vs = [.str a] ∧ Led B H l ∧ a.length ≤ 1000000 ∧ ∀ H' p, Led B H' ((p, .lst ((Txt.split a " ").map V.str)) :: l) → Q (.ref p) H'
theorem ok_words_of (m : Mo K mg d) (sm : SM bs) : FnOk P w K mg bs CX0 1 d.a_words_of d.fd_words_of ["text"] (sp_words_of K) := by
  refine m.F_words_of.ok (k := 0) sc_words_of (fun vs H Q E h => ?_) (fun cdv A fr s H vs Q E hr h => ?_)
  · obtain ⟨B, l, a, rfl, L, hl, q⟩ := h
    rfl
  · obtain ⟨B, l, a, rfl, L, hl, q⟩ := h
    refine ⟨_, (pss_cons (ps_if (pt_not (pt_val (pe_callB cr_is (by rfl) m.n_isinstance (by decide +kernel) (pa_cons (pv 0) (pa_cons (pe_bltn (v := .ty "str") (by rfl) m.n_str (by decide +kernel) rfl) pa_nil)))))
      (pss_one ps_never)
      pss_nil)
      (pss_one (ps_ret (pe_bm PySem.F.plainAttrs_str PySem.F.slot_str_split PySem.F.type_str_split mt_splitS (pv 0) (pa_cons pe_str pa_nil))))), ?_⟩
    walk_at "vc"
    refine ⟨rfl, Nat.le_trans (m := 1000002) (by omega) (by decide), ?_⟩
    exact NewK.of L fun p H1 L => q _ _ L
/-! cut read_number -/
def sp_read_number (K : PySem.W.Frag) : Sp := fun vs H Q _ => ∃ (k : Nat), vs = [.str (nT k), .int 40] ∧ k < 10 ^ 40 ∧ Q (.int (k : Int)) H
theorem ok_read_number (m : Mo K mg d) (sm : SM bs) : FnOk P w K mg bs CX0 1 d.a_read_number d.fd_read_number ["word", "most_digits"] (sp_read_number K) := by
  refine m.F_read_number.ok (k := 0) sc_read_number (fun vs H Q E h => ?_) (fun cdv A fr s H vs Q E hr h => ?_)
  · obtain ⟨k, rfl, hm, q⟩ := h
    rfl
  · obtain ⟨k, rfl, hm, q⟩ := h
    refine ⟨_, (pss_cons (ps_if (PW.pt (pw_or (pt_cmpR op_gt (pe_callB cr_lenS (by rfl) m.n_len (by decide +kernel) (pa_cons (pv 0) pa_nil)) (pv 1) (nomark _)) (pw_or (pt_not (pt_val (pe_bm0 PySem.F.plainAttrs_str PySem.F.slot_str_isascii PySem.F.type_str_isascii mt_asciiS (pv 0)))) (pw_or1 (pt_not (pt_val (pe_bm0 PySem.F.plainAttrs_str PySem.F.slot_str_isdigit PySem.F.type_str_isdigit mt_digitS (pv 0))))))))
      (pss_one ps_never)
      pss_nil)
      (pss_cons (ps_if (PW.pt (pw_and (pt_cmpR op_eq (pe_ix ix_str (pv 0) pe_int (fun _ _ => rfl)) pe_str (nomark _)) (pw_and1 (pt_cmpR op_ne (pv 0) pe_str (nomark _)))))
      (pss_one ps_never)
      pss_nil)
      (pss_one (ps_ret (pe_callTy cr_intS (by rfl) m.n_int (by decide +kernel) (pa_cons (pv 0) pa_nil)))))), ?_⟩
    have hl := nT_len (k := 40) (by decide) hm
    walk_at "vc"
    refine ⟨Nat.le_trans hl (by decide), ?_⟩
    rw [if_neg (by omega), isascii_nT, if_neg (by decide), isdigit_nT, if_neg (by decide)]
    walk_at "vc"
    obtain ⟨c, r, hc⟩ : ∃ c r, TL.numL k = c :: r := by
      cases hq : TL.numL k with
      | nil => exact absurd hq (TL.numL_ne k)
      | cons c r => exact ⟨c, r, rfl⟩
    have hcs : (nT k).cps.toList = c :: r := (nT_tl k).trans hc
    refine ⟨Nat.le_trans hl (by decide), c, by rw [hcs]; unfold atI ixN; rw [if_pos (by decide), if_pos (by simp only [List.length_cons]; omega)]; rfl, ?_⟩
    walk_at "vc"
    have hfin : IntSK (nT k) fun n => Q (.int n) H := ⟨(k : Int), nT_int (Nat.lt_of_lt_of_le hm (Nat.pow_le_pow_right (by decide) (by decide))), by omega, q⟩
    split
    · rename_i e
      have hk0 : k = 0 := nT_head k (by
        rw [hc]
        have : (⟨#[c]⟩ : Str) = Str.ofString "0" := e
        have h2 := congrArg TL.tl this
        rw [show TL.tl (⟨#[c]⟩ : Str) = [c] from rfl, show TL.tl (Str.ofString "0") = [48] by rfl] at h2
        rw [List.head?_cons, (List.cons.inj h2).1])
      subst hk0
      rw [show decide (nT 0 = Str.ofString "0") = true by decide +kernel, if_neg (by decide)]
      exact hfin
    · exact hfin
/-! cut read_schedule -/
def sp_read_schedule (K : PySem.W.Frag) : Sp := fun vs H Q _ => ∃ (B : Hp) (l : List (Addr × HO)) (sch : List Nat), vs = [.str (rowT sch)] ∧ Led B H l ∧ (∀ p ∈ sch, p < 100) ∧ sch.length ≤ 200000 ∧ ∀ H' p, Led B H' ((p, .lst (nv sch)) :: l) → Q (.ref p) H'
theorem ok_read_schedule (m : Mo K mg d) (sm : SM bs) (G_read_number : FnOk P w K mg bs CX0 1 d.a_read_number d.fd_read_number ["word", "most_digits"] (sp_read_number K)) : FnOk P w K mg bs CX0 2 d.a_read_schedule d.fd_read_schedule ["word"] (sp_read_schedule K) := by
  obtain ⟨t_EMPTY_SCHEDULE, h_EMPTY_SCHEDULE⟩ := m.mg_EMPTY_SCHEDULE
  obtain ⟨t_MOST_DIGITS, h_MOST_DIGITS⟩ := m.mg_MOST_DIGITS
  refine m.F_read_schedule.ok (k := 1) sc_read_schedule (fun vs H Q E h => ?_) (fun cdv A fr s H vs Q E hr h => ?_)
  · obtain ⟨B, l, sch, rfl, L, hb, hl, q⟩ := h
    rfl
  · obtain ⟨B, l, sch, rfl, L, hb, hl, q⟩ := h
    refine ⟨_, (pss_cons (ps_if (pt_cmpR op_eq (pv 0) (pe_glob (v := .str "-") rfl h_EMPTY_SCHEDULE ⟨_, rfl⟩) (nomark _))
      (pss_one (ps_ret (pe_lst pa_nil)))
      pss_nil)
      (pss_one (ps_ret (pe_lc (own := [("part", 1)]) (by rfl) sc_read_schedule.nd (pi_list (pe_bm PySem.F.plainAttrs_str PySem.F.slot_str_split PySem.F.type_str_split mt_splitS (pv 0) (pa_cons pe_str pa_nil))) (blkOk_by (own := [("part", 1)]) (N := ["word", "part"]) (sc := defScope s_read_schedule) (by decide +kernel)) (fun _ _ _ _ _ => by exact (pg_name (i := 1) sc_read_schedule.nd rfl (.inl rfl))) (fun _ _ _ _ _ => by exact pts_nil) (fun _ _ _ _ _ => by exact (pe_call G_read_number (hr.mono (by decide)) (by rfl) m.g_read_number m.F_read_number.kp m.b_read_number .nil pass0 (pa_cons (pv 1) (pa_cons (pe_glob (v := .int (40)) rfl h_MOST_DIGITS ⟨_, rfl⟩) pa_nil)))))))), ?_⟩
    walk_at "vc"
    cases sch with
    | nil =>
      rw [if_pos (by rfl)]
      exact NewK.of L fun p H1 L => q _ _ L
    | cons p0 r =>
      have er : rowT (p0 :: r) = txt "," (p0 :: r) := if_neg (by intro z; cases z)
      have hlen := row_len hb hl
      rw [er] at hlen ⊢
      rw [if_neg row_ne]
      refine ⟨rfl, Nat.le_trans (m := 700000) (by omega) (by decide), ?_⟩
      rw [txt_split cm_tl (by decide) cm_ok (by intro z; cases z)]
      generalize p0 :: r = sch at *
      refine NewK.of L fun wl H1 L => ?_
      refine ⟨⟨_, L.lstAt (by walk_at "mem")⟩, ?_⟩
      refine comp_list (xs := (sch.map nT).map V.str) (fun j z acc H' => acc = nv (sch.take j) ∧ Led B H' ((z, .lst acc) :: (wl, .lst ((sch.map nT).map V.str)) :: l)) (fun z hz => ⟨rfl, L.new hz⟩) (fun j z acc H' h => h.2.lstAt (by walk_at "mem")) ?_ ?_
      · rintro z acc H2 ⟨rfl, L⟩
        rw [List.take_of_length_le (by rw [List.length_map, List.length_map]; exact Nat.le_refl _)] at L
        exact q _ _ (L.sel (by walk_at "sel"))
      · rintro j z acc H2 x N hx ⟨rfl, L⟩ hN
        rw [List.getElem?_map, List.getElem?_map] at hx
        obtain ⟨p, hp, rfl⟩ : ∃ p, sch[j]? = some p ∧ x = .str (nT p) := by
          cases e : sch[j]? with
          | none => rw [e] at hx; cases hx
          | some p => rw [e] at hx; exact ⟨p, rfl, (Option.some.inj hx).symm⟩
        have hjl : j < sch.length := (List.getElem?_eq_some_iff.mp hp).1
        unfold TurnK
        walk_at "vc"
        refine ⟨p, rfl, Nat.lt_trans (hb p (List.mem_of_getElem? hp)) (by decide +kernel), ?_⟩
        refine AppK.of L (by walk_at "mem") (Nat.lt_of_lt_of_le (m := 200001) (by rw [nv_len, List.length_take]; omega) (by decide)) (by walk_at "put") fun H4 L => hN _ _ ⟨?_, L⟩
        rw [List.take_add_one, hp]
        exact (nv_app _ _).symm
/-! cut read_run -/
def sp_read_run (K : PySem.W.Frag) (d : Ad) : Sp := fun vs H Q _ => ∃ (B : Hp) (l : List (Addr × HO)) (n : Nat) (sch : List Nat), vs = [.str (runT n sch)] ∧ Led B H l ∧ 1 ≤ n ∧ n ≤ 40 ∧ GVal (Gs.init n) sch ∧ sch.length ≤ 200000 ∧
  ∀ B' H' t a, Same B B' → Led B' H' ((t, .tup [.int (n : Int), .ref a]) :: (a, .lst (nv sch)) :: l) → Q (.ref t) H'
theorem ok_read_run (m : Mo K mg d) (sm : SM bs) (G_walk_after : FnOk P w K mg bs CX0 8 d.a_walk_after d.fd_walk_after ["count", "schedule"] (sp_walk_after K d)) (G_words_of : FnOk P w K mg bs CX0 1 d.a_words_of d.fd_words_of ["text"] (sp_words_of K)) (G_read_number : FnOk P w K mg bs CX0 1 d.a_read_number d.fd_read_number ["word", "most_digits"] (sp_read_number K)) (G_read_schedule : FnOk P w K mg bs CX0 2 d.a_read_schedule d.fd_read_schedule ["word"] (sp_read_schedule K)) : FnOk P w K mg bs CX0 9 d.a_read_run d.fd_read_run ["text"] (sp_read_run K d) := by
  obtain ⟨t_MOST_DIGITS, h_MOST_DIGITS⟩ := m.mg_MOST_DIGITS
  refine m.F_read_run.ok (k := 8) sc_read_run (fun vs H Q E h => ?_) (fun cdv A fr s H vs Q E hr h => ?_)
  · obtain ⟨B, l, n, sch, rfl, L, h1, hn, hv, hl, q⟩ := h
    rfl
  · obtain ⟨B, l, n, sch, rfl, L, h1, hn, hv, hl, q⟩ := h
    refine ⟨_, (pss_cons (ps_asg (pe_call G_words_of (hr.mono (by decide)) (by rfl) m.g_words_of m.F_words_of.kp m.b_words_of .nil pass0 (pa_cons (pv 0) pa_nil)) (pg_name (i := 1) sc_read_run.nd rfl (.inl rfl)))
      (pss_cons (ps_if (pt_cmpR op_ne (pe_callB cr_len (by rfl) m.n_len (by decide +kernel) (pa_cons (pv 1) pa_nil)) pe_int (nomark _))
      (pss_one ps_never)
      pss_nil)
      (pss_cons (ps_asg (pe_call G_read_number (hr.mono (by decide)) (by rfl) m.g_read_number m.F_read_number.kp m.b_read_number .nil pass0 (pa_cons (pe_ix ix_list (pv 1) pe_int (fun _ _ => rfl)) (pa_cons (pe_glob (v := .int (40)) rfl h_MOST_DIGITS ⟨_, rfl⟩) pa_nil))) (pg_name (i := 2) sc_read_run.nd rfl (.inl rfl)))
      (pss_cons (ps_asg (pe_call G_read_schedule (hr.mono (by decide)) (by rfl) m.g_read_schedule m.F_read_schedule.kp m.b_read_schedule .nil pass0 (pa_cons (pe_ix ix_list (pv 1) pe_int (fun _ _ => rfl)) pa_nil)) (pg_name (i := 3) sc_read_run.nd rfl (.inl rfl)))
      (pss_cons (ps_try_thru0 (pss_one (ps_expr (pe_call G_walk_after (hr.mono (by decide)) (by rfl) m.g_walk_after m.F_walk_after.kp m.b_walk_after .nil pass0 (pa_cons (pv 2) (pa_cons (pv 3) pa_nil))))))
      (pss_one (ps_ret (pe_tup (pa_cons (pv 2) (pa_cons (pv 3) pa_nil)))))))))), ?_⟩
    have hs := gval_small hn hv
    have hlen := run_len (n := n) (k := 200000) (by omega) hs hl
    walk_at "vc"
    refine ⟨B, l, _, rfl, L, by omega, fun H1 wl L => ?_⟩
    rw [run_split] at L
    walk_at "vc"
    refine LenK.ofL (L.lstAt (by walk_at "mem")) ?_
    walk_at "vc"
    refine IxLK.of (L.lstAt (by walk_at "mem")) (v := .str (nT n)) rfl ?_
    refine ⟨n, rfl, Nat.lt_of_le_of_lt hn (by decide +kernel), ?_⟩
    walk_at "vc"
    refine IxLK.of (L.lstAt (by walk_at "mem")) (v := .str (rowT sch)) rfl ?_
    refine ⟨B, _, sch, rfl, L, hs, hl, fun H2 a L => ?_⟩
    walk_at "vc"
    refine ⟨B, _, n, sch, a, rfl, L, h1, hn, fun B' H' s L => L.lstAt (List.Mem.head _), hv, by omega, fun B3 H3 W s3 R => ?_⟩
    obtain ⟨wf, xs, cs, rp, C⟩ := R
    have L := walk_tail C.led
    walk_at "vc"
    refine NewK.of L fun t H4 L => ?_
    exact q B3 H4 t a s3 (L.sel (by walk_at "sel"))
/-! cut Run___init__ -/
def sp_Run___init__ (K : PySem.W.Frag) (d : Ad) : Sp := fun vs H Q _ => ∃ (B : Hp) (r dx : Addr) (n : Nat) (l : List (Addr × HO)), vs = [.ref r, .int n] ∧ 1 ≤ n ∧ n ≤ 40 ∧ Led B H ((r, .ins d.c_Run dx []) :: l) ∧ ∀ B' H' R, Same B B' → R.r = r → RunR d B' H' R n [] [] l → Q .non H'
theorem ok_Run___init__ (m : Mo K mg d) (sm : SM bs) (G_walk_after : FnOk P w K mg bs CX0 8 d.a_walk_after d.fd_walk_after ["count", "schedule"] (sp_walk_after K d)) : FnOk P w K mg bs CX0 9 d.a_Run___init__ d.fd_Run___init__ ["self", "count"] (sp_Run___init__ K d) := by
  refine m.F_Run___init__.ok (k := 8) sc_Run___init__ (fun vs H Q E h => ?_) (fun cdv A fr s H vs Q E hr h => ?_)
  · obtain ⟨B, r0, dx, n, l, rfl, h1, hn, L, q⟩ := h
    rfl
  · obtain ⟨B, r0, dx, n, l, rfl, h1, hn, L, q⟩ := h
    refine ⟨_, (pss_cons (ps_fld (pv 0) (pe_call G_walk_after (hr.mono (by decide)) (by rfl) m.g_walk_after m.F_walk_after.kp m.b_walk_after .nil pass0 (pa_cons (pv 1) (pa_cons (pe_lst pa_nil) pa_nil))) rfl)
      (pss_one (ps_fld (pv 0) (pe_lst pa_nil) rfl))), ?_⟩
    walk_at "vc"
    refine NewK.of L fun e H1 L => ?_
    refine ⟨B, _, n, [], e, rfl, L, h1, hn, fun B' H' s L => L.lstAt (List.Mem.head _), trivial, by decide, fun B2 H2 W s2 R => ?_⟩
    obtain ⟨wf, xs, cs, rp, C⟩ := R
    have L := walk_front.mp C.led
    walk_at "vc"
    refine StK.of L (by walk_at "mem") m.C_Run m.x_Run__walk (fs' := [("_walk", .ref W.w)]) (by walk_at "fs") (by walk_at "put") fun H3 L => ?_
    refine NewK.of L fun mk H4 L => ?_
    refine StK.of L (by walk_at "mem") m.C_Run m.x_Run__marks (fs' := [("_walk", .ref W.w), ("_marks", .ref mk)]) (by walk_at "fs") (by walk_at "put") fun H5 L => ?_
    refine q B2 H5 ⟨r0, dx, mk⟩ s2 rfl ⟨trivial, W, wf, xs, cs, rp, ⟨C.sp, C.rt, C.nd, C.fr, C.ln, C.bd, C.rn, walk_front.mpr ?_⟩⟩
    exact L.sel (.cons (.tl (.tl .hd)) (.cons .hd (.skip .all)))
/-! cut Run_finish -/
/-- p, alone, has been first in its cell -/
def Gs.Own (g : Gs) (p : Nat) : Prop := g.dnAt p = 0 ∨ g.x (g.at p) = some p
instance (g : Gs) (p : Nat) : Decidable (g.Own p) := inferInstanceAs (Decidable (_ ∨ _))
/-- the closed cells lie within S, so p alone comes to an end -/
def Gs.Solo (g : Gs) (p S : Nat) : Prop := (g.Own p ∧ g.dnAt p = 3) ∨ ((∀ c, g.y c = true → c.1 + c.2 ≤ S) ∧ (¬ g.Own p → (g.at p).1 + (g.at p).2 ≤ S))
def Gs.soloM (g : Gs) (p S : Nat) : Nat := 4 * (S + 1 - (g.at p).1) + (4 - g.dnAt p) + if g.Own p then 0 else 8
theorem getD_setp {α : Type} {l : List α} {p : Nat} {v d : α} (h : p < l.length) : (l.set p v).getD p d = v := by
  rw [List.getD_eq_getElem?_getD, List.getElem?_set_self h]; rfl
theorem Gs.Solo.step {g : Gs} {n p S : Nat} (wf : g.Wf n) (ok : g.Ok p) (h : g.Solo p S) : ¬ (g.step p).Ok p ∨ ((g.step p).Ok p ∧ (g.step p).Solo p S ∧ (g.step p).soloM p S < g.soloM p S) := by
  have hp := ok.lt wf
  have h1 : p < g.pos.length := by rw [wf.lp]; exact hp
  have h2 : p < g.dn.length := by rw [wf.ld]; exact hp
  have h3 : p < g.fin.length := by rw [wf.lf]; exact hp
  have d3 := wf.d3 p ok
  by_cases a : g.dnAt p = 1 ∧ g.y (g.at p) = true
  · have er : g.res p = .right ((g.at p).1 + 1, (g.at p).2) := by unfold Gs.res; rw [if_pos a]
    have e0 : g.step p = { g with pos := g.pos.set p ((g.at p).1 + 1, (g.at p).2), dn := g.dn.set p 0 } := by unfold Gs.step; rw [er]
    have ea : (g.step p).at p = ((g.at p).1 + 1, (g.at p).2) := by rw [e0]; exact getD_setp h1
    have ed : (g.step p).dnAt p = 0 := by rw [e0]; exact getD_setp h2
    have ey : (g.step p).y = g.y := by rw [e0]
    have eo : (g.step p).Own p := Or.inl ed
    have hy : ∀ c, g.y c = true → c.1 + c.2 ≤ S := by rcases h with ⟨_, z⟩ | z
                                                      · omega
                                                      · exact z.1
    refine Or.inr ⟨by rw [e0]; exact ok, Or.inr ⟨by rw [ey]; exact hy, fun z => (z eo).elim⟩, ?_⟩
    have hc := hy _ a.2
    unfold Gs.soloM
    rw [if_pos eo, ea, ed]
    show 4 * (S + 1 - ((g.at p).1 + 1)) + (4 - 0) + 0 < _
    split <;> omega
  · by_cases b : g.dnAt p = 3
    · by_cases c : g.x (g.at p) = some p
      · have er : g.res p = .stop (g.at p) := by unfold Gs.res; rw [if_neg a, if_pos b, if_pos c]
        have e0 : g.step p = { g with fin := g.fin.set p true, dn := g.dn.set p 4 } := by unfold Gs.step; rw [er]
        refine Or.inl fun z => ?_
        rw [e0] at z
        have z : (g.fin.set p true)[p]? = some false := z
        rw [List.getElem?_set_self h3] at z
        cases z
      · have er : g.res p = .down ((g.at p).1, (g.at p).2 + 1) := by unfold Gs.res; rw [if_neg a, if_pos b, if_neg c]
        have e0 : g.step p = { g with pos := g.pos.set p ((g.at p).1, (g.at p).2 + 1), dn := g.dn.set p 0 } := by unfold Gs.step; rw [er]
        have ea : (g.step p).at p = ((g.at p).1, (g.at p).2 + 1) := by rw [e0]; exact getD_setp h1
        have ed : (g.step p).dnAt p = 0 := by rw [e0]; exact getD_setp h2
        have ey : (g.step p).y = g.y := by rw [e0]
        have eo : (g.step p).Own p := Or.inl ed
        have no : ¬ g.Own p := by rintro (z | z)
                                  · omega
                                  · exact c z
        have hy : ∀ c, g.y c = true → c.1 + c.2 ≤ S := by rcases h with ⟨z, _⟩ | z
                                                          · exact (no z).elim
                                                          · exact z.1
        refine Or.inr ⟨by rw [e0]; exact ok, Or.inr ⟨by rw [ey]; exact hy, fun z => (z eo).elim⟩, ?_⟩
        unfold Gs.soloM
        rw [if_pos eo, if_neg no, ea, ed]
        show 4 * (S + 1 - (g.at p).1) + (4 - 0) + 0 < _
        omega
    · have er : g.res p = .non := by unfold Gs.res; rw [if_neg a, if_neg b]
      have e0 : g.step p = { g with dn := g.dn.set p (g.dnAt p + 1), x := if g.dnAt p = 0 then fset g.x (g.at p) (some p) else g.x, y := if g.dnAt p = 2 then fset g.y (g.at p) true else g.y } := by unfold Gs.step; rw [er]
      have ea : (g.step p).at p = g.at p := by rw [e0]; rfl
      have ed : (g.step p).dnAt p = g.dnAt p + 1 := by rw [e0]; exact getD_setp h2
      have hh : (∀ c, g.y c = true → c.1 + c.2 ≤ S) ∧ (¬ g.Own p → (g.at p).1 + (g.at p).2 ≤ S) := by
        rcases h with ⟨_, z⟩ | z
        · exact (b z).elim
        · exact z
      have eo : (g.step p).Own p ↔ g.Own p := by
        unfold Gs.Own
        rw [ed, ea]
        rw [e0]
        by_cases k0 : g.dnAt p = 0
        · show _ ∨ (if g.dnAt p = 0 then fset g.x (g.at p) (some p) else g.x) (g.at p) = some p ↔ _
          rw [if_pos k0]
          exact ⟨fun _ => Or.inl k0, fun _ => Or.inr (if_pos rfl)⟩
        · show _ ∨ (if g.dnAt p = 0 then fset g.x (g.at p) (some p) else g.x) (g.at p) = some p ↔ _
          rw [if_neg k0]
          exact ⟨fun z => z.imp (fun z => by omega) id, fun z => z.imp (fun z => (k0 z).elim) id⟩
      have hM : (g.step p).soloM p S < g.soloM p S := by
        unfold Gs.soloM
        rw [ea, ed]
        by_cases o : g.Own p
        · rw [if_pos o, if_pos (eo.mpr o)]; omega
        · rw [if_neg o, if_neg (fun z => o (eo.mp z))]; omega
      refine Or.inr ⟨by rw [e0]; exact ok, ?_, hM⟩
      by_cases k2 : g.dnAt p = 2
      · by_cases o : g.Own p
        · exact Or.inl ⟨eo.mpr o, by rw [ed]; omega⟩
        · refine Or.inr ⟨fun c hc => ?_, fun _ => by rw [ea]; exact hh.2 o⟩
          rw [e0] at hc
          have hc : (if g.dnAt p = 2 then fset g.y (g.at p) true else g.y) c = true := hc
          rw [if_pos k2] at hc
          unfold fset at hc
          by_cases z : c = g.at p
          · rw [z]; exact hh.2 o
          · rw [if_neg z] at hc; exact hh.1 c hc
      · refine Or.inr ⟨fun c hc => ?_, fun z => by rw [ea]; exact hh.2 (fun w => z (eo.mpr w))⟩
        rw [e0] at hc
        have hc : (if g.dnAt p = 2 then fset g.y (g.at p) true else g.y) c = true := hc
        rw [if_neg k2] at hc
        exact hh.1 c hc
def FinI (d : Ad) (B : Hp) (R : Rad) (n : Nat) (sch mks : List Nat) (p S : Nat) (l : List (Addr × HO)) (mm : Nat) (σ : L2.St) (H' : Hp) : Prop := ∃ B' j, σ = [some (.ref R.r), some (.int (p : Int))] ∧ Same B B' ∧ RunR d B' H' R n (sch ++ List.replicate j p) (mks ++ [sch.length]) l ∧ (((Gs.init n).run (sch ++ List.replicate j p)).Ok p ∧ ((Gs.init n).run (sch ++ List.replicate j p)).Solo p S ∧ mm = ((Gs.init n).run (sch ++ List.replicate j p)).soloM p S + 1 ∨ ¬ ((Gs.init n).run (sch ++ List.replicate j p)).Ok p ∧ mm = 0) ∧ j + mm ≤ 4 * S + 17
def sp_Run_finish (K : PySem.W.Frag) (d : Ad) : Sp := fun vs H Q _ => ∃ (B : Hp) (R : Rad) (n : Nat) (sch mks : List Nat) (p S : Nat) (l : List (Addr × HO)), vs = [.ref R.r, .int (p : Int)] ∧ RunR d B H R n sch mks l ∧ ((Gs.init n).run sch).Ok p ∧ mks.length ≤ 100000 ∧ sch.length + 4 * S + 40 ≤ 1000000 ∧ (∀ c, ((Gs.init n).run sch).y c = true → c.1 + c.2 ≤ S) ∧ (((Gs.init n).run sch).at p).1 + (((Gs.init n).run sch).at p).2 ≤ S ∧
  ∀ B' H' j, Same B B' → j ≤ 4 * S + 17 → RunR d B' H' R n (sch ++ List.replicate j p) (mks ++ [sch.length]) l → ((Gs.init n).run (sch ++ List.replicate j p)).fin[p]? = some true → Q (.int (nmC (((Gs.init n).run (sch ++ List.replicate j p)).at p))) H'
theorem ok_Run_finish (m : Mo K mg d) (sm : SM bs) (G_Walk_step : FnOk P w K mg bs CX0 6 d.a_Walk_step d.fd_Walk_step ["self", "process"] (sp_Walk_step K d)) (G_Walk_can_step : FnOk P w K mg bs CX0 3 d.a_Walk_can_step d.fd_Walk_can_step ["self", "process"] (sp_Walk_can_step K d)) : FnOk P w K mg bs CX0 7 d.a_Run_finish d.fd_Run_finish ["self", "process"] (sp_Run_finish K d) := by
  refine m.F_Run_finish.ok (k := 6) sc_Run_finish (fun vs H Q E h => ?_) (fun cdv A fr s H vs Q E hr h => ?_)
  · obtain ⟨B, R, n, sch, mks, p, S, l, rfl, RR, ok, hml, hm, hy, hc, q⟩ := h
    rfl
  · obtain ⟨B, R, n, sch, mks, p, S, l, rfl, RR, ok, hml, hm, hy, hc, q⟩ := h
    refine ⟨_, (pss_cons (ps_if (pt_not (pt_val (pe_meth (pe_fld (pv 0) rfl) m.C_Walk m.M_Walk_can_step G_Walk_can_step (hr.mono (by decide)) m.b_Walk_can_step .nil pass0 (pa_cons (pv 1) pa_nil))))
      (pss_one ps_never)
      pss_nil)
      (pss_cons (ps_expr (pe_bm PySem.F.plainAttrs_list PySem.F.slot_list_append PySem.F.type_list_append mt_append (pe_fld (pv 0) rfl) (pa_cons (pe_callB cr_len (by rfl) m.n_len (by decide +kernel) (pa_cons (pe_fld (pe_fld (pv 0) rfl) rfl) pa_nil)) pa_nil)))
      (pss_cons (ps_while PassesOwn.never (pt_val (pe_meth (pe_fld (pv 0) rfl) m.C_Walk m.M_Walk_can_step G_Walk_can_step (hr.mono (by decide)) m.b_Walk_can_step .nil pass0 (pa_cons (pv 1) pa_nil)))
      (pss_one (ps_expr (pe_meth (pe_fld (pv 0) rfl) m.C_Walk m.M_Walk_step G_Walk_step (hr.mono (by decide)) m.b_Walk_step .nil pass0 (pa_cons (pv 1) pa_nil)))))
      (pss_one (ps_ret (pe_ix ix_list (pe_fld (pe_fld (pv 0) rfl) rfl) (pv 1) (fun _ _ => rfl))))))), ?_⟩
    obtain ⟨hv, W, wf, xs, cs, rp, C⟩ := id RR
    have hpn := ok.lt wf
    have L := walk_front.mp C.led
    unfold runO at L
    have LW := C.led
    unfold walkL walkO at LW
    walk_at "vc"
    refine FldK.of L (by walk_at "mem") m.C_Run m.x_Run__walk (v := .ref W.w) (by walk_at "fs") ?_
    walk_at "vc"
    refine MtK.of LW (by walk_at "mem") (by walk_at "fs") ?_
    refine ⟨B, W, _, n, p, _, _, _, rfl, ⟨wf, xs, cs, rp, C⟩, hpn, ?_⟩
    rw [decide_eq_true (show ((Gs.init n).run sch).fin[p]? = some false from ok)]
    walk_at "vc"
    refine FldK.of L (by walk_at "mem") m.C_Run m.x_Run__marks (v := .ref R.ml) (by walk_at "fs") ?_
    refine ⟨tyL (L.lstAt (xs := nv mks) (by walk_at "mem")), ?_⟩
    refine FldK.of L (by walk_at "mem") m.C_Run m.x_Run__walk (v := .ref W.w) (by walk_at "fs") ?_
    walk_at "vc"
    refine FldK.of LW (by walk_at "mem") m.C_Walk m.x_Walk_steps (v := .ref W.sl) (by walk_at "fs") ?_
    walk_at "vc"
    refine LenK.ofL (LW.lstAt (by walk_at "mem")) ?_
    rw [nv_len]
    walk_at "vc"
    refine AppK.of L (xs := nv mks) (by walk_at "mem") (Nat.lt_of_lt_of_le (m := 1000000) (by rw [nv_len]; omega) (by decide)) (by walk_at "put") fun H1 L => ?_
    rw [← nv_app] at L
    have R1 : RunR d B H1 R n sch (mks ++ [sch.length]) l := ⟨hv, W, wf, xs, cs, rp, ⟨C.sp, C.rt, C.nd, C.fr, C.ln, C.bd, C.rn, walk_front.mpr L⟩⟩
    walk_at "vc"
    clear L LW
    refine ⟨FinI d B R n sch mks p S l, ⟨((Gs.init n).run sch).soloM p S + 1, B, 0, rfl, Same.refl B, by rw [List.replicate_zero, List.append_nil]; exact R1, by rw [List.replicate_zero, List.append_nil]; exact Or.inl ⟨ok, Or.inr ⟨hy, fun _ => hc⟩, rfl⟩, ?_⟩, ?_⟩
    · unfold Gs.soloM
      split <;> omega
    · rintro mm σ H2 ⟨B2, j, rfl, s2, RR2, hk, hj⟩
      obtain ⟨hv2, W2, WR2⟩ := id RR2
      obtain ⟨wf2, xs2, cs2, rp2, C2⟩ := id WR2
      have L := walk_front.mp C2.led
      unfold runO at L
      have LW := C2.led
      unfold walkL walkO at LW
      walk_at "vc"
      refine FldK.of L (by walk_at "mem") m.C_Run m.x_Run__walk (v := .ref W2.w) (by walk_at "fs") ?_
      walk_at "vc"
      refine MtK.of LW (by walk_at "mem") (by walk_at "fs") ?_
      refine ⟨B2, W2, _, n, p, _, _, _, rfl, WR2, hpn, ?_⟩
      rcases hk with ⟨ok2, so, rfl⟩ | ⟨no, rfl⟩
      · rw [decide_eq_true (show ((Gs.init n).run (sch ++ List.replicate j p)).fin[p]? = some false from ok2)]
        walk_at "vc"
        have e1 : sch ++ List.replicate (j + 1) p = sch ++ List.replicate j p ++ [p] := by rw [List.replicate_succ', List.append_assoc]
        refine ⟨fun σ H' => ∃ mm, mm < ((Gs.init n).run (sch ++ List.replicate j p)).soloM p S + 1 ∧ FinI d B R n sch mks p S l mm σ H', fun _ _ z => z, ?_⟩
        walk_at "vc"
        refine FldK.of L (by walk_at "mem") m.C_Run m.x_Run__walk (v := .ref W2.w) (by walk_at "fs") ?_
        walk_at "vc"
        refine MtK.of LW (by walk_at "mem") (by walk_at "fs") ?_
        refine ⟨B2, W2, _, n, p, _, _, _, rfl, WR2, ok2, by rw [List.length_append, List.length_replicate]; omega, fun B3 H3 v s3 WR3 _ => ?_⟩
        have R3 : RunR d B3 H3 R n (sch ++ List.replicate (j + 1) p) (mks ++ [sch.length]) l := by
          rw [e1]
          refine ⟨hv2.app ok2, W2, ?_⟩
          rw [grun_app, evsOf_app]
          exact WR3
        have eg : (Gs.init n).run (sch ++ List.replicate (j + 1) p) = ((Gs.init n).run (sch ++ List.replicate j p)).step p := by rw [e1, grun_app]
        rcases so.step wf2 ok2 with z | ⟨z1, z2, z3⟩
        · exact ⟨0, by omega, B3, j + 1, rfl, s2.trans s3, R3, Or.inr ⟨by rw [eg]; exact z, rfl⟩, by omega⟩
        · exact ⟨_, Nat.succ_lt_succ z3, B3, j + 1, rfl, s2.trans s3, R3, Or.inl ⟨by rw [eg]; exact z1, by rw [eg]; exact z2, by rw [eg]⟩, by omega⟩
      · rw [decide_eq_false (show ¬ ((Gs.init n).run (sch ++ List.replicate j p)).fin[p]? = some false from no)]
        walk_at "vc"
        have hfl : p < ((Gs.init n).run (sch ++ List.replicate j p)).fin.length := by rw [wf2.lf]; exact hpn
        have hf : ((Gs.init n).run (sch ++ List.replicate j p)).fin[p]? = some true := by
          cases hb : ((Gs.init n).run (sch ++ List.replicate j p)).fin[p]? with
          | none => rw [List.getElem?_eq_none_iff] at hb; omega
          | some b => cases b with
            | true => rfl
            | false => exact (no hb).elim
        have hna := Gs.names_at wf2.toLn hpn
        rw [if_pos hf] at hna
        refine FldK.of L (by walk_at "mem") m.C_Run m.x_Run__walk (v := .ref W2.w) (by walk_at "fs") ?_
        walk_at "vc"
        refine FldK.of LW (by walk_at "mem") m.C_Walk m.x_Walk_names (v := .ref W2.nl) (by walk_at "fs") ?_
        walk_at "vc"
        refine IxLK.of (LW.lstAt (xs := ((Gs.init n).run (sch ++ List.replicate j p)).names) (by walk_at "mem")) (by rw [atI_nat]; exact hna) ?_
        exact q B2 H2 j s2 (by omega) RR2 hf
/-! cut Run_places_now -/
def placesV (g : Gs) : List (List V) := (g.pos.zip g.dn).map fun e => [.int (nmC e.1), .int (e.2 : Int)]
theorem placesV_len {g : Gs} {n : Nat} (wf : g.Ln n) : (placesV g).length = n := by unfold placesV; rw [List.length_map, List.length_zip, wf.lp, wf.ld]; omega
def sp_Run_places_now (K : PySem.W.Frag) (d : Ad) : Sp := fun vs H Q _ => ∃ (B : Hp) (R : Rad) (n : Nat) (sch mks : List Nat) (l : List (Addr × HO)), vs = [.ref R.r] ∧ RunR d B H R n sch mks l ∧ n ≤ 40 ∧ sch.length ≤ 1000000 ∧ ∀ B' H' p out, Same B B' → RunR d B' H' R n sch mks ((p, .lst out) :: l) → Tups B' out (placesV ((Gs.init n).run sch)) → Q (.ref p) H'
theorem ok_Run_places_now (m : Mo K mg d) (sm : SM bs) (G_name_of : FnOk P w K mg bs CX0 4 d.a_name_of d.fd_name_of ["right", "down"] (sp_name_of K)) : FnOk P w K mg bs CX0 5 d.a_Run_places_now d.fd_Run_places_now ["self"] (sp_Run_places_now K d) := by
  refine m.F_Run_places_now.ok (k := 4) sc_Run_places_now (fun vs H Q E h => ?_) (fun cdv A fr s H vs Q E hr h => ?_)
  · obtain ⟨B, R, n, sch, mks, l, rfl, RR, hn, hm, q⟩ := h
    rfl
  · obtain ⟨B, R, n, sch, mks, l, rfl, RR, hn, hm, q⟩ := h
    refine ⟨_, (pss_cons (ps_asg (pe_fld (pv 0) rfl) (pg_name (i := 1) sc_Run_places_now.nd rfl (.inl rfl)))
      (pss_one (ps_ret (pe_lc (own := [("done", 2), ("right", 3), ("down", 4)]) (by rfl) sc_Run_places_now.nd (pi_zip (by rfl) m.n_zip (pa_cons (pe_fld (pv 1) rfl) (pa_cons (pe_fld (pv 1) rfl) pa_nil))) (blkOk_by (own := [("done", 2), ("right", 3), ("down", 4)]) (N := ["self", "walk", "done", "right", "down"]) (sc := defScope s_Run_places_now) (by decide +kernel)) (fun _ _ _ _ _ => by exact (show PG _ _ (gTup K 2 _) from pg_tup (by rfl) (pgs_cons (show PG _ _ (gTup K 2 _) from pg_tup (by rfl) (pgs_cons (pg_name (i := 3) sc_Run_places_now.nd rfl (.inl rfl)) (pgs_cons (pg_name (i := 4) sc_Run_places_now.nd rfl (.inl rfl)) pgs_nil))) (pgs_cons (pg_name (i := 2) sc_Run_places_now.nd rfl (.inl rfl)) pgs_nil)))) (fun _ _ _ _ _ => by exact pts_nil) (fun _ _ _ _ _ => by exact (pe_tup (pa_cons (pe_call G_name_of (hr.mono (by decide)) (by rfl) m.g_name_of m.F_name_of.kp m.b_name_of .nil pass0 (pa_cons (pv 3) (pa_cons (pv 4) pa_nil))) (pa_cons (pv 2) pa_nil)))))))), ?_⟩
    obtain ⟨hv, W, wf, xs, cs, rp, C⟩ := RR
    have L := walk_front.mp C.led
    unfold runO at L
    walk_at "vc"
    refine FldK.of L (by walk_at "mem") m.C_Run m.x_Run__walk (v := .ref W.w) (by walk_at "fs") ?_
    walk_at "vc"
    have LW := C.led
    unfold walkL walkO at LW
    refine FldK.of LW (by walk_at "mem") m.C_Walk m.x_Walk_places (v := .ref W.pl) (by walk_at "fs") ?_
    refine FldK.of LW (by walk_at "mem") m.C_Walk m.x_Walk_done (v := .ref W.dl) (by walk_at "fs") ?_
    refine ⟨_, rfl, _, rfl, ⟨xs, LW.lstAt (by walk_at "mem")⟩, ⟨_, LW.lstAt (xs := nv ((Gs.init n).run sch).dn) (by walk_at "mem")⟩, ?_⟩
    have hxl : xs.length = n := by rw [C.sp.1, List.length_map]; exact wf.lp
    have hpl := placesV_len wf.toLn
    have sq : ∀ {B' H' : Hp} {z : Addr} {o : HO}, Led B' H' ((z, o) :: (runO d R W :: (R.ml, .lst (nv mks)) :: l ++ walkL d W ((Gs.init n).run sch) xs cs sch rp [])) → SqL K H' W.pl xs ∧ SqL K H' W.dl (nv ((Gs.init n).run sch).dn) := fun L => by
      have LW := walk_front.mpr (L.sel (.skip .all))
      unfold walkL walkO at LW
      exact ⟨LW.lstAt (by walk_at "mem"), LW.lstAt (by walk_at "mem")⟩
    refine comp_zip (xs := xs) (ys := nv ((Gs.init n).run sch).dn) (by rw [nv_len, wf.ld]; exact hxl) (fun j z acc H' => ∃ B', Same B B' ∧ Tups B' acc ((placesV ((Gs.init n).run sch)).take j) ∧ Led B' H' ((z, .lst acc) :: (runO d R W :: (R.ml, .lst (nv mks)) :: l ++ walkL d W ((Gs.init n).run sch) xs cs sch rp []))) (fun z hz => ⟨B, Same.refl B, by rw [List.take_zero]; exact Tups.nil _, L.new hz⟩) (fun j z acc H' ⟨_, _, _, L⟩ => sq L) ?_ ?_
    · rintro z acc H2 ⟨B2, s2, ta, L⟩
      rw [List.take_of_length_le (by omega)] at ta
      refine q B2 H2 z acc s2 ⟨hv, W, wf, xs, cs, rp, ⟨C.sp.mono s2, C.rt.mono s2, C.nd, C.fr, C.ln, C.bd, C.rn, walk_front.mpr ?_⟩⟩ ta
      exact L.sel (.cons (.tl .hd) (.cons (.tl .hd) .all))
    · rintro j z acc H2 x y N hx hy ⟨B2, s2, ta, L⟩ hN
      have hj : j < n := by have := (List.getElem?_eq_some_iff.mp hx).1; omega
      obtain ⟨t, hx2, ht⟩ := C.sp.spot wf.toLn hj
      rw [hx] at hx2
      cases hx2
      obtain ⟨dj, hdj, rfl⟩ := nv_at hy
      have hb0 := C.bd _ (List.mem_of_getElem? (Gs.at_get wf.toLn hj))
      have hat : (placesV ((Gs.init n).run sch))[j]? = some [.int (nmC (((Gs.init n).run sch).at j)), .int (dj : Int)] := by
        unfold placesV
        rw [List.getElem?_map, (List.getElem?_zip_eq_some (z := (((Gs.init n).run sch).at j, dj))).mpr ⟨Gs.at_get wf.toLn hj, hdj⟩]
        rfl
      refine NewK.of L fun t2 H3 L => ?_
      unfold TurnK
      walk_at "vc"
      refine UnpK.of (L.tupAt (by walk_at "mem")) rfl ?_
      walk_at "vc"
      refine UnpK.of (.inl (.inl (L.sm _ _ (s2 _ _ ht)))) rfl ?_
      unfold cellV
      walk_at "vc"
      refine ⟨_, _, rfl, by omega, by omega, by omega, by omega, ?_⟩
      walk_at "vc"
      refine NewK.of L fun t3 H4 L => ?_
      obtain ⟨B3, s3, ht3, L⟩ := L.sink
      have hac : acc.length = j := by rw [ta.1, List.length_take]; omega
      refine AppK.of L (by walk_at "mem") (Nat.lt_of_lt_of_le (m := 100) (by omega) (by decide)) (by walk_at "put") fun H5 L => hN _ _ ⟨B3, s2.trans s3, ?_, L.sel (.skip .all)⟩
      rw [List.take_add_one, hat]
      exact (ta.mono s3).app ht3
/-! cut Run_names_now -/
def sp_Run_names_now (K : PySem.W.Frag) (d : Ad) : Sp := fun vs H Q _ => ∃ (B : Hp) (R : Rad) (n : Nat) (sch mks : List Nat) (l : List (Addr × HO)), vs = [.ref R.r] ∧ RunR d B H R n sch mks l ∧ ∀ H' p, RunR d B H' R n sch mks ((p, .lst ((Gs.init n).run sch).names) :: l) → Q (.ref p) H'
theorem ok_Run_names_now (m : Mo K mg d) (sm : SM bs) : FnOk P w K mg bs CX0 1 d.a_Run_names_now d.fd_Run_names_now ["self"] (sp_Run_names_now K d) := by
  refine m.F_Run_names_now.ok (k := 0) sc_Run_names_now (fun vs H Q E h => ?_) (fun cdv A fr s H vs Q E hr h => ?_)
  · obtain ⟨B, R, n, sch, mks, l, rfl, ⟨hv, W, wf, xs, cs, rp, C⟩, q⟩ := h
    rfl
  · obtain ⟨B, R, n, sch, mks, l, rfl, ⟨hv, W, wf, xs, cs, rp, C⟩, q⟩ := h
    refine ⟨_, (pss_one (ps_ret (pe_callTy cr_listOf (by rfl) m.n_list (by decide +kernel) (pa_cons (pe_fld (pe_fld (pv 0) rfl) rfl) pa_nil)))), ?_⟩
    have L := walk_front.mp C.led
    unfold runO at L
    walk_at "vc"
    refine FldK.of L (by walk_at "mem") m.C_Run m.x_Run__walk (v := .ref W.w) (by walk_at "fs") ?_
    walk_at "vc"
    have LW := C.led
    unfold walkL walkO at LW
    refine FldK.of LW (by walk_at "mem") m.C_Walk m.x_Walk_names (v := .ref W.nl) (by walk_at "fs") ?_
    walk_at "vc"
    refine ⟨((Gs.init n).run sch).names, Or.inl (LW.lstAt (by walk_at "mem")), NewK.of L fun p H1 L => ?_⟩
    refine q H1 p ⟨hv, W, wf, xs, cs, rp, ⟨C.sp, C.rt, C.nd, C.fr, C.ln, C.bd, C.rn, walk_front.mpr ?_⟩⟩
    unfold runO
    exact L.sel (.cons (.tl .hd) (.cons (.tl .hd) .all))
/-! cut Run_steps_done -/
def sp_Run_steps_done (K : PySem.W.Frag) (d : Ad) : Sp := fun vs H Q _ => ∃ (B : Hp) (R : Rad) (n : Nat) (sch mks : List Nat) (l : List (Addr × HO)), vs = [.ref R.r] ∧ RunR d B H R n sch mks l ∧ ∀ H' p, RunR d B H' R n sch mks ((p, .lst (nv sch)) :: l) → Q (.ref p) H'
theorem ok_Run_steps_done (m : Mo K mg d) (sm : SM bs) : FnOk P w K mg bs CX0 1 d.a_Run_steps_done d.fd_Run_steps_done ["self"] (sp_Run_steps_done K d) := by
  refine m.F_Run_steps_done.ok (k := 0) sc_Run_steps_done (fun vs H Q E h => ?_) (fun cdv A fr s H vs Q E hr h => ?_)
  · obtain ⟨B, R, n, sch, mks, l, rfl, ⟨hv, W, wf, xs, cs, rp, C⟩, q⟩ := h
    rfl
  · obtain ⟨B, R, n, sch, mks, l, rfl, ⟨hv, W, wf, xs, cs, rp, C⟩, q⟩ := h
    refine ⟨_, (pss_one (ps_ret (pe_callTy cr_listOf (by rfl) m.n_list (by decide +kernel) (pa_cons (pe_fld (pe_fld (pv 0) rfl) rfl) pa_nil)))), ?_⟩
    have L := walk_front.mp C.led
    unfold runO at L
    walk_at "vc"
    refine FldK.of L (by walk_at "mem") m.C_Run m.x_Run__walk (v := .ref W.w) (by walk_at "fs") ?_
    walk_at "vc"
    have LW := C.led
    unfold walkL walkO at LW
    refine FldK.of LW (by walk_at "mem") m.C_Walk m.x_Walk_steps (v := .ref W.sl) (by walk_at "fs") ?_
    walk_at "vc"
    refine ⟨nv sch, Or.inl (LW.lstAt (by walk_at "mem")), NewK.of L fun p H1 L => ?_⟩
    refine q H1 p ⟨hv, W, wf, xs, cs, rp, ⟨C.sp, C.rt, C.nd, C.fr, C.ln, C.bd, C.rn, walk_front.mpr ?_⟩⟩
    unfold runO
    exact L.sel (.cons (.tl .hd) (.cons (.tl .hd) .all))
/-! cut Run_read -/
def sp_Run_read (K : PySem.W.Frag) (d : Ad) : Sp := fun vs H Q _ => ∃ (B : Hp) (l : List (Addr × HO)) (n : Nat) (sch : List Nat), vs = [.ref d.c_Run, .str (runT n sch)] ∧ Led B H l ∧ 1 ≤ n ∧ n ≤ 40 ∧ GVal (Gs.init n) sch ∧ sch.length ≤ 200000 ∧
  ∀ B' H' R, Same B B' → RunR d B' H' R n sch [] l → Q (.ref R.r) H'
theorem ok_Run_read (m : Mo K mg d) (sm : SM bs) (G_walk_after : FnOk P w K mg bs CX0 8 d.a_walk_after d.fd_walk_after ["count", "schedule"] (sp_walk_after K d)) (G_read_run : FnOk P w K mg bs CX0 9 d.a_read_run d.fd_read_run ["text"] (sp_read_run K d)) (G_Run___init__ : FnOk P w K mg bs CX0 9 d.a_Run___init__ d.fd_Run___init__ ["self", "count"] (sp_Run___init__ K d)) : FnOk P w K mg bs CX0 11 d.a_Run_read d.fd_Run_read ["cls", "text"] (sp_Run_read K d) := by
  refine m.F_Run_read.ok (k := 10) sc_Run_read (fun vs H Q E h => ?_) (fun cdv A fr s H vs Q E hr h => ?_)
  · obtain ⟨B, l, n, sch, rfl, L, h1, hn, hv, hl, q⟩ := h
    rfl
  · obtain ⟨B, l, n, sch, rfl, L, h1, hn, hv, hl, q⟩ := h
    refine ⟨_, (pss_cons (ps_asg (pe_call G_read_run (hr.mono (by decide)) (by rfl) m.g_read_run m.F_read_run.kp m.b_read_run .nil pass0 (pa_cons (pv 1) pa_nil)) (show PG _ _ (gTup K 2 _) from pg_tup (by rfl) (pgs_cons (pg_name (i := 2) sc_Run_read.nd rfl (.inl rfl)) (pgs_cons (pg_name (i := 3) sc_Run_read.nd rfl (.inl rfl)) pgs_nil))))
      (pss_cons (ps_asg (pe_makeV (i := 0) m.K_Run G_Run___init__ (hr.mono (by decide)) m.b_Run___init__ pass0 rfl (by first | exact .inl rfl | exact .inr rfl | rfl | decide) (pa_cons (pv 2) pa_nil)) (pg_name (i := 4) sc_Run_read.nd rfl (.inl rfl)))
      (pss_cons (ps_fld (pv 4) (pe_call G_walk_after (hr.mono (by decide)) (by rfl) m.g_walk_after m.F_walk_after.kp m.b_walk_after .nil pass0 (pa_cons (pv 2) (pa_cons (pv 3) pa_nil))) rfl)
      (pss_one (ps_ret (pv 4)))))), ?_⟩
    walk_at "vc"
    refine ⟨B, l, n, sch, rfl, L, h1, hn, hv, hl, fun B1 H1 t a s1 L => ?_⟩
    walk_at "vc"
    refine UnpK.of (L.tupAt (by walk_at "mem")) rfl ?_
    walk_at "vc"
    refine MkK.of L fun x dx H2 L => ?_
    refine ⟨B1, x, dx, n, _, rfl, h1, hn, L, fun B3 H3 R s3 hR RR => ⟨rfl, ?_⟩⟩
    subst hR
    obtain ⟨W, xs, cs, rp, L, -⟩ := RR.split
    unfold runO at L
    walk_at "vc"
    refine ⟨B3, _, n, sch, a, rfl, L, h1, hn, fun B' H' s L => L.lstAt (.tail _ (.tail _ (.tail _ (.head _)))), hv, by omega, fun B4 H4 W2 s4 WR => ?_⟩
    obtain ⟨wf2, xs2, cs2, rp2, C2⟩ := WR
    have L := walk_front.mp C2.led
    walk_at "vc"
    refine StK.of L (by walk_at "mem") m.C_Run m.x_Run__walk (fs' := [("_walk", .ref W2.w), ("_marks", .ref R.ml)]) (by walk_at "fs") (by walk_at "put") fun H5 L => ?_
    refine q B4 H5 R ((s1.trans s3).trans s4) ⟨hv, W2, wf2, xs2, cs2, rp2, ⟨C2.sp, C2.rt, C2.nd, C2.fr, C2.ln, C2.bd, C2.rn, walk_front.mpr ?_⟩⟩
    exact L.subl (((((List.Sublist.append (List.sublist_append_left l _) (List.Sublist.refl _)).cons _).cons _).cons_cons _).cons_cons _)
/-! cut Run___len__ -/
def sp_Run___len__ (K : PySem.W.Frag) (d : Ad) : Sp := fun vs H Q _ => ∃ (B : Hp) (R : Rad) (n : Nat) (sch mks : List Nat) (l : List (Addr × HO)), vs = [.ref R.r] ∧ RunR d B H R n sch mks l ∧ Q (.int (sch.length : Int)) H
theorem ok_Run___len__ (m : Mo K mg d) (sm : SM bs) : FnOk P w K mg bs CX0 1 d.a_Run___len__ d.fd_Run___len__ ["self"] (sp_Run___len__ K d) := by
  refine m.F_Run___len__.ok (k := 0) sc_Run___len__ (fun vs H Q E h => ?_) (fun cdv A fr s H vs Q E hr h => ?_)
  · obtain ⟨B, R, n, sch, mks, l, rfl, ⟨hv, W, wf, xs, cs, rp, C⟩, q⟩ := h
    rfl
  · obtain ⟨B, R, n, sch, mks, l, rfl, ⟨hv, W, wf, xs, cs, rp, C⟩, q⟩ := h
    refine ⟨_, (pss_one (ps_ret (pe_callB cr_len (by rfl) m.n_len (by decide +kernel) (pa_cons (pe_fld (pe_fld (pv 0) rfl) rfl) pa_nil)))), ?_⟩
    have L := walk_front.mp C.led
    unfold runO at L
    walk_at "vc"
    refine FldK.of L (by walk_at "mem") m.C_Run m.x_Run__walk (v := .ref W.w) (by walk_at "fs") ?_
    walk_at "vc"
    have LW := C.led
    unfold walkL walkO at LW
    refine FldK.of LW (by walk_at "mem") m.C_Walk m.x_Walk_steps (v := .ref W.sl) (by walk_at "fs") ?_
    walk_at "vc"
    refine LenK.ofL (LW.lstAt (by walk_at "mem")) ?_
    rw [nv_len]
    exact q
/-! cut Run_process_count -/
def sp_Run_process_count (K : PySem.W.Frag) (d : Ad) : Sp := fun vs H Q _ => ∃ (B : Hp) (R : Rad) (n : Nat) (sch mks : List Nat) (l : List (Addr × HO)), vs = [.ref R.r] ∧ RunR d B H R n sch mks l ∧ Q (.int (n : Int)) H
theorem ok_Run_process_count (m : Mo K mg d) (sm : SM bs) : FnOk P w K mg bs CX0 1 d.a_Run_process_count d.fd_Run_process_count ["self"] (sp_Run_process_count K d) := by
  refine m.F_Run_process_count.ok (k := 0) sc_Run_process_count (fun vs H Q E h => ?_) (fun cdv A fr s H vs Q E hr h => ?_)
  · obtain ⟨B, R, n, sch, mks, l, rfl, ⟨hv, W, wf, xs, cs, rp, C⟩, q⟩ := h
    rfl
  · obtain ⟨B, R, n, sch, mks, l, rfl, ⟨hv, W, wf, xs, cs, rp, C⟩, q⟩ := h
    refine ⟨_, (pss_one (ps_ret (pe_callB cr_len (by rfl) m.n_len (by decide +kernel) (pa_cons (pe_fld (pe_fld (pv 0) rfl) rfl) pa_nil)))), ?_⟩
    have L := walk_front.mp C.led
    unfold runO at L
    walk_at "vc"
    refine FldK.of L (by walk_at "mem") m.C_Run m.x_Run__walk (v := .ref W.w) (by walk_at "fs") ?_
    walk_at "vc"
    have LW := C.led
    unfold walkL walkO at LW
    refine FldK.of LW (by walk_at "mem") m.C_Walk m.x_Walk_names (v := .ref W.nl) (by walk_at "fs") ?_
    walk_at "vc"
    refine LenK.ofL (LW.lstAt (by walk_at "mem")) ?_
    rw [Gs.names_len wf.toLn]
    exact q
/-! cut Run___eq__ -/
/-! ### one process alone changes nothing of the others -/
theorem step_other {g : Gs} {p q : Nat} (h : q ≠ p) : (g.step p).at q = g.at q ∧ (g.step p).dnAt q = g.dnAt q ∧ (g.step p).fin[q]? = g.fin[q]? := by
  rcases step_cases g p with ⟨c, _, e⟩ | ⟨_, _, e⟩ | ⟨_, _, e⟩ <;> rw [e]
  · exact ⟨gset_ne h, gset_ne h, rfl⟩
  · exact ⟨rfl, gset_ne h, List.getElem?_set_ne fun z => h z.symm⟩
  · exact ⟨rfl, gset_ne h, rfl⟩
theorem rep_other {p q : Nat} (h : q ≠ p) : ∀ (j : Nat) (g : Gs), (g.run (List.replicate j p)).at q = g.at q ∧ (g.run (List.replicate j p)).dnAt q = g.dnAt q ∧ (g.run (List.replicate j p)).fin[q]? = g.fin[q]?
  | 0, g => ⟨rfl, rfl, rfl⟩
  | j + 1, g => by
    obtain ⟨a, b, c⟩ := rep_other h j (g.step p)
    obtain ⟨a', b', c'⟩ := step_other (g := g) h
    exact ⟨a.trans a', b.trans b', c.trans c'⟩
theorem placesV_at {g : Gs} {n i : Nat} (wf : g.Ln n) (hi : i < n) : (placesV g)[i]? = some [.int (nmC (g.at i)), .int (g.dnAt i : Int)] := by
  unfold placesV
  rw [List.getElem?_map, (List.getElem?_zip_eq_some (z := (g.at i, g.dnAt i))).mpr ⟨Gs.at_get wf hi, Gs.dn_get wf hi⟩]
  rfl
def partA (p : Nat) (sch : List Nat) : Nat → Bool := fun q => decide (q = p ∨ q ∈ sch)
structure AloneF (n : Nat) (sch : List Nat) (p j : Nat) (g g' : Gs) (c : Cell) : Prop where
  one : 1 ≤ j
  cb : c.1 + c.2 < (List.range n).countP (partA p sch)
  ab : (g.at p).1 + (g.at p).2 < (List.range n).countP (partA p sch)
  st : j + g.dnAt p + 4 * ((g.at p).1 + (g.at p).2) ≤ 4 * (List.range n).countP (partA p sch)
  cn : (List.range n).countP (partA p sch) ≤ n
  nm : V.int (nmC c) ∉ g.names
  nn : g'.names = g.names.set p (.int (nmC c))
  pl : placesV g' = (placesV g).set p [.int (nmC c), .int 4]
theorem alone_facts {n p j : Nat} {sch : List Nat} (hv : GVal (Gs.init n) sch) (ok : ((Gs.init n).run sch).Ok p) (hv2 : GVal ((Gs.init n).run sch) (List.replicate j p)) (hf : ((Gs.init n).run (sch ++ List.replicate j p)).fin[p]? = some true) :
    AloneF n sch p j ((Gs.init n).run sch) ((Gs.init n).run (sch ++ List.replicate j p)) (((Gs.init n).run (sch ++ List.replicate j p)).at p) := by
  have wf : ((Gs.init n).run sch).Wf n := hv.wf (Gs.init_wf n)
  have hp := ok.lt wf
  have app : ∀ {l : List Nat} {g : Gs}, GVal g l → GVal (g.run l) (List.replicate j p) → GVal g (l ++ List.replicate j p) := fun {l} => by
    induction l with
    | nil => intro g _ h; exact h
    | cons a r ih => intro g h1 h2; exact ⟨h1.1, ih h1.2 h2⟩
  have hv3 := app hv hv2
  have wf' : ((Gs.init n).run (sch ++ List.replicate j p)).Wf n := hv3.wf (Gs.init_wf n)
  have hA : ∀ q ∈ sch ++ List.replicate j p, partA p sch q = true := fun q hq => by
    rcases List.mem_append.mp hq with z | z
    · exact decide_eq_true (Or.inr z)
    · exact decide_eq_true (Or.inl (List.eq_of_mem_replicate z))
  have hAp : partA p sch p = true := decide_eq_true (Or.inl rfl)
  have h1 := grid_nearA hv (fun q hq => hA q (List.mem_append_left _ hq)) hp hAp
  have h2 := grid_nearA hv3 hA hp hAp
  have hpot := Gs.pot_rep wf hv2
  have u := grid_uq hv3
  have d4 := u.d4 p hf
  have hcn := List.countP_le_length (p := partA p sch) (l := List.range n)
  rw [List.length_range] at hcn
  rw [← grun_append] at hpot
  unfold Gs.pot at hpot
  rw [d4] at hpot
  have ro := fun (q : Nat) (h : q ≠ p) => rep_other h j ((Gs.init n).run sch)
  rw [← grun_append] at ro
  have hj : 1 ≤ j := by
    rcases Nat.eq_zero_or_pos j with z | z
    · rw [z, List.replicate_zero, List.append_nil] at hf
      rw [show ((Gs.init n).run sch).fin[p]? = some false from ok] at hf
      cases hf
    · exact z
  refine ⟨hj, h2, h1, by omega, hcn, fun hm => ?_, ?_, ?_⟩
  · obtain ⟨q, hq, e⟩ := List.mem_iff_getElem.mp hm
    have hqn : q < n := by rw [← Gs.names_len wf.toLn]; exact hq
    have h := Gs.names_at (p := q) wf.toLn hqn
    rw [List.getElem?_eq_getElem hq, e] at h
    have h := Option.some.inj h
    split at h
    · rename_i hfq
      have hqp : q ≠ p := fun z => by
        rw [z] at hfq
        rw [show ((Gs.init n).run sch).fin[p]? = some false from ok] at hfq
        cases hfq
      obtain ⟨r1, _, r3⟩ := ro q hqp
      have := u.one q p (by rw [r3]; exact hfq) hf (by rw [r1]; exact nm_inj (V.int.inj h))
      exact hqp this.symm
    · cases h
  · apply List.ext_getElem?
    intro q
    by_cases hq : q < n
    · rw [Gs.names_at wf'.toLn hq]
      by_cases e : q = p
      · subst e
        rw [if_pos hf, List.getElem?_set_self (by rw [Gs.names_len wf.toLn]; exact hq)]
      · obtain ⟨r1, _, r3⟩ := ro q e
        rw [List.getElem?_set_ne (fun z => e z.symm), Gs.names_at wf.toLn hq, r1, r3]
    · rw [List.getElem?_eq_none (by rw [Gs.names_len wf'.toLn]; omega), List.getElem?_eq_none (by rw [List.length_set, Gs.names_len wf.toLn]; omega)]
  · apply List.ext_getElem?
    intro q
    by_cases hq : q < n
    · rw [placesV_at wf'.toLn hq]
      by_cases e : q = p
      · subst e
        rw [List.getElem?_set_self (by rw [placesV_len wf.toLn]; exact hq), d4]
        rfl
      · obtain ⟨r1, r2, _⟩ := ro q e
        rw [List.getElem?_set_ne (fun z => e z.symm), placesV_at wf.toLn hq, r1, r2]
    · rw [List.getElem?_eq_none (by rw [placesV_len wf'.toLn]; omega), List.getElem?_eq_none (by rw [List.length_set, placesV_len wf.toLn]; omega)]
def sp_Run___eq__ (K : PySem.W.Frag) (d : Ad) : Sp := fun vs H Q _ => ∃ (B : Hp) (R : Rad) (n : Nat) (sch mks : List Nat) (R' : Rad) (n' : Nat) (sch' mks' : List Nat) (l : List (Addr × HO)), vs = [.ref R.r, .ref R'.r] ∧ Two d B H R n sch mks R' n' sch' mks' l ∧ ∀ H', Two d B H' R n sch mks R' n' sch' mks' l → Q (.bl (decide (n = n' ∧ sch = sch'))) H'
theorem ok_Run___eq__ (m : Mo K mg d) (sm : SM bs) (G_Run_steps_done : FnOk P w K mg bs CX0 1 d.a_Run_steps_done d.fd_Run_steps_done ["self"] (sp_Run_steps_done K d)) (G_Run_process_count : FnOk P w K mg bs CX0 1 d.a_Run_process_count d.fd_Run_process_count ["self"] (sp_Run_process_count K d)) : FnOk P w K mg bs CX0 3 d.a_Run___eq__ d.fd_Run___eq__ ["self", "other"] (sp_Run___eq__ K d) := by
  refine m.F_Run___eq__.ok (k := 2) sc_Run___eq__ (fun vs H Q E h => ?_) (fun cdv A fr s H vs Q E hr h => ?_)
  · obtain ⟨B, R, n, sch, mks, R', n', sch', mks', l, rfl, T, q⟩ := h
    rfl
  · obtain ⟨B, R, n, sch, mks, R', n', sch', mks', l, rfl, T, q⟩ := h
    refine ⟨_, (pss_cons (ps_if (pt_not (pt_val (pe_callB cr_isW (by rfl) m.n_isinstance (by decide +kernel) (pa_cons (pv 1) (pa_cons (pe_glob (v := .ref d.c_Run) rfl m.g_Run rfl) pa_nil)))))
      (pss_one (ps_ret pe_bl))
      pss_nil)
      (pss_one (ps_ret (pe_and (pe_cmpR op_eq (pe_prop (pv 0) m.C_Run m.P_Run_process_count G_Run_process_count (hr.mono (by decide)) m.b_Run_process_count .nil pass0 rfl) (pe_prop (pv 1) m.C_Run m.P_Run_process_count G_Run_process_count (hr.mono (by decide)) m.b_Run_process_count .nil pass0 rfl) (nomark _)) (pe_one (pe_cmpR (op_eqL hr.units) (pe_prop (pv 0) m.C_Run m.P_Run_steps_done G_Run_steps_done (hr.mono (by decide)) m.b_Run_steps_done .nil pass0 rfl) (pe_prop (pv 1) m.C_Run m.P_Run_steps_done G_Run_steps_done (hr.mono (by decide)) m.b_Run_steps_done .nil pass0 rfl) (nomark _))))))), ?_⟩
    walk_at "vc"
    obtain ⟨A', RR', -⟩ := T.snd
    obtain ⟨A, RR, back⟩ := T.fst
    obtain ⟨fs', e'⟩ := RR'.at
    obtain ⟨fs, e⟩ := RR.at
    refine IsWK.own m.I_Run e' ?_
    walk_at "vc"
    refine ⟨R.dx, fs, e, B, R, n, sch, mks, _, rfl, RR, R'.dx, fs', e', B, R', n', sch', mks', _, rfl, RR', rfl, ?_⟩
    by_cases hn : n = n'
    · rw [if_pos (by rw [hn])]
      refine ⟨R.dx, fs, e, B, R, n, sch, mks, _, rfl, RR, fun H1 p1 R1 => ?_⟩
      have T1 := back B H1 sch mks ((p1, .lst (nv sch)) :: l) (Same.refl B) (R1.perm List.perm_middle.symm)
      obtain ⟨A1, RR1, back1⟩ := T1.snd
      obtain ⟨fs1, e1⟩ := RR1.at
      refine ⟨R'.dx, fs1, e1, B, R', n', sch', mks', _, rfl, RR1, fun H2 p2 R2 => ?_⟩
      have T2 := back1 B H2 sch' mks' ((p2, .lst (nv sch')) :: (p1, .lst (nv sch)) :: l) (Same.refl B) (R2.perm List.perm_middle.symm)
      obtain ⟨rest, L, -⟩ := T2.front
      refine eq_nv (L.lstAt (by walk_at "mem")) (L.lstAt (by walk_at "mem")) ?_
      rw [show decide (sch = sch') = decide (n = n' ∧ sch = sch') by rw [decide_eq_decide]; exact ⟨fun z => ⟨hn, z⟩, fun z => z.2⟩]
      exact q H2 (T2.sub (.cons _ (.cons _ (.refl _))))
    · rw [if_neg (by intro z; injection z; omega)]
      rw [decide_eq_false (fun z => hn z.1)] at q
      exact q H T
/-! cut Run_play -/
def sp_Run_play (K : PySem.W.Frag) (d : Ad) : Sp := fun vs H Q _ => ∃ (B : Hp) (R : Rad) (n : Nat) (sch mks ps : List Nat) (l : List (Addr × HO)) (t : Addr), vs = [.ref R.r, .ref t] ∧ RunR d B H R n sch mks ((t, .tup (nv ps)) :: l) ∧ GVal ((Gs.init n).run sch) ps ∧ ps.length ≤ 40 ∧ mks.length ≤ 100000 ∧ sch.length + 40 ≤ 1000000 ∧
  ∀ B' H' p tv, Same B B' → RunR d B' H' R n (sch ++ ps) (if ps = [] then mks else mks ++ [sch.length]) ((p, .lst tv) :: l) → ToldR B' ((Gs.init n).run sch) ps tv → Q (.ref p) H'
theorem ok_Run_play (m : Mo K mg d) (sm : SM bs) (G_Walk_step : FnOk P w K mg bs CX0 6 d.a_Walk_step d.fd_Walk_step ["self", "process"] (sp_Walk_step K d)) (G_Walk_can_step : FnOk P w K mg bs CX0 3 d.a_Walk_can_step d.fd_Walk_can_step ["self", "process"] (sp_Walk_can_step K d)) : FnR P w K mg bs CX0 7 d.a_Run_play (starSp 1 (sp_Run_play K d)) := by
  obtain ⟨oc, od, kV, doc, pm, an, cdv, ct, osl, hfd, lk, hcd⟩ := m.F_Run_play.ex
  rw [hfd] at lk
  refine StX.fn_star (ps := ["self"]) (pv := "processes") lk hcd sc_Run_play StX.cxUp_none (StX.bind_star1 (B := fun l => bindArgs _ ⟨l, []⟩) (fun _ => rfl) (fun _ _ _ => rfl)) (fun A fr s H vs Q E hr h => ?_)
  · obtain ⟨B, R, n, sch, mks, ps, l, t, rfl, ⟨hv, W, wf, xs, cs, rp, C⟩, hps, hpl, hml, hm, q⟩ := h
    refine nox_of ?_
    refine ⟨_, (pss_cons (ps_asg (pe_callB cr_len (by rfl) m.n_len (by decide +kernel) (pa_cons (pe_fld (pe_fld (pv 0) rfl) rfl) pa_nil)) (pg_name (i := 2) sc_Run_play.nd rfl (.inl rfl)))
      (pss_cons (ps_asg (pe_lst pa_nil) (pg_name (i := 3) sc_Run_play.nd rfl (.inl rfl)))
      (pss_cons (ps_for PassesOwn.never rfl (pi_tup (pv 1)) (pg_name (i := 4) sc_Run_play.nd rfl (.inl rfl))
      (pss_cons (ps_if (pt_not (pt_val (pe_meth (pe_fld (pv 0) rfl) m.C_Walk m.M_Walk_can_step G_Walk_can_step (hr.mono (by decide)) m.b_Walk_can_step .nil pass0 (pa_cons (pv 4) pa_nil))))
      (pss_cons ps_never
      (pss_one ps_never))
      pss_nil)
      (pss_one (ps_expr (pe_bm PySem.F.plainAttrs_list PySem.F.slot_list_append PySem.F.type_list_append mt_append (pv 3) (pa_cons (pe_meth (pe_fld (pv 0) rfl) m.C_Walk m.M_Walk_step G_Walk_step (hr.mono (by decide)) m.b_Walk_step .nil pass0 (pa_cons (pv 4) pa_nil)) pa_nil))))))
      (pss_cons (ps_if (pt_cmpR (op_neD hr.units) (pv 3) (pe_lst pa_nil) (nomark _))
      (pss_one (ps_expr (pe_bm PySem.F.plainAttrs_list PySem.F.slot_list_append PySem.F.type_list_append mt_append (pe_fld (pv 0) rfl) (pa_cons (pv 2) pa_nil))))
      pss_nil)
      (pss_one (ps_ret (pv 3))))))), ?_⟩
    have L := walk_front.mp C.led
    unfold runO at L
    walk_at "vc"
    refine FldK.of L (by walk_at "mem") m.C_Run m.x_Run__walk (v := .ref W.w) (by walk_at "fs") ?_
    walk_at "vc"
    have LW := C.led
    unfold walkL walkO at LW
    refine FldK.of LW (by walk_at "mem") m.C_Walk m.x_Walk_steps (v := .ref W.sl) (by walk_at "fs") ?_
    walk_at "vc"
    refine LenK.ofL (LW.lstAt (by walk_at "mem")) ?_
    rw [nv_len]
    walk_at "vc"
    refine NewK.of L fun tl H1 L => ?_
    obtain ⟨B1, s1, ht, L⟩ := L.sinkM (p := t) (o := .tup (nv ps)) (by walk_at "pick")
    have tq : ∀ {B' H' : Hp} {l' : List (Addr × HO)}, Same B1 B' → Led B' H' l' → SqT K H' t (nv ps) := fun s L => .inl (.inl (L.sm _ _ (s _ _ ht)))
    refine ⟨⟨_, tq (Same.refl B1) L⟩, ?_⟩
    have R0 : RunR d B1 H1 R n sch mks ((tl, .lst []) :: l) := ⟨hv, W, wf, xs, cs, rp, ⟨C.sp.mono s1, C.rt.mono s1, C.nd, C.fr, C.ln, C.bd, C.rn, walk_front.mpr (L.sel (.cons (.tl .hd) (.cons (.tl .hd) (.cons .hd .all))))⟩⟩
    clear L C LW
    refine loop_tup (xs := nv ps) (fun i σ H' => ∃ y B' tv, σ = [some (.ref R.r), some (.ref t), some (.int (sch.length : Int)), some (.ref tl), y] ∧ Same B1 B' ∧ RunR d B' H' R n (sch ++ ps.take i) mks ((tl, .lst tv) :: l) ∧ ToldR B' ((Gs.init n).run sch) (ps.take i) tv) ⟨_, B1, [], rfl, Same.refl B1, by rw [List.take_zero, List.append_nil]; exact R0, rfl⟩ (fun i σ H' _ ⟨_, _, _, _, s, ⟨_, _, _, _, _, _, C⟩, _⟩ => tq s C.led) (fun i x σ H2 N hx h hN => ?_) (fun σ H2 h => ?_)
    · obtain ⟨y, B2, tv, rfl, s2, RR, htd⟩ := h
      obtain ⟨p, hp, rfl⟩ := nv_at hx
      have ok := hps.at hp
      have il : i < ps.length := (List.getElem?_eq_some_iff.mp hp).1
      obtain ⟨hv2, W2, WR⟩ := RR
      have ok2 : ((Gs.init n).run (sch ++ ps.take i)).Ok p := by rw [grun_append]; exact ok
      have wf2 := WR.1
      have hpn := ok2.lt wf2
      obtain ⟨_, xs2, cs2, rp2, C2⟩ := id WR
      have L := walk_front.mp C2.led
      have LW := C2.led
      unfold runO at L
      unfold walkL walkO at LW
      walk_at "vc"
      refine FldK.of L (by walk_at "mem") m.C_Run m.x_Run__walk (v := .ref W2.w) (by walk_at "fs") ?_
      walk_at "vc"
      refine MtK.of LW (by walk_at "mem") (by walk_at "fs") ?_
      refine ⟨B2, W2, _, n, p, _, _, _, rfl, WR, hpn, ?_⟩
      rw [decide_eq_true (show ((Gs.init n).run (sch ++ ps.take i)).fin[p]? = some false from ok2)]
      walk_at "vc"
      refine ⟨tyL (L.lstAt (xs := tv) (by walk_at "mem")), ?_⟩
      refine FldK.of L (by walk_at "mem") m.C_Run m.x_Run__walk (v := .ref W2.w) (by walk_at "fs") ?_
      walk_at "vc"
      refine MtK.of LW (by walk_at "mem") (by walk_at "fs") ?_
      refine ⟨B2, W2, _, n, p, _, _, _, rfl, WR, ok2, by rw [List.length_append, List.length_take]; omega, fun B3 H3 v s3 WR3 hrv => ?_⟩
      obtain ⟨wf3, xs3, cs3, rp3, C3⟩ := WR3
      have L := walk_front.mp C3.led
      have htl := htd.len
      rw [List.length_take] at htl
      walk_at "vc"
      refine AppK.of L (by walk_at "mem") (Nat.lt_of_lt_of_le (m := 100) (by omega) (by decide)) (by walk_at "put") fun H4 L => ?_
      have e1 : ps.take (i + 1) = ps.take i ++ [p] := by rw [List.take_add_one, hp]; rfl
      refine hN _ _ ⟨_, B3, tv ++ [v], rfl, s2.trans s3, ?_, ?_⟩
      · rw [e1, ← List.append_assoc]
        refine ⟨hv2.app ok2, W2, ?_, xs3, cs3, rp3, ⟨?_, ?_, C3.nd, ?_, C3.ln, ?_, ?_, ?_⟩⟩
        · rw [grun_app]; exact wf3
        · rw [grun_app]; exact C3.sp
        · rw [evsOf_app]; exact C3.rt
        · rw [grun_app]; exact C3.fr
        · rw [grun_app]; exact C3.bd
        · rw [evsOf_app]; exact C3.rn
        · rw [grun_app]; exact walk_front.mpr L
      · rw [e1]
        rw [grun_append] at hrv
        exact (htd.mono s3).app hrv
    · obtain ⟨y, B2, tv, rfl, s2, RR, htd⟩ := h
      rw [List.take_of_length_le (by rw [nv_len]; omega)] at RR htd
      obtain ⟨hv2, W2, WR⟩ := RR
      obtain ⟨wf2, xs2, cs2, rp2, C2⟩ := id WR
      have L := walk_front.mp C2.led
      unfold runO at L
      have htl := htd.len
      obtain ⟨ds, hd1, hd2⟩ := htd.dp (K := K) (H := H2) L.sm
      walk_at "vc"
      refine NewK.of L fun e0 H3 L => ?_
      refine NeD.nil (k := 2) (L.lstAt (by walk_at "mem")) ((hd1 H3 L.sm)) hd2 (by decide) (L.lstAt (by walk_at "mem")) ?_
      have hde : ds.isEmpty = ps.isEmpty := by
        have h1 := dpAll_len (hd1 H3 L.sm)
        cases ps with
        | nil => rw [List.length_nil] at htl; rw [htl] at h1; cases ds with
          | nil => rfl
          | cons _ _ => cases h1
        | cons _ _ => rw [List.length_cons] at htl; rw [htl] at h1; cases ds with
          | nil => cases h1
          | cons _ _ => rfl
      rw [hde]
      walk_at "vc"
      by_cases hps0 : ps = []
      · rw [if_neg (by rw [hps0]; decide)]
        rw [if_pos hps0] at q
        exact q B2 _ tl tv (s1.trans s2) ⟨hv2, W2, wf2, xs2, cs2, rp2, ⟨C2.sp, C2.rt, C2.nd, C2.fr, C2.ln, C2.bd, C2.rn, walk_front.mpr (L.sel (.skip .all))⟩⟩ htd
      · rw [if_pos (by cases ps with | nil => exact (hps0 rfl).elim | cons _ _ => rfl)]
        rw [if_neg hps0] at q
        refine FldK.of L (by walk_at "mem") m.C_Run m.x_Run__marks (v := .ref R.ml) (by walk_at "fs") ?_
        walk_at "vc"
        refine ⟨tyL (L.lstAt (xs := nv mks) (by walk_at "mem")), ?_⟩
        refine AppK.of L (xs := nv mks) (by walk_at "mem") (Nat.lt_of_lt_of_le (m := 1000000) (by rw [nv_len]; omega) (by decide)) (by walk_at "put") fun H4 L => ?_
        rw [← nv_app] at L
        walk_at "vc"
        exact q B2 _ tl tv (s1.trans s2) ⟨hv2, W2, wf2, xs2, cs2, rp2, ⟨C2.sp, C2.rt, C2.nd, C2.fr, C2.ln, C2.bd, C2.rn, walk_front.mpr (L.sel (.skip .all))⟩⟩ htd
/-! cut Run_step -/
def sp_Run_step (K : PySem.W.Frag) (d : Ad) : Sp := fun vs H Q _ => ∃ (B : Hp) (R : Rad) (n : Nat) (sch mks : List Nat) (p : Nat) (l : List (Addr × HO)), vs = [.ref R.r, .int (p : Int)] ∧ RunR d B H R n sch mks l ∧ ((Gs.init n).run sch).Ok p ∧ mks.length ≤ 100000 ∧ sch.length + 40 ≤ 1000000 ∧
  ∀ B' H' v, Same B B' → RunR d B' H' R n (sch ++ [p]) (mks ++ [sch.length]) l → RV B' v (resT (((Gs.init n).run sch).res p)) → Q v H'
theorem ok_Run_step (m : Mo K mg d) (sm : SM bs) (G_Run_play : FnR P w K mg bs CX0 7 d.a_Run_play (starSp 1 (sp_Run_play K d))) : FnOk P w K mg bs CX0 8 d.a_Run_step d.fd_Run_step ["self", "process"] (sp_Run_step K d) := by
  refine m.F_Run_step.ok (k := 7) sc_Run_step (fun vs H Q E h => ?_) (fun cdv A fr s H vs Q E hr h => ?_)
  · obtain ⟨B, R, n, sch, mks, p, l, rfl, RR, ok, hml, hm, q⟩ := h
    rfl
  · obtain ⟨B, R, n, sch, mks, p, l, rfl, RR, ok, hml, hm, q⟩ := h
    refine ⟨_, (pss_one (ps_ret (pe_ix ix_list (pe_methR (pv 0) m.C_Run m.M_Run_play G_Run_play (hr.mono (by decide)) pass0 (pa_cons (pv 1) pa_nil)) pe_int (fun _ _ => rfl)))), ?_⟩
    walk_at "vc"
    obtain ⟨W0, xs0, cs0, rp0, L, -⟩ := RR.split
    unfold runO at L
    refine MtK.of L (by walk_at "mem") (by walk_at "fs") ?_
    refine starSp.of [.ref R.r] [.int (p : Int)] rfl (Nat.le_trans (m := 1) (Nat.le_refl _) (by decide)) (RR.new fun t H1 RR => ?_)
    refine ⟨B, R, n, sch, mks, [p], l, t, rfl, RR, ⟨ok, trivial⟩, (by show 1 ≤ 40; decide), hml, hm, fun B' H' a tv s RR ht => ?_⟩
    obtain ⟨v, ws, rfl, hv, hw⟩ := ht
    obtain rfl : ws = [] := hw
    obtain ⟨W1, xs1, cs1, rp1, L1, -⟩ := RR.split
    walk_at "vc"
    refine IxLK.of (L1.lstAt (xs := [v]) (by walk_at "mem")) (v := v) rfl ?_
    exact q _ _ _ s (RR.sub (List.sublist_cons_self _ _)) hv
/-! cut Run__return_to -/
def sp_Run__return_to (K : PySem.W.Frag) (d : Ad) : Sp := fun vs H Q _ => ∃ (B : Hp) (R : Rad) (n : Nat) (sch mks : List Nat) (l : List (Addr × HO)) (k : Nat), vs = [.ref R.r, .int (k : Int)] ∧ RunR d B H R n sch mks l ∧ 1 ≤ n ∧ n ≤ 40 ∧ sch.length ≤ 1000000 ∧ ∀ B' H', Same B B' → RunR d B' H' R n (sch.take k) mks l → Q .non H'
theorem ok_Run__return_to (m : Mo K mg d) (sm : SM bs) (G_walk_after : FnOk P w K mg bs CX0 8 d.a_walk_after d.fd_walk_after ["count", "schedule"] (sp_walk_after K d)) (G_Run_process_count : FnOk P w K mg bs CX0 1 d.a_Run_process_count d.fd_Run_process_count ["self"] (sp_Run_process_count K d)) : FnOk P w K mg bs CX0 9 d.a_Run__return_to d.fd_Run__return_to ["self", "mark"] (sp_Run__return_to K d) := by
  refine m.F_Run__return_to.ok (k := 8) sc_Run__return_to (fun vs H Q E h => ?_) (fun cdv A fr s H vs Q E hr h => ?_)
  · obtain ⟨B, R, n, sch, mks, l, k, rfl, RR, h1, hn, hm, q⟩ := h
    rfl
  · obtain ⟨B, R, n, sch, mks, l, k, rfl, RR, h1, hn, hm, q⟩ := h
    refine ⟨_, (pss_one (ps_if (pt_cmpR op_lt (pv 1) (pe_callB cr_len (by rfl) m.n_len (by decide +kernel) (pa_cons (pe_fld (pe_fld (pv 0) rfl) rfl) pa_nil)) (nomark _))
      (pss_one (ps_fld (pv 0) (pe_call G_walk_after (hr.mono (by decide)) (by rfl) m.g_walk_after m.F_walk_after.kp m.b_walk_after .nil pass0 (pa_cons (pe_prop (pv 0) m.C_Run m.P_Run_process_count G_Run_process_count (hr.mono (by decide)) m.b_Run_process_count .nil pass0 rfl) (pa_cons (pe_slice sl_list (pe_fld (pe_fld (pv 0) rfl) rfl) po_none (po_some (pv 1))) pa_nil))) rfl))
      pss_nil)), ?_⟩
    obtain ⟨hv, W, wf, xs, cs, rp, C⟩ := id RR
    have L := walk_front.mp C.led
    unfold runO at L
    walk_at "vc"
    refine FldK.of L (by walk_at "mem") m.C_Run m.x_Run__walk (v := .ref W.w) (by walk_at "fs") ?_
    walk_at "vc"
    have LW := C.led
    unfold walkL walkO at LW
    refine FldK.of LW (by walk_at "mem") m.C_Walk m.x_Walk_steps (v := .ref W.sl) (by walk_at "fs") ?_
    walk_at "vc"
    refine LenK.ofL (LW.lstAt (by walk_at "mem")) ?_
    rw [nv_len]
    split
    · rename_i hk
      refine PropK.of L (by walk_at "mem") ?_
      refine ⟨B, R, n, sch, mks, l, rfl, RR, ?_⟩
      refine FldK.of L (by walk_at "mem") m.C_Run m.x_Run__walk (v := .ref W.w) (by walk_at "fs") ?_
      walk_at "vc"
      refine FldK.of LW (by walk_at "mem") m.C_Walk m.x_Walk_steps (v := .ref W.sl) (by walk_at "fs") ?_
      walk_at "vc"
      refine ⟨nv sch, LW.lstAt (by walk_at "mem"), ?_⟩
      rw [cut_take (α := Nat), nv_take]
      refine NewK.of L fun sl H1 L => ?_
      refine ⟨B, (sl, .lst (nv (sch.take k))) :: (R.r, .ins d.c_Run R.dx [("_walk", .ref W.w), ("_marks", .ref R.ml)]) :: (R.ml, .lst (nv mks)) :: l, n, sch.take k, sl, rfl, L.subl (List.sublist_append_left _ _), h1, hn, fun B' H' s L => L.lstAt (List.Mem.head _), hv.take k, by rw [List.length_take]; omega, fun B2 H2 W2 s2 R2 => ?_⟩
      obtain ⟨wf2, xs2, cs2, rp2, C2⟩ := R2
      have L := walk_front.mp C2.led
      walk_at "vc"
      refine StK.of L (by walk_at "mem") m.C_Run m.x_Run__walk (fs' := [("_walk", .ref W2.w), ("_marks", .ref R.ml)]) (by walk_at "fs") (by walk_at "put") fun H3 L => ?_
      exact q B2 H3 s2 ⟨hv.take k, W2, wf2, xs2, cs2, rp2, ⟨C2.sp, C2.rt, C2.nd, C2.fr, C2.ln, C2.bd, C2.rn, walk_front.mpr (L.sel (.skip .all))⟩⟩
    · rename_i hk
      have e : sch.take k = sch := List.take_of_length_le (by omega)
      rw [e] at q
      exact q B H (Same.refl B) RR
/-! cut Run_undo -/
def sp_Run_undo (K : PySem.W.Frag) (d : Ad) : Sp := fun vs H Q _ => ∃ (B : Hp) (R : Rad) (n : Nat) (sch mks : List Nat) (k : Nat) (l : List (Addr × HO)), vs = [.ref R.r] ∧ RunR d B H R n sch (mks ++ [k]) l ∧ 1 ≤ n ∧ n ≤ 40 ∧ sch.length ≤ 1000000 ∧ mks.length ≤ 1000000 ∧ ∀ B' H', Same B B' → RunR d B' H' R n (sch.take k) mks l → Q .non H'
theorem ok_Run_undo (m : Mo K mg d) (sm : SM bs) (G_Run__return_to : FnOk P w K mg bs CX0 9 d.a_Run__return_to d.fd_Run__return_to ["self", "mark"] (sp_Run__return_to K d)) : FnOk P w K mg bs CX0 10 d.a_Run_undo d.fd_Run_undo ["self"] (sp_Run_undo K d) := by
  refine m.F_Run_undo.ok (k := 9) sc_Run_undo (fun vs H Q E h => ?_) (fun cdv A fr s H vs Q E hr h => ?_)
  · obtain ⟨B, R, n, sch, mks, k, l, rfl, RR, h1, hn, hm, hml, q⟩ := h
    rfl
  · obtain ⟨B, R, n, sch, mks, k, l, rfl, RR, h1, hn, hm, hml, q⟩ := h
    refine ⟨_, (pss_cons (ps_if (pt_cmpR (op_eqL hr.units) (pe_fld (pv 0) rfl) (pe_lst pa_nil) (nomark _))
      (pss_one ps_never)
      pss_nil)
      (pss_one (ps_expr (pe_meth (pv 0) m.C_Run m.M_Run__return_to G_Run__return_to (hr.mono (by decide)) m.b_Run__return_to .nil pass0 (pa_cons (pe_bm0 PySem.F.plainAttrs_list PySem.F.slot_list_pop PySem.F.type_list_pop mt_pop (pe_fld (pv 0) rfl)) pa_nil))))), ?_⟩
    obtain ⟨W, xs, cs, rp, L, back⟩ := RR.split
    unfold runO at L
    walk_at "vc"
    refine FldK.of L (by walk_at "mem") m.C_Run m.x_Run__marks (v := .ref R.ml) (by walk_at "fs") ?_
    walk_at "vc"
    refine NewK.of L fun e0 H3 L => ?_
    refine EqL0 (L.lstAt (xs := nv (mks ++ [k])) (by walk_at "mem")) (L.lstAt (by walk_at "mem")) ?_
    rw [show (nv (mks ++ [k])).isEmpty = false from by rw [nv_app]; cases nv mks <;> rfl]
    walk_at "vc"
    refine MtK.of L (by walk_at "mem") (by walk_at "fs") ?_
    refine FldK.of L (by walk_at "mem") m.C_Run m.x_Run__marks (v := .ref R.ml) (by walk_at "fs") ?_
    refine ⟨tyL (L.lstAt (xs := nv (mks ++ [k])) (by walk_at "mem")), ?_⟩
    refine ⟨R.ml, nv (mks ++ [k]), .int (k : Int), rfl, rfl, L.at (by walk_at "mem"), by rw [nv_app, List.length_append]; simp, ?_⟩
    rw [show (nv (mks ++ [k])).dropLast = nv mks from by rw [nv_app, List.dropLast_concat]]
    have L := L.put (p := R.ml) (o' := .lst (nv mks)) (by walk_at "put")
    refine ⟨B, R, n, sch, mks, l, k, rfl, back _ _ mks (Same.refl B) (L.sel (.skip .all)), h1, hn, hm, fun B' H' s RR => q B' H' s RR⟩
/-! cut law_take -/
def sp_law_take (K : PySem.W.Frag) : Sp := fun vs H Q _ => ∃ (B : Hp) (u : Addr) (l : List (Addr × HO)) (c : Nat) (n : Int), vs = [.ref u, .int n] ∧ Urn B H u l c ∧ c < 1000000 ∧ 0 < n ∧ n < 1073741824 ∧
  ∀ H' r, Urn B H' u l (c + 1) → 0 ≤ r → r < n → Q (.int r) H'
theorem take_go {K : PySem.W.Frag} {B H : Hp} {u : Addr} {l : List (Addr × HO)} {c : Nat} {n : Int} {Q : VK} {E : XK} (U : Urn B H u l c) (hc : c < 1000000) (h0 : 0 < n) (h1 : n < 1073741824) (k : ∀ H' r, Urn B H' u l (c + 1) → 0 ≤ r → r < n → Q (.int r) H') : sp_law_take K [.ref u, .int n] H Q E :=
  ⟨B, u, l, c, n, rfl, U, hc, h0, h1, k⟩
theorem ok_law_take (m : Mo K mg d) (sm : SM bs) : Fg P w K mg bs CX0 1 d.a_law_take d.fd_law_take ["bag", "many"] (sp_law_take K) := by
  refine ok (n := 0) m.F_law_take sc_law_take (fun vs H Q E h => ?_) (fun cdv A fr s H vs Q E hg hr h => ?_)
  · obtain ⟨B, u, l, c, n, rfl, ⟨x, y, z, L, hx, hy, hy2, hz, hz2⟩, hc, hn, hn2, q⟩ := h
    rfl
  · obtain ⟨B, u, l, c, n, rfl, ⟨x, y, z, L, hx, hy, hy2, hz, hz2⟩, hc, hn, hn2, q⟩ := h
    refine ⟨_, (pss_cons (ps_if (pt_cmpR op_gt (pe_ix ix_list (pv 0) pe_int (fun _ _ => rfl)) pe_int (nomark _))
      (pss_cons (ps_asg (pe_op op_mod (pe_callTy cr_intI (by rfl) m.n_int (by decide +kernel) (pa_cons (pe_ix ix_list (pv 0) pe_int (fun _ _ => rfl)) pa_nil)) (pv 1)) (pg_name (i := 2) sc_law_take.nd rfl (.inl rfl)))
      (pss_cons (ps_asg (pe_op op_fdiv (pe_ix ix_list (pv 0) pe_int (fun _ _ => rfl)) (pv 1)) (pg_sub (pv 0) pe_int set_list))
      (pss_one (ps_ret (pv 2)))))
      pss_nil)
      (pss_cons (ps_asg (pe_op op_add (pe_ix ix_list (pv 0) pe_int (fun _ _ => rfl)) pe_int) (pg_sub (pv 0) pe_int set_list))
      (pss_cons (ps_asg (pe_op op_add (pe_op op_mul (pe_op op_add (pe_ix ix_list (pv 0) pe_int (fun _ _ => rfl)) pe_int) (pe_op op_add (pe_op op_mul pe_int (pe_ix ix_list (pv 0) pe_int (fun _ _ => rfl))) pe_int)) (pe_op op_mul (pe_op op_mul pe_int (pe_ix ix_list (pv 0) pe_int (fun _ _ => rfl))) (pe_ix ix_list (pv 0) pe_int (fun _ _ => rfl)))) (pg_name (i := 3) sc_law_take.nd rfl (.inl rfl)))
      (pss_cons (ps_asg (pe_op op_mod (pe_callTy cr_intI (by rfl) m.n_int (by decide +kernel) (pa_cons (pe_op op_mulW (pv 3) (pv 3)) pa_nil)) (pe_op op_add (pe_op op_pow pe_int pe_int) pe_int)) (pg_name (i := 3) sc_law_take.nd rfl (.inl rfl)))
      (pss_cons (ps_asg (pe_op op_mod (pe_callTy cr_intI (by rfl) m.n_int (by decide +kernel) (pa_cons (pe_op op_mulW (pv 3) (pe_op op_add (pv 3) pe_int)) pa_nil)) (pe_op op_add (pe_op op_pow pe_int pe_int) pe_int)) (pg_name (i := 3) sc_law_take.nd rfl (.inl rfl)))
      (pss_one (ps_ret (pe_op op_mod (pe_callTy cr_intI (by rfl) m.n_int (by decide +kernel) (pa_cons (pe_op op_fdiv (pv 3) pe_int) pa_nil)) (pv 1))))))))), ?_⟩
    walk_at "vc"
    refine IxLK.of (L.lstAt (by walk_at "mem")) rfl ?_
    walk_at "vc"
    split
    · refine IxLK.of (L.lstAt (by walk_at "mem")) rfl ?_
      walk_at "vc"
      refine ⟨hn, IxLK.of (L.lstAt (by walk_at "mem")) rfl ?_⟩
      walk_at "vc"
      refine ⟨by first | exact ⟨hn, hn2⟩ | exact div_w (n := 200) (by decide) hn (by omega) (by decide), SetK.of (j := 0) L (by walk_at "mem") rfl (by walk_at "put") fun H1 L1 => ?_⟩
      exact q _ _ ⟨_, _, _, L1, Int.ediv_nonneg hx (by omega), hy, hy2, hz, by omega⟩ (Int.emod_nonneg _ (by omega)) (Int.emod_lt_of_pos _ hn)
    · refine IxLK.of (L.lstAt (by walk_at "mem")) rfl ?_
      walk_at "vc"
      refine SetK.of (j := 2) L (by walk_at "mem") rfl (by walk_at "put") fun H1 L1 => ?_
      refine IxLK.of (L1.lstAt (by walk_at "mem")) rfl ?_
      walk_at "vc"
      refine IxLK.of (L1.lstAt (by walk_at "mem")) rfl ?_
      walk_at "vc"
      walk_at "sds"
      refine IxLK.of (L1.lstAt (by walk_at "mem")) rfl ?_
      walk_at "vc"
      walk_at "sds"
      refine IxLK.of (L1.lstAt (by walk_at "mem")) rfl ?_
      walk_at "vc"
      walk_at "sds"
      have hz3 : z + 1 ≤ 1000000 := by omega
      have p1 : 0 ≤ (y + 1) * (30011 * (z + 1) + 7) := Int.mul_nonneg (by omega) (by omega)
      have p2 : (y + 1) * (30011 * (z + 1) + 7) ≤ 2 ^ 150 * (30011 * 1000000 + 7) := Int.mul_le_mul (by omega) (by omega) (by omega) (by decide)
      have p3 : 0 ≤ 104729 * (z + 1) * (z + 1) := Int.mul_nonneg (by omega) (by omega)
      have p4 : 104729 * (z + 1) * (z + 1) ≤ 104729 * 1000000 * 1000000 := Int.mul_le_mul (by omega) (by omega) (by omega) (by decide)
      generalize (y + 1) * (30011 * (z + 1) + 7) = m1 at *
      generalize 104729 * (z + 1) * (z + 1) = m2 at *
      have p5 : 0 ≤ m1 + m2 ∧ m1 + m2 < 2 ^ 190 := by omega
      generalize m1 + m2 = m3 at *
      refine ⟨mul_w (n := 190) (by decide) p5.1 p5.2 p5.1 p5.2 (by decide), ?_⟩
      have p6 : 0 ≤ m3 * m3 := Int.mul_nonneg p5.1 p5.1
      generalize m3 * m3 = m4 at *
      walk_at "vc"
      walk_at "sds"
      have w0 := Int.emod_nonneg m4 (show (100000000000000000000000000000000000000037 : Int) ≠ 0 by decide)
      have w1 := Int.emod_lt_of_pos m4 (show (0 : Int) < 100000000000000000000000000000000000000037 by decide)
      generalize m4 % 100000000000000000000000000000000000000037 = a at *
      refine ⟨mul_w (n := 150) (by decide) w0 (by omega) (by omega) (by omega) (by decide), ?_⟩
      walk_at "sds"
      exact q _ _ ⟨_, _, _, L1, hx, hy, hy2, by omega, by omega⟩ (Int.emod_nonneg _ (by omega)) (Int.emod_lt_of_pos _ hn)
/-! cut law_again -/
theorem num_text {n : Nat} (hn : n < 100) : (n : Int).natAbs.log2 < 1920 := Nat.lt_of_lt_of_le (PySem.Flt.log2_lt_of (k := 140) (by decide) (by rw [Int.natAbs_natCast]; exact Nat.lt_trans hn (by decide +kernel))) (by decide)
theorem sum_nT : ∀ {sch : List Nat}, (∀ p ∈ sch, p < 100) → ((sch.map nT).map (·.length)).sum ≤ sch.length * 2
  | [], _ => Nat.le_refl _
  | p :: r, hb => by
    have h1 := nT_len (k := 2) (by decide) (show p < 10 ^ 2 from hb p List.mem_cons_self)
    have h2 := sum_nT (sch := r) (fun p hp => hb p (List.mem_cons_of_mem _ hp))
    simp only [List.map_cons, List.sum_cons, List.length_cons] at h2 ⊢
    omega
theorem run_cat2 {n : Nat} {sch : List Nat} : Str.ofString (toString (n : Int)) ++ Str.ofString " " ++ rowT sch = runT n sch := by
  refine run_cat ?_
  rw [TL.tl_append, TL.tl_append, sp1_tl, List.append_assoc]
  rfl
def sp_law_again (K : PySem.W.Frag) (d : Ad) : Sp := fun vs H Q _ => ∃ (B : Hp) (R : Rad) (n : Nat) (sch mks : List Nat) (l : List (Addr × HO)), vs = [.ref R.r] ∧ RunR d B H R n sch mks l ∧ 1 ≤ n ∧ n ≤ 40 ∧ sch.length ≤ 100000 ∧
  ∀ B' H' R', Same B B' → Two d B' H' R n sch mks R' n sch [] l → Q (.ref R'.r) H'
theorem ok_law_again (m : Mo K mg d) (sm : SM bs) (G_Run_steps_done : FnOk P w K mg bs CX0 1 d.a_Run_steps_done d.fd_Run_steps_done ["self"] (sp_Run_steps_done K d)) (G_Run_read : FnOk P w K mg bs CX0 11 d.a_Run_read d.fd_Run_read ["cls", "text"] (sp_Run_read K d)) (G_Run___len__ : FnOk P w K mg bs CX0 1 d.a_Run___len__ d.fd_Run___len__ ["self"] (sp_Run___len__ K d)) (G_Run_process_count : FnOk P w K mg bs CX0 1 d.a_Run_process_count d.fd_Run_process_count ["self"] (sp_Run_process_count K d)) : Fg P w K mg bs CX0 12 d.a_law_again d.fd_law_again ["run"] (sp_law_again K d) := by
  refine ok (n := 11) m.F_law_again sc_law_again (fun vs H Q E h => ?_) (fun cdv A fr s H vs Q E hg hr h => ?_)
  · obtain ⟨B, R, n, sch, mks, l, rfl, RR, h1n, hn, hm, q⟩ := h
    rfl
  · obtain ⟨B, R, n, sch, mks, l, rfl, RR, h1n, hn, hm, q⟩ := h
    refine ⟨_, (pss_cons (ps_asg (pe_ifExp (pt_cmpR op_gt (pe_callB (show CallR _ _ (rLenO d.c_Run (sp_Run___len__ K d)) from cr_lenO G_Run___len__ (hr.mono (by decide)) m.b_Run___len__ m.L_Run___len__.1 m.L_Run___len__.2) (by rfl) m.n_len (by decide +kernel) (pa_cons (pv 0) pa_nil)) pe_int (nomark _)) (pe_bm PySem.F.plainAttrs_str PySem.F.slot_str_join PySem.F.type_str_join mt_joinS pe_str (pa_cons (pe_lc (own := [("process", 2)]) (by rfl) sc_law_again.nd (pi_list (pe_prop (pv 0) m.C_Run m.P_Run_steps_done G_Run_steps_done (hr.mono (by decide)) m.b_Run_steps_done .nil pass0 rfl)) (blkOk_by (own := [("process", 2)]) (N := ["run", "text", "process"]) (sc := defScope s_law_again) (by decide +kernel)) (fun _ _ _ _ _ => by exact (pg_name (i := 2) sc_law_again.nd rfl (.inl rfl))) (fun _ _ _ _ _ => by exact pts_nil) (fun _ _ _ _ _ => by exact (pe_callTy (show CallR _ _ rStrI from cr_strI) (by rfl) m.n_str (by decide +kernel) (pa_cons (pv 2) pa_nil)))) pa_nil)) pe_str) (pg_name (i := 1) sc_law_again.nd rfl (.inl rfl)))
      (pss_one (ps_ret (ClX.pe_cmeth (pe_glob (v := .ref d.c_Run) rfl m.g_Run rfl) m.cr_Run m.cm_Run_read (fnR_of G_Run_read m.b_Run_read) (hr.mono (by decide)) pass0 (pa_cons (pe_op op_add_str (pe_op op_add_str (pe_callTy cr_strI (by rfl) m.n_str (by decide +kernel) (pa_cons (pe_prop (pv 0) m.C_Run m.P_Run_process_count G_Run_process_count (hr.mono (by decide)) m.b_Run_process_count .nil pass0 rfl) pa_nil)) pe_str) (pv 1)) pa_nil))))), ?_⟩
    obtain ⟨fs, e⟩ := RR.at
    have hv := RR.1
    have hb := gval_small hn hv
    have hlen := row_len hb hm
    have hn2 := nT_len (k := 2) (by decide) (show n < 10 ^ 2 by omega)
    have hn2 : (Str.ofString (toString (n : Int))).length ≤ 2 := hn2
    have fin : ∀ H1, RunR d B H1 R n sch mks l → (Str.ofString (toString (n : Int))).length + (Str.ofString " ").length ≤ sizeLine ∧ (Str.ofString (toString (n : Int)) ++ Str.ofString " ").length + (rowT sch).length ≤ sizeLine ∧ sp_Run_read K d [V.ref d.c_Run, V.str (Str.ofString (toString (n : Int)) ++ Str.ofString " " ++ rowT sch)] H1 Q E0 := fun H1 RR => by
      have h1 : (Str.ofString " ").length = 1 := rfl
      refine ⟨Nat.le_trans (m := 3) (by omega) (by decide), Nat.le_trans (m := 300010) (by rw [strLen_append]; omega) (by decide), ?_⟩
      obtain ⟨W, xs, cs, rp, F, L⟩ := RunR.view.mp RR
      refine ⟨B, _, n, sch, by rw [run_cat2], L, h1n, hn, hv, by omega, fun B2 H2 R2 s2 RR2 => ?_⟩
      obtain ⟨W2, xs2, cs2, rp2, F2, L2⟩ := RunR.view.mp RR2
      exact q B2 H2 R2 s2 (Two.swap ⟨W2, xs2, cs2, rp2, W, xs, cs, rp, F2, F.mono s2, L2⟩)
    walk_at "vc"
    refine ⟨R.dx, fs, e, B, R, n, sch, mks, l, rfl, RR, sch.length, rfl, Nat.lt_of_le_of_lt hm (by decide), ?_⟩
    by_cases h0 : sch = []
    · subst h0
      rw [if_neg (by decide)]
      refine ⟨R.dx, fs, e, B, R, n, [], mks, l, rfl, RR, ?_⟩
      walk_at "vc"
      exact ⟨num_text (by omega), fin _ RR⟩
    · have hp : 0 < sch.length := List.length_pos_iff.mpr h0
      rw [if_pos (by omega)]
      refine ⟨R.dx, fs, e, B, R, n, sch, mks, l, rfl, RR, fun H1 p1 R1 => ?_⟩
      obtain ⟨rest, L, back⟩ := R1.front
      refine ⟨p1, rfl, ⟨_, L.lstAt (by walk_at "mem")⟩, ?_⟩
      refine comp_list (xs := nv sch) (fun j z acc H' => acc = ((sch.take j).map nT).map V.str ∧ Led B H' ((z, .lst acc) :: (p1, .lst (nv sch)) :: l ++ rest)) (fun z hz => ⟨rfl, L.new hz⟩) (fun j z acc H' h => h.2.lstAt (by walk_at "mem")) ?_ ?_
      · rintro z acc H2 ⟨rfl, L⟩
        rw [nv_len, List.take_of_length_le (Nat.le_refl _)] at L
        have hsum := sum_nT hb
        walk_at "vc"
        refine ⟨sch.map nT, Or.inl (L.lstAt (by walk_at "mem")), ?_, ?_⟩
        · rw [List.length_map, show (Str.ofString ",").length = 1 from rfl]
          omega
        · rw [show Txt.join (Str.ofString ",") (sch.map nT) = rowT sch from (if_neg h0).symm]
          have R2 := back B H2 l (Same.refl B) (L.subl (.cons _ (.cons _ (.refl _))))
          obtain ⟨fs2, e2⟩ := R2.at
          refine ⟨R.dx, fs2, e2, B, R, n, sch, mks, l, rfl, R2, ?_⟩
          walk_at "vc"
          exact ⟨num_text (by omega), fin _ R2⟩
      · rintro j z acc H2 x N hx ⟨rfl, L⟩ hN
        obtain ⟨p, hp, rfl⟩ := nv_at hx
        have hpb := hb p (List.mem_of_getElem? hp)
        have hjl : j < sch.length := (List.getElem?_eq_some_iff.mp hp).1
        unfold TurnK
        walk_at "vc"
        refine ⟨num_text hpb, ?_⟩
        refine AppK.of L (by walk_at "mem") (Nat.lt_of_lt_of_le (m := 200001) (by rw [List.length_map, List.length_map, List.length_take]; omega) (by decide)) (by walk_at "put") fun H4 L => hN _ _ ⟨?_, L⟩
        rw [List.take_add_one, hp, List.map_append, List.map_append]
        rfl
/-! cut law_stands -/
def placesI (g : Gs) : List (List Int) := (g.pos.zip g.dn).map fun e => [nmC e.1, (e.2 : Int)]
theorem placesV_I (g : Gs) : placesV g = (placesI g).map fun t => t.map V.int := by
  unfold placesV placesI
  rw [List.map_map]
  rfl
theorem eq_places {K : PySem.W.Frag} {B H : Hp} {a b : Addr} {xs ys : List V} {g : Gs} {Q : VK} (s : Same B H) (h : SqL K H a xs) (h2 : SqL K H b ys) (t : Tups B xs (placesV g)) (t2 : Tups B ys (placesV g)) (q : Q (.bl true) H) : rEqL K (.ref a) (.ref b) H Q := by
  rw [placesV_I] at t t2
  exact eq_dat (.lst h (dp_tups s t)) (.lst h2 (dp_tups s t2)) (eqd_tupD (placesI g)) (by decide) q
def sp_law_stands (K : PySem.W.Frag) (d : Ad) : Sp := fun vs H Q _ => ∃ (B : Hp) (R : Rad) (n : Nat) (sch mks : List Nat) (l : List (Addr × HO)) (pa na sa : Addr) (out : List V), vs = [.ref R.r, .ref pa, .ref na, .ref sa] ∧ RunR d B H R n sch mks l ∧ n ≤ 40 ∧ sch.length ≤ 100000 ∧
  (pa, HO.lst out) ∈ l ∧ Tups B out (placesV ((Gs.init n).run sch)) ∧ (na, HO.lst ((Gs.init n).run sch).names) ∈ l ∧ (sa, HO.lst (nv sch)) ∈ l ∧ ∀ B' H', Same B B' → RunR d B' H' R n sch mks l → Q (.bl true) H'
theorem ok_law_stands (m : Mo K mg d) (sm : SM bs) (G_Run_places_now : FnOk P w K mg bs CX0 5 d.a_Run_places_now d.fd_Run_places_now ["self"] (sp_Run_places_now K d)) (G_Run_names_now : FnOk P w K mg bs CX0 1 d.a_Run_names_now d.fd_Run_names_now ["self"] (sp_Run_names_now K d)) (G_Run_steps_done : FnOk P w K mg bs CX0 1 d.a_Run_steps_done d.fd_Run_steps_done ["self"] (sp_Run_steps_done K d)) : Fg P w K mg bs CX0 7 d.a_law_stands d.fd_law_stands ["run", "places", "names", "steps"] (sp_law_stands K d) := by
  refine ok (n := 6) m.F_law_stands sc_law_stands (fun vs H Q E h => ?_) (fun cdv A fr s H vs Q E hg hr h => ?_)
  · obtain ⟨B, R, n, sch, mks, l, pa, na, sa, out, rfl, RR, hn, hm, hpa, hto, hna, hsa, q⟩ := h
    rfl
  · obtain ⟨B, R, n, sch, mks, l, pa, na, sa, out, rfl, RR, hn, hm, hpa, hto, hna, hsa, q⟩ := h
    refine ⟨_, (pss_one (ps_ret (pe_and (pe_cmpR (op_eqL hr.units) (pe_prop (pv 0) m.C_Run m.P_Run_places_now G_Run_places_now (hr.mono (by decide)) m.b_Run_places_now .nil pass0 rfl) (pv 1) (nomark _)) (pe_and (pe_cmpR (op_eqL hr.units) (pe_prop (pv 0) m.C_Run m.P_Run_names_now G_Run_names_now (hr.mono (by decide)) m.b_Run_names_now .nil pass0 rfl) (pv 2) (nomark _)) (pe_one (pe_cmpR (op_eqL hr.units) (pe_prop (pv 0) m.C_Run m.P_Run_steps_done G_Run_steps_done (hr.mono (by decide)) m.b_Run_steps_done .nil pass0 rfl) (pv 3) (nomark _))))))), ?_⟩
    obtain ⟨fs, e⟩ := RR.at
    have wf := hWf RR
    walk_at "vc"
    refine ⟨R.dx, fs, e, B, R, n, sch, mks, l, rfl, RR, hn, by omega, fun B1 H1 p1 o1 s1 R1 ht1 => ?_⟩
    have L := R1.led
    refine eq_places (g := (Gs.init n).run sch) L.sm (L.lstAt (.head _)) (L.lstAt (.tail _ hpa)) ht1 (hto.mono s1) ?_
    refine ⟨true, rfl, ?_⟩
    rw [if_pos rfl]
    have R1 := R1.sub (List.sublist_cons_self _ _)
    obtain ⟨fs1, e1⟩ := R1.at
    refine ⟨R.dx, fs1, e1, B1, R, n, sch, mks, l, rfl, R1, fun H2 p2 R2 => ?_⟩
    have L := R2.led
    refine eq_plain (L.lstAt (.head _)) (L.lstAt (.tail _ hna)) (names_plain wf.toLn) ?_
    refine ⟨true, rfl, ?_⟩
    rw [if_pos rfl]
    have R2 := R2.sub (List.sublist_cons_self _ _)
    obtain ⟨fs2, e2⟩ := R2.at
    refine ⟨R.dx, fs2, e2, B1, R, n, sch, mks, l, rfl, R2, fun H3 p3 R3 => ?_⟩
    have L := R3.led
    refine eq_nv (L.lstAt (.head _)) (L.lstAt (.tail _ hsa)) ?_
    rw [decide_eq_true rfl]
    exact q B1 H3 s1 (R3.sub (List.sublist_cons_self _ _))
/-! cut law_steps_alone -/
theorem res_stop {g : Gs} {n p : Nat} (wf : g.Wf n) (ok : g.Ok p) : ((g.step p).fin[p]? = some true ∧ g.res p = .stop (g.at p) ∧ (g.step p).at p = g.at p) ∨ ((g.step p).Ok p ∧ ∀ c, g.res p ≠ .stop c) := by
  have hp := ok.lt wf
  have h3 : p < g.fin.length := by rw [wf.lf]; exact hp
  cases hr : g.res p with
  | stop c =>
    have h := res_facts hr
    refine Or.inl ⟨?_, by rw [← h.2.1], ?_⟩
    · unfold Gs.step; rw [hr]; exact List.getElem?_set_self h3
    · unfold Gs.step; rw [hr]; rfl
  | non => exact Or.inr ⟨by unfold Gs.step; rw [hr]; exact ok, fun c z => (by cases z)⟩
  | right c => exact Or.inr ⟨by unfold Gs.step; rw [hr]; exact ok, fun c z => (by cases z)⟩
  | down c => exact Or.inr ⟨by unfold Gs.step; rw [hr]; exact ok, fun c z => (by cases z)⟩
theorem grun_rep (g : Gs) (i p : Nat) : g.run (List.replicate (i + 1) p) = (g.run (List.replicate i p)).step p := by
  rw [List.replicate_succ', grun_app]
def sp_law_steps_alone (K : PySem.W.Frag) (d : Ad) : Sp := fun vs H Q _ => ∃ (B : Hp) (R : Rad) (n : Nat) (sch mks : List Nat) (l : List (Addr × HO)) (p j : Nat), vs = [.ref R.r, .int (p : Int), .int (j : Int), .int (nmC (((Gs.init n).run (sch ++ List.replicate j p)).at p))] ∧ RunR d B H R n sch mks l ∧
  GVal ((Gs.init n).run sch) (List.replicate j p) ∧ ((Gs.init n).run (sch ++ List.replicate j p)).fin[p]? = some true ∧ 1 ≤ j ∧ j ≤ 1000 ∧ mks.length ≤ 1000 ∧ sch.length ≤ 100000 ∧
  ∀ B' H' mk, Same B B' → RunR d B' H' R n (sch ++ List.replicate j p) mk l → Q (.bl true) H'
theorem ok_law_steps_alone (m : Mo K mg d) (sm : SM bs) (G_Run_step : FnOk P w K mg bs CX0 8 d.a_Run_step d.fd_Run_step ["self", "process"] (sp_Run_step K d)) : Fg P w K mg bs CX0 9 d.a_law_steps_alone d.fd_law_steps_alone ["other", "process", "added", "found"] (sp_law_steps_alone K d) := by
  refine ok (n := 8) m.F_law_steps_alone sc_law_steps_alone (fun vs H Q E h => ?_) (fun cdv A fr s H vs Q E hg hr h => ?_)
  · obtain ⟨B, R, n, sch, mks, l, p, j, rfl, RR, hv, hf, h1j, hj, hmk, hm, q⟩ := h
    rfl
  · obtain ⟨B, R, n, sch, mks, l, p, j, rfl, RR, hv, hf, h1j, hj, hmk, hm, q⟩ := h
    refine ⟨_, (pss_cons (ps_asg pe_non (pg_name (i := 4) sc_law_steps_alone.nd rfl (.inl rfl)))
      (pss_cons (ps_for PassesOwn.never rfl (pi_range1 (by rfl) m.n_range (pa_cons (pv 2) pa_nil)) (pg_name (i := 5) sc_law_steps_alone.nd rfl (.inl rfl))
      (pss_cons (ps_asg (pe_meth (pv 0) m.C_Run m.M_Run_step G_Run_step (hr.mono (by decide)) m.b_Run_step .nil pass0 (pa_cons (pv 1) pa_nil)) (pg_name (i := 4) sc_law_steps_alone.nd rfl (.inl rfl)))
      (pss_one (ps_if (PW.pt (pw_and (pt_cmpR op_notN (pv 4) pe_non (nomark _)) (pw_and1 (pt_cmpR op_ne (pe_cmpR op_eq (pe_ix ix_tup (pv 4) pe_int (fun _ _ => rfl)) pe_str (nomark _)) (pe_cmpR op_eq (pv 5) (pe_op op_sub (pv 2) pe_int) (nomark _)) (nomark _)))))
      (pss_one (ps_ret pe_bl))
      pss_nil))))
      (pss_one (ps_ret (pe_cmpR (op_eqD hr.units) (pv 4) (pe_tup (pa_cons pe_str (pa_cons (pv 3) pa_nil))) (nomark _)))))), ?_⟩
    walk_at "vc"
    refine ⟨by omega, by omega, ?_⟩
    refine loop_range (fun i σ H' => ∃ v y B' mk, σ = [some (.ref R.r), some (.int (p : Int)), some (.int (j : Int)), some (.int (nmC (((Gs.init n).run (sch ++ List.replicate j p)).at p))), some v, y] ∧ Same B B' ∧ RunR d B' H' R n (sch ++ List.replicate i p) mk l ∧ mk.length = mks.length + i ∧ (i = j → ∃ t, v = .ref t ∧ B' t = some (.tup [.str "stop", .int (nmC (((Gs.init n).run (sch ++ List.replicate j p)).at p))])))
      ⟨_, _, B, mks, rfl, Same.refl B, by rw [List.replicate_zero, List.append_nil]; exact RR, rfl, fun z => by omega⟩ (fun i σ H1 N hi h hN => ?_) (fun σ H1 h => ?_)
    · obtain ⟨v, y, B1, mk, rfl, s1, R1, hmk1, -⟩ := h
      have wf1 := hWf R1
      have ok : ((Gs.init n).run (sch ++ List.replicate i p)).Ok p := by
        have := hv.at (i := i) (p := p) (by rw [List.getElem?_replicate, if_pos (by omega)])
        rw [List.take_replicate, Nat.min_eq_left (by omega)] at this
        rw [grun_append]
        exact this
      obtain ⟨W0, xs0, cs0, rp0, L, -⟩ := R1.split
      unfold runO at L
      walk_at "vc"
      refine MtK.of L (by walk_at "mem") (by walk_at "fs") ?_
      refine ⟨B1, R, n, _, mk, p, l, rfl, R1, ok, by omega, by rw [List.length_append, List.length_replicate]; omega, fun B2 H2 v2 s2 R2 hv2 => ?_⟩
      have e1 : sch ++ List.replicate (i + 1) p = sch ++ List.replicate i p ++ [p] := by rw [List.replicate_succ', List.append_assoc]
      have eg : (Gs.init n).run (sch ++ List.replicate (i + 1) p) = ((Gs.init n).run (sch ++ List.replicate i p)).step p := by rw [e1, grun_app]
      have hmk2 : (mk ++ [(sch ++ List.replicate i p).length]).length = mks.length + (i + 1) := by rw [List.length_append, hmk1]; rfl
      have R2' : RunR d B2 H2 R n (sch ++ List.replicate (i + 1) p) (mk ++ [(sch ++ List.replicate i p).length]) l := by rw [e1]; exact R2
      have notS : ∀ (w : Str) (t : Addr) (c : Cell), w ≠ Str.ofString "stop" → B2 t = some (.tup [.str w, .int (nmC c)]) → ¬ (i + 1 = j) → (if (!decide (V.ref t = V.non)) = true then rIxT K (.ref t) (V.int 0) H2 fun x_1 H1 => scal x_1 (V.str (Str.ofString "stop")) = true ∧ if (!decide (decide (x_1 = V.str (Str.ofString "stop")) = decide ((i : Int) = (j : Int) - 1))) = true then Q (V.bl false) H1 else N [some (V.ref R.r), some (V.int ↑p), some (V.int ↑j), some (V.int (nmC (((Gs.init n).run (sch ++ List.replicate j p)).at p))), some (.ref t), some (V.int ↑i)] H1 else N [some (V.ref R.r), some (V.int ↑p), some (V.int ↑j), some (V.int (nmC (((Gs.init n).run (sch ++ List.replicate j p)).at p))), some (.ref t), some (V.int ↑i)] H2) := fun w t c hw ht hij => by
        rw [if_pos (by rw [decide_eq_false (by intro z; cases z)]; rfl)]
        refine x_ixT.mpr (IxTK.of (.inl (.inl (R2.led.sm _ _ ht))) (v := .str w) rfl ?_)
        refine ⟨rfl, ?_⟩
        rw [decide_eq_false (show ¬ (V.str w = V.str (Str.ofString "stop")) from fun z => hw (V.str.inj z)), decide_eq_false (show ¬ ((i : Int) = (j : Int) - 1) by omega), if_neg (by decide)]
        exact hN _ _ ⟨_, _, B2, _, rfl, s1.trans s2, R2', hmk2, fun z => (hij z).elim⟩
      rcases res_stop wf1 ok with ⟨z1, z2, z3⟩ | ⟨z1, z2⟩
      · have hij : i + 1 = j := by
          by_cases c : i + 1 < j
          · have := hv.at (i := i + 1) (p := p) (by rw [List.getElem?_replicate, if_pos c])
            rw [List.take_replicate, Nat.min_eq_left (by omega), ← grun_append, eg] at this
            rw [show _ = some false from this] at z1
            cases z1
          · omega
        rw [z2] at hv2
        obtain ⟨t, rfl, ht⟩ := hv2
        have eat : ((Gs.init n).run (sch ++ List.replicate j p)).at p = ((Gs.init n).run (sch ++ List.replicate i p)).at p := by rw [← hij, eg, z3]
        rw [← eat] at ht
        dsimp only
        rw [if_pos (by rw [decide_eq_false (by intro z; cases z)]; rfl)]
        refine x_ixT.mpr (IxTK.of (.inl (.inl (R2.led.sm _ _ ht))) (v := .str "stop") rfl ?_)
        refine ⟨rfl, ?_⟩
        rw [decide_eq_true (show V.str "stop" = V.str (Str.ofString "stop") from rfl), decide_eq_true (show ((i : Int) = (j : Int) - 1) by omega), if_neg (by decide)]
        exact hN _ _ ⟨_, _, B2, _, rfl, s1.trans s2, R2', hmk2, fun _ => ⟨t, rfl, ht⟩⟩
      · have hij : ¬ i + 1 = j := fun z => by
          rw [← z, eg] at hf
          rw [show _ = some false from z1] at hf
          cases hf
        cases hr : ((Gs.init n).run (sch ++ List.replicate i p)).res p with
        | stop c => exact (z2 c hr).elim
        | non =>
          rw [hr] at hv2
          rw [show v2 = V.non from hv2]
          dsimp only
          rw [if_neg (by decide)]
          exact hN _ _ ⟨_, _, B2, _, rfl, s1.trans s2, R2', hmk2, fun z => (hij z).elim⟩
        | right c =>
          rw [hr] at hv2
          obtain ⟨t, rfl, ht⟩ := hv2
          exact notS "right" t c (by decide +kernel) ht hij
        | down c =>
          rw [hr] at hv2
          obtain ⟨t, rfl, ht⟩ := hv2
          exact notS "down" t c (by decide +kernel) ht hij
    · obtain ⟨v, y, B1, mk, rfl, s1, R1, hmk1, ht⟩ := h
      obtain ⟨t, rfl, ht2⟩ := ht (by omega)
      walk_at "vc"
      refine R1.new fun t2 H2 R2 => ?_
      have L := R2.led
      have ok2 : Eqd 2 (.tuple [.str "stop", .int (nmC (((Gs.init n).run (sch ++ List.replicate j p)).at p))]) := Eqd.tup fun x hx => by
        simp only [List.mem_cons, List.not_mem_nil, or_false] at hx
        rcases hx with w | w
        · rw [w]; exact Eqd.str _ (by decide +kernel)
        · rw [w]; exact Eqd.int _
      refine EqD.of (d := .tuple [.str "stop", .int (nmC (((Gs.init n).run (sch ++ List.replicate j p)).at p))]) (e := .tuple [.str "stop", .int (nmC (((Gs.init n).run (sch ++ List.replicate j p)).at p))]) (.tup (.inl (.inl (L.sm _ _ ht2))) (.cons (.str _) (.cons (.int _) .nil))) (.tup (L.tupAt (.head _)) (.cons (.str _) (.cons (.int _) .nil))) (ok2.sh (by decide)) (ok2.sh (by decide)) ?_
      rw [SeqAt.eqv_refl _ ok2.c]
      exact q B1 H2 mk s1 (R2.sub (List.sublist_cons_self _ _))
/-! cut law_diagonal -/
theorem range_filter_lt (t : Nat) : ∀ k, (List.range k).filter (fun i => decide (i < t)) = List.range (min k t)
  | 0 => by rw [Nat.zero_min]; rfl
  | k + 1 => by
    rw [List.range_succ, List.filter_append, range_filter_lt t k]
    by_cases h : k < t
    · rw [List.filter_cons, if_pos (by simpa using h), List.filter_nil, Nat.min_eq_left (by omega), Nat.min_eq_left (by omega), List.range_succ]
    · rw [List.filter_cons, if_neg (by simpa using h), List.filter_nil, Nat.min_eq_right (by omega), Nat.min_eq_right (by omega), List.append_nil]
theorem nm_turn {c : Cell} {i : Nat} : ((i : Int) + 1) * ((i : Int) + 2) / 2 ≤ nmC c ↔ i < c.1 + c.2 := by
  have e1 : (c.1 : Int) + c.2 = ((c.1 + c.2 : Nat) : Int) := by omega
  have h0 := tri (i : Int)
  have h9 : ((i : Int) + 1) * ((i : Int) + 1 + 1) = ((i : Int) + 1) * ((i : Int) + 2) := by rw [show (i : Int) + 1 + 1 = (i : Int) + 2 by omega]
  rw [h9] at h0
  unfold nmC
  rw [e1]
  by_cases h : i < c.1 + c.2
  · have h1 := tri_mono h
    exact ⟨fun _ => h, fun _ => by omega⟩
  · refine ⟨fun z => ?_, fun z => (h z).elim⟩
    have h2 := tri_mono (a := c.1 + c.2) (b := i + 1) (by omega)
    have h3 := tri_mono (a := i) (b := i + 1) (by omega)
    rw [show ((i + 1 : Nat) : Int) = (i : Int) + 1 by omega, h9] at h2
    omega
def sp_law_diagonal (K : PySem.W.Frag) : Sp := fun vs H Q _ => ∃ (c : Cell), vs = [.int (nmC c)] ∧ c.1 + c.2 ≤ 60 ∧ ∀ H', Same H H' → Q (.int ((c.1 + c.2 : Nat) : Int)) H'
theorem ok_law_diagonal (m : Mo K mg d) (sm : SM bs) : Fg P w K mg bs CX0 1 d.a_law_diagonal d.fd_law_diagonal ["name"] (sp_law_diagonal K) := by
  refine ok (n := 0) m.F_law_diagonal sc_law_diagonal (fun vs H Q E h => ?_) (fun cdv A fr s H vs Q E hg hr h => ?_)
  · obtain ⟨c, rfl, hc, q⟩ := h
    rfl
  · obtain ⟨c, rfl, hc, q⟩ := h
    refine ⟨_, (pss_one (ps_ret (pe_callB cr_len (by rfl) m.n_len (by decide +kernel) (pa_cons (pe_lc (own := [("turn", 1)]) (by rfl) sc_law_diagonal.nd (pi_range1 (by rfl) m.n_range (pa_cons pe_int pa_nil)) (blkOk_by (own := [("turn", 1)]) (N := ["name", "turn"]) (sc := defScope s_law_diagonal) (by decide +kernel)) (fun _ _ _ _ _ => by exact (pg_name (i := 1) sc_law_diagonal.nd rfl (.inl rfl))) (fun _ _ _ _ _ => by exact (pts_one (pt_cmpR op_le (pe_op op_fdiv (pe_op op_mul (pe_op op_add (pv 1) pe_int) (pe_op op_add (pv 1) pe_int)) pe_int) (pv 0) (nomark _)))) (fun _ _ _ _ _ => by exact (pv 1))) pa_nil)))), ?_⟩
    walk_at "vc"
    refine ⟨by omega, by omega, ?_⟩
    refine comp_range (fun j z acc H' => acc = nv ((List.range j).filter fun i => decide (i < c.1 + c.2)) ∧ Led H H' [(z, .lst acc)]) (fun z hz => ⟨rfl, (Led.nil H).new hz⟩) ?_ ?_
    · rintro z acc H' ⟨rfl, L⟩
      walk_at "vc"
      refine LenK.ofL (L.lstAt (by walk_at "mem")) ?_
      rw [nv_len, range_filter_lt, Nat.min_eq_right hc, List.length_range]
      exact q H' L.sm
    · rintro j z acc H' N hj ⟨rfl, L⟩ hN
      unfold TurnK
      walk_at "vc"
      refine ⟨by walk_at "sd", by walk_at "sd", ?_⟩
      have hf := List.length_filter_le (fun i => decide (i < c.1 + c.2)) (List.range j)
      rw [List.length_range] at hf
      rw [List.range_succ, List.filter_append] at hN
      by_cases h : j < c.1 + c.2
      · rw [if_pos (nm_turn.mpr h)]
        refine AppK.of L (by walk_at "mem") (Nat.lt_of_lt_of_le (m := 100) (by rw [nv_len]; omega) (by decide)) (by walk_at "put") fun H1 L => hN _ _ ⟨?_, L⟩
        rw [List.filter_cons, if_pos (by simpa using h), List.filter_nil, nv_app]
      · rw [if_neg (fun z => h (nm_turn.mp z))]
        refine hN _ _ ⟨?_, L⟩
        rw [List.filter_cons, if_neg (by simpa using h), List.filter_nil, List.append_nil]
/-! cut law_alone_right -/
theorem names_kind {g : Gs} {n : Nat} (wf : g.Ln n) : ∀ x ∈ g.names, x = .non ∨ ∃ k, x = .int k := fun x hx => by
  obtain ⟨i, hi, e⟩ := List.mem_iff_getElem.mp hx
  have h := Gs.names_at (p := i) wf (by rw [← Gs.names_len wf]; exact hi)
  rw [List.getElem?_eq_getElem hi, e] at h
  rw [Option.some.inj h]
  split
  · exact Or.inr ⟨_, rfl⟩
  · exact Or.inl rfl
theorem names_flat {g : Gs} {n : Nat} (wf : g.Ln n) : g.names.all flatV = true := by
  rw [List.all_eq_true]
  intro x hx
  rcases names_kind wf x hx with rfl | ⟨k, rfl⟩ <;> rfl
theorem inV_names {g : Gs} {n : Nat} {i : Int} (wf : g.Ln n) (h : V.int i ∉ g.names) : inV (.int i) g.names = false := by
  unfold inV
  rw [List.any_eq_false]
  intro x hx
  rcases names_kind wf x hx with rfl | ⟨k, rfl⟩
  · exact Bool.false_ne_true
  · intro z
    have z : (k == i) = true := z
    exact h (by rw [← beq_iff_eq.mp z]; exact hx)
theorem Two.same {d : Ad} {B H H' : Hp} {R R' : Rad} {n n' : Nat} {sch mks sch' mks' : List Nat} {l : List (Addr × HO)} (h : Two d B H R n sch mks R' n' sch' mks' l) (s : Same H H') : Two d B H' R n sch mks R' n' sch' mks' l := by
  obtain ⟨W, xs, cs, rp, W', xs', cs', rp', F, F', L⟩ := h
  exact ⟨W, xs, cs, rp, W', xs', cs', rp', F, F', L.same s⟩
theorem GVal.drop : ∀ {l : List Nat} {g : Gs} (k : Nat), GVal g l → GVal (g.run (l.take k)) (l.drop k)
  | _, _, 0, h => h
  | [], _, _ + 1, h => h
  | p :: r, g, k + 1, h => GVal.drop (l := r) (g := g.step p) k h.2
def sp_law_alone_right (K : PySem.W.Frag) (d : Ad) : Sp := fun vs H Q _ => ∃ (B : Hp) (R : Rad) (n : Nat) (sch mks : List Nat) (l : List (Addr × HO)) (p : Nat), vs = [.ref R.r, .int (p : Int)] ∧ RunR d B H R n sch mks l ∧ 1 ≤ n ∧ n ≤ 40 ∧ ((Gs.init n).run sch).Ok p ∧ mks.length ≤ 500 ∧ sch.length ≤ 90000 ∧
  ∀ B' H', Same B B' → RunR d B' H' R n sch mks l → Q (.bl true) H'
theorem ok_law_alone_right (m : Mo K mg d) (sm : SM bs) (G_Run_finish : FnOk P w K mg bs CX0 7 d.a_Run_finish d.fd_Run_finish ["self", "process"] (sp_Run_finish K d)) (G_Run_places_now : FnOk P w K mg bs CX0 5 d.a_Run_places_now d.fd_Run_places_now ["self"] (sp_Run_places_now K d)) (G_Run_names_now : FnOk P w K mg bs CX0 1 d.a_Run_names_now d.fd_Run_names_now ["self"] (sp_Run_names_now K d)) (G_Run_steps_done : FnOk P w K mg bs CX0 1 d.a_Run_steps_done d.fd_Run_steps_done ["self"] (sp_Run_steps_done K d)) (G_Run___len__ : FnOk P w K mg bs CX0 1 d.a_Run___len__ d.fd_Run___len__ ["self"] (sp_Run___len__ K d)) (G_Run___eq__ : FnOk P w K mg bs CX0 3 d.a_Run___eq__ d.fd_Run___eq__ ["self", "other"] (sp_Run___eq__ K d)) (G_Run_undo : FnOk P w K mg bs CX0 10 d.a_Run_undo d.fd_Run_undo ["self"] (sp_Run_undo K d)) (G_law_again : Fg P w K mg bs CX0 12 d.a_law_again d.fd_law_again ["run"] (sp_law_again K d)) (G_law_stands : Fg P w K mg bs CX0 7 d.a_law_stands d.fd_law_stands ["run", "places", "names", "steps"] (sp_law_stands K d)) (G_law_steps_alone : Fg P w K mg bs CX0 9 d.a_law_steps_alone d.fd_law_steps_alone ["other", "process", "added", "found"] (sp_law_steps_alone K d)) (G_law_diagonal : Fg P w K mg bs CX0 1 d.a_law_diagonal d.fd_law_diagonal ["name"] (sp_law_diagonal K)) : Fg P w K mg bs CX0 13 d.a_law_alone_right d.fd_law_alone_right ["run", "process"] (sp_law_alone_right K d) := by
  refine ok (n := 12) m.F_law_alone_right sc_law_alone_right (fun vs H Q E h => ?_) (fun cdv A fr s H vs Q E hg hr h => ?_)
  · obtain ⟨B, R, n, sch, mks, l, p, rfl, RR, h1n, hn, ok, hmk, hm, q⟩ := h
    rfl
  · obtain ⟨B, R, n, sch, mks, l, p, rfl, RR, h1n, hn, ok, hmk, hm, q⟩ := h
    refine ⟨_, (pss_cons (ps_par3 (i := 2) (j := 3) (l := 4) (by rfl) sc_law_alone_right.nd rfl rfl rfl (by decide) (by decide) (by decide) rfl rfl rfl (pa_cons (pe_prop (pv 0) m.C_Run m.P_Run_places_now G_Run_places_now (hr.mono (by decide)) m.b_Run_places_now .nil pass0 rfl) (pa_cons (pe_prop (pv 0) m.C_Run m.P_Run_names_now G_Run_names_now (hr.mono (by decide)) m.b_Run_names_now .nil pass0 rfl) (pa_cons (pe_prop (pv 0) m.C_Run m.P_Run_steps_done G_Run_steps_done (hr.mono (by decide)) m.b_Run_steps_done .nil pass0 rfl) pa_nil))) (by rfl))
      (pss_cons (ps_asg (pe_disp (pps_cons (pv 1) pe_bl pps_nil) (by rfl) (by rfl) (fun z => by cases z) (by decide)) (pg_name (i := 5) sc_law_alone_right.nd rfl (.inl rfl)))
      (pss_cons (ps_for PassesOwn.never rfl (pi_list (pv 4)) (pg_name (i := 6) sc_law_alone_right.nd rfl (.inl rfl))
      (pss_one (ps_dput (Nat.lt_of_le_of_lt (Nat.add_le_add_left (by decide) _) hr.units) (pv 5) (pv 6) pe_bl rfl)))
      (pss_cons (ps_asg (pe_ix ix_list (pv 2) (pv 1) (fun _ _ => rfl)) (show PG _ _ (gTup K 2 _) from pg_tup (by rfl) (pgs_cons (pg_name (i := 7) sc_law_alone_right.nd rfl (.inl rfl)) (pgs_cons (pg_name (i := 8) sc_law_alone_right.nd rfl (.inl rfl)) pgs_nil))))
      (pss_cons (ps_par (i := 9) (j := 10) (by rfl) sc_law_alone_right.nd rfl rfl (by decide) rfl rfl (pa_cons (pe_callB cr_lenD (by rfl) m.n_len (by decide +kernel) (pa_cons (pv 5) pa_nil)) (pa_cons (pg_call G_law_again hg (hr.mono (by decide)) (by rfl) m.g_law_again m.F_law_again.kp m.b_law_again .nil (fun _ => passG) (pa_cons (pv 0) pa_nil)) pa_nil)) (by rfl))
      (pss_cons (ps_asg (pe_meth (pv 0) m.C_Run m.M_Run_finish G_Run_finish (hr.mono (by decide)) m.b_Run_finish .nil pass0 (pa_cons (pv 1) pa_nil)) (pg_name (i := 11) sc_law_alone_right.nd rfl (.inl rfl)))
      (pss_cons (ps_if (PW.pt (pw_or (pt_val (pe_callB cr_is (by rfl) m.n_isinstance (by decide +kernel) (pa_cons (pv 11) (pa_cons (pe_bltn (v := .ty "bool") (by rfl) m.n_bool (by decide +kernel) rfl) pa_nil)))) (pw_or (pt_not (pt_val (pe_callB cr_is (by rfl) m.n_isinstance (by decide +kernel) (pa_cons (pv 11) (pa_cons (pe_bltn (v := .ty "int") (by rfl) m.n_int (by decide +kernel) rfl) pa_nil))))) (pw_or1 (pt_cmpR op_in_seq (pv 11) (pv 3) rfl)))))
      (pss_one (ps_ret pe_bl))
      pss_nil)
      (pss_cons (ps_asg (pe_op op_sub (pe_callB (show CallR _ _ (rLenO d.c_Run (sp_Run___len__ K d)) from cr_lenO G_Run___len__ (hr.mono (by decide)) m.b_Run___len__ m.L_Run___len__.1 m.L_Run___len__.2) (by rfl) m.n_len (by decide +kernel) (pa_cons (pv 0) pa_nil)) (pe_callB cr_len (by rfl) m.n_len (by decide +kernel) (pa_cons (pv 4) pa_nil))) (pg_name (i := 12) sc_law_alone_right.nd rfl (.inl rfl)))
      (pss_cons (ps_if (PW.pt (pw_or (pt_cmpR op_lt (pv 11) pe_int (nomark _)) (pw_or (pt_cmpR op_ge (pe_op op_mul pe_int (pv 11)) (pe_op op_mul (pv 9) (pe_op op_add (pv 9) pe_int)) (nomark _)) (pw_or (pt_cmpR op_lt (pv 12) pe_int (nomark _)) (pw_or1 (pt_cmpR op_gt (pv 12) (pe_op op_sub (pe_op op_mul pe_int (pe_op op_sub (pv 9) (pg_call G_law_diagonal hg (hr.mono (by decide)) (by rfl) m.g_law_diagonal m.F_law_diagonal.kp m.b_law_diagonal .nil (fun _ => passG) (pa_cons (pv 7) pa_nil)))) (pv 8)) (nomark _)))))))
      (pss_one (ps_ret pe_bl))
      pss_nil)
      (pss_cons (ps_par (i := 13) (j := 14) (by rfl) sc_law_alone_right.nd rfl rfl (by decide) rfl rfl (pa_cons (pe_callTy cr_listOf (by rfl) m.n_list (by decide +kernel) (pa_cons (pv 2) pa_nil)) (pa_cons (pe_callTy cr_listOf (by rfl) m.n_list (by decide +kernel) (pa_cons (pv 3) pa_nil)) pa_nil)) (by rfl))
      (pss_cons (ps_asg (pe_tup (pa_cons (pv 11) (pa_cons pe_int pa_nil))) (pg_sub (pv 13) (pv 1) set_list))
      (pss_cons (ps_asg (pv 11) (pg_sub (pv 14) (pv 1) set_list))
      (pss_cons (ps_if (pt_not (pt_val (pg_call G_law_stands hg (hr.mono (by decide)) (by rfl) m.g_law_stands m.F_law_stands.kp m.b_law_stands .nil (fun _ => passG) (pa_cons (pv 0) (pa_cons (pv 13) (pa_cons (pv 14) (pa_cons (pe_op op_cat (pv 4) (pe_op op_rep (pe_lst (pa_cons (pv 1) pa_nil)) (pv 12))) pa_nil)))))))
      (pss_one (ps_ret pe_bl))
      pss_nil)
      (pss_cons (ps_if (PW.pt (pw_or (pt_not (pt_val (pg_call G_law_steps_alone hg (hr.mono (by decide)) (by rfl) m.g_law_steps_alone m.F_law_steps_alone.kp m.b_law_steps_alone .nil (fun _ => passG) (pa_cons (pv 10) (pa_cons (pv 1) (pa_cons (pv 12) (pa_cons (pv 11) pa_nil))))))) (pw_or1 (pt_not (pt_cmpR (show OpR _ _ (rOEq K d.c_Run (sp_Run___eq__ K d)) from op_oeq m.Q_Run (fnR_of G_Run___eq__ m.b_Run___eq__) (hr.mono (by decide)) pass0) (pv 10) (pv 0) (nomark _))))))
      (pss_one (ps_ret pe_bl))
      pss_nil)
      (pss_one (ps_ret (pe_and (pe_cmpR op_isN (pe_meth0 (pv 0) m.C_Run m.M_Run_undo G_Run_undo (hr.mono (by decide)) m.b_Run_undo .nil pass0) pe_non (nomark _)) (pe_and (pg_call G_law_stands hg (hr.mono (by decide)) (by rfl) m.g_law_stands m.F_law_stands.kp m.b_law_stands .nil (fun _ => passG) (pa_cons (pv 0) (pa_cons (pv 2) (pa_cons (pv 3) (pa_cons (pv 4) pa_nil))))) (pe_one (pe_cmpR (show OpR _ _ (rONe K d.c_Run (sp_Run___eq__ K d)) from op_one m.Q_Run (fnR_of G_Run___eq__ m.b_Run___eq__) (hr.mono (by decide)) pass0) (pv 10) (pv 0) (nomark _))))))))))))))))))))), ?_⟩
    obtain ⟨fs, e⟩ := RR.at
    have wf := hWf RR
    have hp := ok.lt wf
    walk_at "vc"
    refine ⟨R.dx, fs, e, B, R, n, sch, mks, l, rfl, RR, hn, by omega, fun B1 H1 pa out s1 R1 hto => ?_⟩
    obtain ⟨fs1, e1⟩ := R1.at
    refine ⟨R.dx, fs1, e1, B1, R, n, sch, mks, _, rfl, R1, fun H2 na R2 => ?_⟩
    obtain ⟨fs2, e2⟩ := R2.at
    refine ⟨R.dx, fs2, e2, B1, R, n, sch, mks, _, rfl, R2, fun H3 sa R3 => ?_⟩
    refine R3.new fun ta H4 R4 => ?_
    obtain ⟨rest, L, back⟩ := R4.front
    refine DoneK.of [((Sum.inl (p : Int) : Key), .bl true)] L (.head _) rfl (show 1 ≤ 15 by decide) .hd fun H5 L => ?_
    have R5 := back B1 H5 ((ta, .dK (tookK p [])) :: (sa, .lst (nv sch)) :: (na, .lst ((Gs.init n).run sch).names) :: (pa, .lst out) :: l) (Same.refl _) L
    clear L back
    walk_at "vc"
    refine ⟨⟨_, R5.led.lstAt (.tail _ (.head _))⟩, ?_⟩
    refine loop_list (xs := nv sch) (fun i σ H' => ∃ y, σ = [some (.ref R.r), some (.int (p : Int)), some (.ref pa), some (.ref na), some (.ref sa), some (.ref ta), y, none, none, none, none, none, none, none, none] ∧ RunR d B1 H' R n sch mks ((ta, .dK (tookK p (sch.take i))) :: (sa, .lst (nv sch)) :: (na, .lst ((Gs.init n).run sch).names) :: (pa, .lst out) :: l))
      ⟨_, rfl, R5⟩ (fun i σ H' _ ⟨_, _, R5⟩ => R5.led.lstAt (.tail _ (.head _))) (fun i x σ H6 N hx h hN => ?_) (fun σ H6 h => ?_)
    · obtain ⟨y, rfl, R6⟩ := h
      obtain ⟨q1, hq1, rfl⟩ := nv_at hx
      walk_at "vc"
      have hil : i < sch.length := (List.getElem?_eq_some_iff.mp hq1).1
      obtain ⟨rest, L, back⟩ := R6.front
      refine DPutK.k (k := Sum.inl (q1 : Int)) L (.head _) (Nat.lt_of_le_of_lt (took_le p _) (Nat.lt_of_le_of_lt (m := 90001) (by rw [List.length_take]; omega) (by decide))) .hd fun H7 L => hN _ _ ⟨_, rfl, ?_⟩
      rw [← tookK_app] at L
      rw [List.take_add_one, hq1]
      exact back B1 H7 ((ta, .dK (tookK p (sch.take i ++ [q1]))) :: (sa, .lst (nv sch)) :: (na, .lst ((Gs.init n).run sch).names) :: (pa, .lst out) :: l) (Same.refl _) L
    · obtain ⟨y, rfl, R6⟩ := h
      rw [nv_len, List.take_length] at R6
      have hv := RR.1
      have htn : (tookK p sch).length = (List.range n).countP (partA p sch) := took_len (l := sch) hp (GVal.lt (Gs.init_wf n) hv)
      clear RR R1 R2 R3 R4 R5 e e1 e2 fs fs1 fs2
      obtain ⟨t, hx, ht⟩ := hto.2 p _ (placesV_at wf.toLn hp)
      walk_at "vc"
      refine IxLK.of (R6.led.lstAt (.tail _ (.tail _ (.tail _ (.head _))))) (atI_nat' hx) ?_
      walk_at "vc"
      refine UnpK.of (.inl (.inl (R6.led.sm _ _ ht))) rfl ?_
      walk_at "vc"
      refine LenDK.of R6.led (.head _) ?_
      rw [htn]
      refine ⟨B1, R, n, sch, mks, _, rfl, R6, h1n, hn, by omega, fun B7 H7 R' s7 T7 => ?_⟩
      walk_at "vc"
      obtain ⟨A1, RR, back1⟩ := T7.fst
      obtain ⟨w7, e⟩ := RR.at2
      have hto7 := hto.mono s7
      have hnear := grid_near hv hp
      refine ⟨R.dx, _, e, by walk_at "fs", ?_⟩
      refine ⟨B7, R, n, sch, mks, p, n, _, rfl, RR, ok, by omega, by omega, grid_closed hv, by omega, fun B8 H8 j s8 hj RR hf => ?_⟩
      have hv8 := RR.1
      have hv9 : GVal ((Gs.init n).run sch) (List.replicate j p) := by
        have := hv8.drop sch.length
        rw [List.take_left, List.drop_left] at this
        exact this
      obtain ⟨fj, fcb, fab, fst, fcn, fnm, fnn, fpl⟩ := alone_facts hv ok hv9 hf
      generalize hg8 : (Gs.init n).run (sch ++ List.replicate j p) = g8 at *
      generalize hM : (List.range n).countP (partA p sch) = M at *
      have T8 := back1 B8 H8 _ _ _ s8 RR
      clear RR back1 e
      have hM40 : M ≤ 40 := Nat.le_trans fcn hn
      have L8 := T8.front.choose_spec.1
      dsimp only
      walk_at "vc"
      refine ⟨_, .inl (L8.lstAt (.tail _ (.tail _ (.head _)))), rfl, ?_, ?_⟩
      · exact names_flat wf.toLn
      rw [if_neg Bool.false_ne_true, inV_names wf.toLn fnm]
      dsimp only
      rw [if_neg Bool.false_ne_true]
      obtain ⟨A8, RR, back8⟩ := T8.fst
      obtain ⟨w8, e⟩ := RR.at2
      refine ⟨R.dx, _, e, B8, R, n, _, _, _, rfl, RR, _, rfl, Nat.lt_of_le_of_lt (m := 100000) (by rw [List.length_append, List.length_replicate]; omega) (by decide), ?_⟩
      refine LenK.ofL (L8.lstAt (xs := nv sch) (.tail _ (.head _))) ?_
      rw [show (((sch ++ List.replicate j p).length : Nat) : Int) - (((nv sch).length : Nat) : Int) = (j : Int) by rw [nv_len, List.length_append, List.length_replicate]; omega]
      obtain ⟨nb1, nb2⟩ := nm_bound fcb
      rw [if_neg (by omega)]
      refine ⟨by walk_at "sd", by walk_at "sd", ?_⟩
      rw [if_neg (by omega), if_neg (by omega)]
      refine ⟨((Gs.init n).run sch).at p, rfl, by omega, fun H9 s9 => ?_⟩
      have T9 := T8.same s9
      clear T8 L8 RR back8 e w8
      walk_at "vc"
      refine ⟨by walk_at "sd", ?_⟩
      rw [if_neg (by omega)]
      obtain ⟨r9, L, back⟩ := T9.front
      refine ⟨_, .inl (L.lstAt (xs := out) (.tail _ (.tail _ (.tail _ (.head _))))), NewK.of L fun lp H1 L => ?_⟩
      refine ⟨_, .inl (L.lstAt (xs := ((Gs.init n).run sch).names) (.tail _ (.tail _ (.tail _ (.head _))))), NewK.of L fun ln H1 L => ?_⟩
      refine NewK.of L fun tt H1 L => ?_
      obtain ⟨B10, s10, htt, L⟩ := L.sink
      have hol : out.length = n := by rw [hto.1, placesV_len wf.toLn]
      refine SetK.of L (xs := out) (.tail _ (.head _)) (ixN_nat (by omega)) (.tl .hd) fun H1 L => ?_
      refine SetK.of L (xs := ((Gs.init n).run sch).names) (.head _) (ixN_nat (by rw [Gs.names_len wf.toLn]; exact hp)) .hd fun H1 L => ?_
      refine NewK.of L fun p1 H1 L => ?_
      refine RptK.of L (.head _) (by omega) fun p2 H1 L => ?_
      refine CatK.of L (xs := nv sch) (ys := List.replicate j (V.int (p : Int))) (by walk_at "mem") (by walk_at "mem") (Nat.le_trans (m := 100000) (by rw [nv_len, List.length_replicate]; omega) (by decide)) fun ls H11 L => ?_
      rw [← fnn] at L
      rw [show nv sch ++ List.replicate j (V.int (p : Int)) = nv (sch ++ List.replicate j p) by unfold nv; rw [List.map_append, List.map_replicate]] at L
      have T11 := back B10 H11 ((ls, .lst (nv (sch ++ List.replicate j p))) :: (ln, .lst g8.names) :: (lp, .lst (out.set p (.ref tt))) :: (sa, .lst (nv sch)) :: (na, .lst ((Gs.init n).run sch).names) :: (pa, .lst out) :: l) s10 (L.sel (by walk_at "sel"))
      clear L back T9
      obtain ⟨A11, RR, back11⟩ := T11.fst
      have hto8 : Tups B10 out (placesV ((Gs.init n).run sch)) := (hto7.mono s8).mono s10
      refine ⟨B10, R, n, _, _, _, lp, ln, ls, out.set p (.ref tt), rfl, RR, hn, by rw [List.length_append, List.length_replicate]; omega, List.mem_append_right _ (.tail _ (.tail _ (.head _))), ?_, by rw [hg8]; exact List.mem_append_right _ (.tail _ (.head _)), List.mem_append_right _ (.head _), fun B12 H12 s12 RR => ?_⟩
      · rw [hg8, fpl]
        exact hto8.set p htt
      have T12 := back11 B12 H12 _ _ _ s12 RR
      clear T11 back11 RR
      refine ⟨_, rfl, ?_⟩
      rw [if_neg (by decide)]
      obtain ⟨A13, RR, back13⟩ := T12.snd
      refine ⟨B12, R', n, sch, [], _, p, j, by rw [hg8], RR, hv9, by rw [hg8]; exact hf, fj, by omega, Nat.zero_le _, by omega, fun B13 H13 mk s13 RR => ?_⟩
      have T13 := back13 B13 H13 _ mk _ s13 RR
      clear T12 back13 RR
      refine ⟨_, rfl, ?_⟩
      rw [if_neg (by decide)]
      have hat : ∀ {B H : Hp} {sc mk sc' mk' : List Nat} {l : List (Addr × HO)}, Two d B H R n sc mk R' n sc' mk' l → (∃ w, H R.r = some (.ins d.c_Run R.dx [("_walk", .ref w), ("_marks", .ref R.ml)])) ∧ (∃ w, H R'.r = some (.ins d.c_Run R'.dx [("_walk", .ref w), ("_marks", .ref R'.ml)])) := fun T => by
        obtain ⟨_, a, _⟩ := T.fst
        obtain ⟨_, b, _⟩ := T.snd
        exact ⟨a.at2, b.at2⟩
      obtain ⟨⟨w1, e1⟩, ⟨w2, e2⟩⟩ := hat T13
      refine OEqK.own e2 e1 ⟨B13, R', n, _, _, R, n, _, _, _, rfl, T13.swap, fun H14 T14 => ?_⟩
      have T14 := T14.swap
      refine ⟨_, rfl, ?_⟩
      rw [decide_eq_true ⟨rfl, rfl⟩, if_neg (by decide)]
      obtain ⟨⟨w1, e1⟩, -⟩ := hat T14
      obtain ⟨A14, RR, back14⟩ := T14.fst
      refine ⟨R.dx, _, e1, by walk_at "fs", ?_⟩
      refine ⟨B13, R, n, _, mks, sch.length, _, rfl, RR, h1n, hn, by rw [List.length_append, List.length_replicate]; omega, by omega, fun B15 H15 s15 RR => ?_⟩
      rw [List.take_left] at RR
      have T15 := back14 B15 H15 _ _ _ s15 RR
      clear T13 T14 back14 RR e1 e2
      rw [if_pos rfl]
      obtain ⟨A15, RR, back15⟩ := T15.fst
      refine ⟨B15, R, n, sch, mks, _, pa, na, sa, out, rfl, RR, hn, by omega, List.mem_append_right _ (.tail _ (.tail _ (.tail _ (.tail _ (.tail _ (.head _)))))), ((hto8.mono s12).mono s13).mono s15, List.mem_append_right _ (.tail _ (.tail _ (.tail _ (.tail _ (.head _))))), List.mem_append_right _ (.tail _ (.tail _ (.tail _ (.head _)))), fun B16 H16 s16 RR => ?_⟩
      have T16 := back15 B16 H16 _ _ _ s16 RR
      refine ⟨_, rfl, ?_⟩
      rw [if_pos rfl]
      obtain ⟨⟨w1, e1⟩, ⟨w2, e2⟩⟩ := hat T16
      refine OEqK.own e2 e1 ⟨B16, R', n, _, _, R, n, _, _, _, rfl, T16.swap, fun H17 T17 => ?_⟩
      have hne : ¬ (n = n ∧ sch ++ List.replicate j p = sch) := fun z => by
        have := congrArg List.length z.2
        rw [List.length_append, List.length_replicate] at this
        omega
      refine ⟨_, rfl, ?_⟩
      rw [decide_eq_false hne]
      exact q B16 H17 (((((((s1.trans s7).trans s8).trans s10).trans s12).trans s13).trans s15).trans s16) (T17.swap.one.sub (by
        refine .cons _ (.cons _ (.cons _ (.cons _ (.cons _ (.cons _ (.refl _))))))))
/-! cut law_pick -/
def sp_law_pick (K : PySem.W.Frag) : Sp := fun vs H Q _ => ∃ (B : Hp) (u a : Addr) (l : List (Addr × HO)) (c : Nat) (xs : List V), vs = [.ref u, .ref a] ∧ Urn B H u l c ∧ c < 1000000 ∧ (a, HO.lst xs) ∈ l ∧ 0 < xs.length ∧ xs.length < 1000000 ∧
  ∀ H' x, Urn B H' u l (c + 1) → x ∈ xs → Q x H'
theorem ok_law_pick (m : Mo K mg d) (sm : SM bs) (G_law_take : Fg P w K mg bs CX0 1 d.a_law_take d.fd_law_take ["bag", "many"] (sp_law_take K)) : Fg P w K mg bs CX0 2 d.a_law_pick d.fd_law_pick ["bag", "values"] (sp_law_pick K) := by
  refine ok (n := 1) m.F_law_pick sc_law_pick (fun vs H Q E h => ?_) (fun cdv A fr s H vs Q E hg hr h => ?_)
  · obtain ⟨B, u, a, l, c, xs, rfl, U, hc, hm, h0, h1, q⟩ := h
    rfl
  · obtain ⟨B, u, a, l, c, xs, rfl, U, hc, hm, h0, h1, q⟩ := h
    refine ⟨_, (pss_one (ps_ret (pe_ix ix_list (pv 1) (pg_call G_law_take hg (hr.mono (by decide)) (by rfl) m.g_law_take m.F_law_take.kp m.b_law_take .nil (fun _ => passG) (pa_cons (pv 0) (pa_cons (pe_callB cr_len (by rfl) m.n_len (by decide +kernel) (pa_cons (pv 1) pa_nil)) pa_nil))) (fun _ _ => rfl)))), ?_⟩
    walk_at "vc"
    refine LenK.ofL (U.led.lstAt hm) ?_
    refine take_go U hc (by omega) (by omega) fun H1 r U r0 r1 => ?_
    have hr : r.toNat < xs.length := by omega
    have ha : atI xs r = some xs[r.toNat] := by rw [atI_in r0 r1]
    walk_at "vc"
    exact IxLK.of (U.led.lstAt hm) ha (q _ _ U (List.getElem_mem _))
/-! cut law_played -/
theorem GVal.distinct : ∀ {ps : List Nat} {g : Gs}, ps.Nodup → (∀ p ∈ ps, g.Ok p) → GVal g ps
  | [], _, _, _ => trivial
  | p :: r, g, nd, h => by
    obtain ⟨n1, n2⟩ := List.nodup_cons.mp nd
    refine ⟨h p List.mem_cons_self, GVal.distinct n2 fun q hq => ?_⟩
    have hqp : q ≠ p := fun z => n1 (by rw [← z]; exact hq)
    show (g.step p).fin[q]? = some false
    rw [(step_other hqp).2.2]
    exact h q (List.mem_cons_of_mem _ hq)
theorem nv_erase : ∀ (l : List Nat) (i : Nat), (nv l).eraseIdx i = nv (l.eraseIdx i)
  | [], _ => rfl
  | _ :: _, 0 => rfl
  | x :: r, i + 1 => by
    show V.int (x : Int) :: (nv r).eraseIdx i = V.int (x : Int) :: nv (r.eraseIdx i)
    rw [nv_erase r i]
/-- what is taken out is no longer there -/
theorem erase_nd : ∀ {l : List Nat} {i p : Nat}, l.Nodup → l[i]? = some p → (l.eraseIdx i).Nodup ∧ p ∉ l.eraseIdx i ∧ (∀ x ∈ l.eraseIdx i, x ∈ l) ∧ p ∈ l
  | [], _, _, _, h => by cases h
  | x :: r, 0, p, nd, h => by
    cases h
    obtain ⟨n1, n2⟩ := List.nodup_cons.mp nd
    exact ⟨n2, n1, fun x hx => List.mem_cons_of_mem _ hx, List.mem_cons_self⟩
  | x :: r, i + 1, p, nd, h => by
    obtain ⟨n1, n2⟩ := List.nodup_cons.mp nd
    obtain ⟨a1, a2, a3, a4⟩ := erase_nd (l := r) (i := i) (p := p) n2 h
    refine ⟨List.nodup_cons.mpr ⟨fun z => n1 (a3 x z), a1⟩, fun z => ?_, fun y hy => ?_, List.mem_cons_of_mem _ a4⟩
    · rcases List.mem_cons.mp z with w | w
      · exact n1 (by rw [← w]; exact a4)
      · exact a2 w
    · rcases List.mem_cons.mp hy with w | w
      · rw [w]; exact List.mem_cons_self
      · exact List.mem_cons_of_mem _ (a3 y w)
section
variable {K : PySem.W.Frag} {d : Ad} {B H : Hp} {u a : Addr} {c : Nat} {R : Rad} {n : Nat} {sch mks ls : List Nat} {l : List (Addr × HO)} {Q : VK} {E : XK}
theorem RunB.at2 (RB : RunB d B H u c R n sch mks l) : ∃ w, H R.r = some (.ins d.c_Run R.dx [("_walk", .ref w), ("_marks", .ref R.ml)]) := by
  obtain ⟨e, RR, _⟩ := RB.run
  exact RR.at2
theorem RunB.led (RB : RunB d B H u c R n sch mks l) : Led B H l := by
  obtain ⟨rest, U, _⟩ := RB.front
  exact U.led.subl (List.sublist_append_left _ _)
theorem RunB.take {k : Int} (RB : RunB d B H u c R n sch mks l) (hc : c < 1000000) (h0 : 0 < k) (h1 : k < 1073741824) (q : ∀ H' r, RunB d B H' u (c + 1) R n sch mks l → 0 ≤ r → r < k → Q (.int r) H') : sp_law_take K [.ref u, .int k] H Q E := by
  obtain ⟨rest, U, back⟩ := RB.front
  exact take_go U hc h0 h1 fun H' r U a b => q H' r (back _ _ _ _ _ (Same.refl _) U) a b
theorem RunB.pick (RB : RunB d B H u c R n sch mks l) (ha : (a, HO.lst (nv ls)) ∈ l) (hc : c < 1000000) (hne : ls ≠ []) (hl : ls.length ≤ 100) (q : ∀ H' p, RunB d B H' u (c + 1) R n sch mks l → p ∈ ls → Q (.int (p : Int)) H') : sp_law_pick K [.ref u, .ref a] H Q E := by
  obtain ⟨rest, U, back⟩ := RB.front
  refine ⟨B, u, a, _, c, nv ls, rfl, U, hc, List.mem_append_left _ ha, by rw [nv_len]; exact List.length_pos_iff.mpr hne, by rw [nv_len]; omega, fun H' x U hx => ?_⟩
  unfold nv at hx
  obtain ⟨p, hp, rfl⟩ := List.mem_map.mp hx
  exact q H' p (back _ _ _ _ _ (Same.refl _) U) hp
theorem RunB.popAt {r : Int} (RB : RunB d B H u c R n sch mks ((a, .lst (nv ls)) :: l)) (h0 : 0 ≤ r) (h1 : r < ls.length) (hl : ls.length ≤ 1000) (q : ∀ p H', ls[r.toNat]? = some p → RunB d B H' u c R n sch mks ((a, .lst (nv (ls.eraseIdx r.toNat))) :: l) → Q (.int (p : Int)) H') : rPopAt (.ref a) [.int r] H Q := by
  obtain ⟨rest, U, back⟩ := RB.front
  obtain ⟨p, hp⟩ : ∃ p, ls[r.toNat]? = some p := ⟨_, List.getElem?_eq_getElem (by omega)⟩
  refine ⟨a, nv ls, r, r.toNat, .int (p : Int), rfl, rfl, U.led.at (.head _), by omega, by omega, ?_, by unfold nv; rw [List.getElem?_map, hp]; rfl, q p _ hp (back _ _ _ _ ((a, .lst (nv (ls.eraseIdx r.toNat))) :: l) (Same.refl _) ?_)⟩
  · rw [nv_len]
    exact seqIndex_of h0 h1
  · rw [show (nv ls).eraseIdx r.toNat = nv (ls.eraseIdx r.toNat) by exact nv_erase ls _]
    exact U.put .hd
end
def sp_law_played (K : PySem.W.Frag) (d : Ad) : Sp := fun vs H Q _ => ∃ (B : Hp) (u : Addr) (c : Nat) (R : Rad) (n : Nat) (sch mks ls : List Nat) (l : List (Addr × HO)) (a : Addr), vs = [.ref u, .ref R.r, .ref a] ∧ RunB d B H u c R n sch mks l ∧ (a, HO.lst (nv ls)) ∈ l ∧ ls.Nodup ∧ (∀ p ∈ ls, ((Gs.init n).run sch).Ok p) ∧ ls ≠ [] ∧ ls.length ≤ 100 ∧ n ≤ 40 ∧ c < 950000 ∧ mks.length ≤ 500 ∧ sch.length ≤ 90000 ∧
  ∀ B' H' v ps, Same B B' → ps ≠ [] → ps.length ≤ 3 → RunB d B' H' u (c + 3) R n (sch ++ ps) (mks ++ [sch.length]) l → Q v H'
theorem ok_law_played (m : Mo K mg d) (sm : SM bs) (G_Run_play : FnR P w K mg bs CX0 7 d.a_Run_play (starSp 1 (sp_Run_play K d))) (G_law_take : Fg P w K mg bs CX0 1 d.a_law_take d.fd_law_take ["bag", "many"] (sp_law_take K)) (G_law_pick : Fg P w K mg bs CX0 2 d.a_law_pick d.fd_law_pick ["bag", "values"] (sp_law_pick K)) : Fg P w K mg bs CX0 8 d.a_law_played d.fd_law_played ["bag", "run", "left"] (sp_law_played K d) := by
  refine ok (n := 7) m.F_law_played sc_law_played (fun vs H Q E h => ?_) (fun cdv A fr s H vs Q E hg hr h => ?_)
  · obtain ⟨B, u, c, R, n, sch, mks, ls, l, a, rfl, RB, ha, hnd, hok, hne, hll, hn, hc, hmk, hm, q⟩ := h
    rfl
  · obtain ⟨B, u, c, R, n, sch, mks, ls, l, a, rfl, RB, ha, hnd, hok, hne, hll, hn, hc, hmk, hm, q⟩ := h
    refine ⟨_, (pss_cons (ps_asg (pe_callTy cr_listOf (by rfl) m.n_list (by decide +kernel) (pa_cons (pv 2) pa_nil)) (pg_name (i := 3) sc_law_played.nd rfl (.inl rfl)))
      (pss_cons (ps_asg (pe_bm PySem.F.plainAttrs_list PySem.F.slot_list_pop PySem.F.type_list_pop mt_popAt (pv 3) (pa_cons (pg_call G_law_take hg (hr.mono (by decide)) (by rfl) m.g_law_take m.F_law_take.kp m.b_law_take .nil (fun _ => passG) (pa_cons (pv 0) (pa_cons (pe_callB cr_len (by rfl) m.n_len (by decide +kernel) (pa_cons (pv 3) pa_nil)) pa_nil))) pa_nil)) (pg_name (i := 4) sc_law_played.nd rfl (.inl rfl)))
      (pss_cons (ps_if (pt_cmpR (op_eqL hr.units) (pv 3) (pe_lst pa_nil) (nomark _))
      (pss_one (ps_ret (pe_methR (pv 1) m.C_Run m.M_Run_play G_Run_play (hr.mono (by decide)) pass0 (pa_cons (pv 4) pa_nil))))
      pss_nil)
      (pss_cons (ps_asg (pe_bm PySem.F.plainAttrs_list PySem.F.slot_list_pop PySem.F.type_list_pop mt_popAt (pv 3) (pa_cons (pg_call G_law_take hg (hr.mono (by decide)) (by rfl) m.g_law_take m.F_law_take.kp m.b_law_take .nil (fun _ => passG) (pa_cons (pv 0) (pa_cons (pe_callB cr_len (by rfl) m.n_len (by decide +kernel) (pa_cons (pv 3) pa_nil)) pa_nil))) pa_nil)) (pg_name (i := 5) sc_law_played.nd rfl (.inl rfl)))
      (pss_cons (ps_if (pt_cmpR (op_eqL hr.units) (pv 3) (pe_lst pa_nil) (nomark _))
      (pss_one (ps_ret (pe_methR (pv 1) m.C_Run m.M_Run_play G_Run_play (hr.mono (by decide)) pass0 (pa_cons (pv 4) (pa_cons (pv 5) pa_nil)))))
      pss_nil)
      (pss_one (ps_ret (pe_methR (pv 1) m.C_Run m.M_Run_play G_Run_play (hr.mono (by decide)) pass0 (pa_cons (pv 4) (pa_cons (pv 5) (pa_cons (pg_call G_law_pick hg (hr.mono (by decide)) (by rfl) m.g_law_pick m.F_law_pick.kp m.b_law_pick .nil (fun _ => passG) (pa_cons (pv 0) (pa_cons (pv 3) pa_nil))) pa_nil))))))))))), ?_⟩
    walk_at "vc"
    refine ⟨_, .inl (RB.led.lstAt ha), RB.new fun so H1 RB => ?_⟩
    refine ⟨tyL (RB.led.lstAt (.head _)), LenK.ofL (RB.led.lstAt (xs := nv ls) (.head _)) ?_⟩
    rw [nv_len]
    have hpos : 0 < ls.length := List.length_pos_iff.mpr hne
    refine RB.take (by omega) (by omega) (by omega) fun H2 r1 RB a1 b1 => ?_
    refine RB.popAt a1 b1 (by omega) fun p1 H3 hp1 RB => ?_
    obtain ⟨d1, d2, d3, d4⟩ := erase_nd hnd hp1
    have hl1 : (ls.eraseIdx r1.toNat).length + 1 = ls.length := by rw [List.length_eraseIdx, if_pos (by omega)]; omega
    have fin : ∀ (ps ys : List Nat) (H1 : Hp) (c1 : Nat), ps.Nodup → (∀ p ∈ ps, ((Gs.init n).run sch).Ok p) → ps ≠ [] → ps.length ≤ 3 → c1 ≤ c + 3 → RunB d B H1 u c1 R n sch mks ((so, .lst (nv ys)) :: l) → MtK R.r d.c_Run (Str.ofString "play") H1 (starSp 1 (sp_Run_play K d) (V.ref R.r :: nv ps) H1 Q E0) := fun ps ys H1 c1 hps hpk hp0 hp3 hc1 RB => by
      obtain ⟨w, e⟩ := RB.at2
      refine ⟨R.dx, _, e, by walk_at "fs", ?_⟩
      obtain ⟨en, RR, back⟩ := RB.run
      refine starSp.of [.ref R.r] (nv ps) rfl (Nat.le_trans (m := 3) (by rw [nv_len]; exact hp3) (by decide)) (RR.new fun t H2 RR => ?_)
      refine ⟨B, R, n, sch, mks, ps, _, t, rfl, RR, GVal.distinct hps hpk, by omega, by omega, by omega, fun B3 H3 p tv s3 RR _ => ?_⟩
      rw [if_neg hp0] at RR
      have RR2 : RunR d B3 H3 R n (sch ++ ps) (mks ++ [sch.length]) (en :: l) := RR.sub (.cons _ (.cons_cons _ (.cons _ (.refl _))))
      exact q B3 H3 _ ps s3 hp0 hp3 ((back B3 H3 _ _ _ s3 RR2).up hc1)
    refine RB.new fun e0 H4 RB => ?_
    refine EqL0 (RB.led.lstAt (xs := nv (ls.eraseIdx r1.toNat)) (.tail _ (.head _))) (RB.led.lstAt (.head _)) ?_
    have RB := RB.sub (List.sublist_cons_self _ _)
    refine ⟨_, rfl, ?_⟩
    by_cases h1 : ls.eraseIdx r1.toNat = []
    · rw [h1, if_pos (by rfl)]
      exact fin [p1] _ H4 _ (List.nodup_cons.mpr ⟨List.not_mem_nil, List.nodup_nil⟩) (fun p hp => by rw [List.mem_singleton.mp hp]; exact hok _ d4) (by intro z; cases z) (by show 1 ≤ 3; decide) (by omega) RB
    · have hp1 : 0 < (ls.eraseIdx r1.toNat).length := List.length_pos_iff.mpr h1
      rw [show (nv (ls.eraseIdx r1.toNat)).isEmpty = false from by cases hq : ls.eraseIdx r1.toNat with | nil => exact (h1 hq).elim | cons _ _ => rfl, if_neg Bool.false_ne_true]
      generalize ls.eraseIdx r1.toNat = ls1 at *
      refine ⟨tyL (RB.led.lstAt (.head _)), LenK.ofL (RB.led.lstAt (xs := nv ls1) (.head _)) ?_⟩
      rw [nv_len]
      refine RB.take (by omega) (by omega) (by omega) fun H5 r2 RB a2 b2 => ?_
      refine RB.popAt a2 b2 (by omega) fun p2 H6 hp2 RB => ?_
      obtain ⟨f1, f2, f3, f4⟩ := erase_nd d1 hp2
      have hl2 : (ls1.eraseIdx r2.toNat).length + 1 = ls1.length := by rw [List.length_eraseIdx, if_pos (by omega)]; omega
      refine RB.new fun e1 H7 RB => ?_
      refine EqL0 (RB.led.lstAt (xs := nv (ls1.eraseIdx r2.toNat)) (.tail _ (.head _))) (RB.led.lstAt (.head _)) ?_
      have RB := RB.sub (List.sublist_cons_self _ _)
      refine ⟨_, rfl, ?_⟩
      have n12 : p1 ≠ p2 := fun z => d2 (by rw [z]; exact f4)
      have ok2 : ((Gs.init n).run sch).Ok p2 := hok _ (d3 _ f4)
      by_cases h2 : ls1.eraseIdx r2.toNat = []
      · rw [h2, if_pos (by rfl)]
        refine fin [p1, p2] _ H7 _ ?_ (fun p hp => ?_) (by intro z; cases z) (by show 2 ≤ 3; decide) (by omega) RB
        · exact List.nodup_cons.mpr ⟨fun z => n12 (List.mem_singleton.mp z), List.nodup_cons.mpr ⟨List.not_mem_nil, List.nodup_nil⟩⟩
        · simp only [List.mem_cons, List.not_mem_nil, or_false] at hp
          rcases hp with z | z
          · rw [z]; exact hok _ d4
          · rw [z]; exact ok2
      · rw [show (nv (ls1.eraseIdx r2.toNat)).isEmpty = false from by cases hq : ls1.eraseIdx r2.toNat with | nil => exact (h2 hq).elim | cons _ _ => rfl, if_neg Bool.false_ne_true]
        obtain ⟨w, e⟩ := RB.at2
        refine ⟨R.dx, _, e, by walk_at "fs", ?_⟩
        refine RB.pick (.head _) (by omega) h2 (by omega) fun H8 p3 RB hp3 => ?_
        have n13 : p1 ≠ p3 := fun z => d2 (by rw [z]; exact f3 _ hp3)
        have n23 : p2 ≠ p3 := fun z => f2 (by rw [z]; exact hp3)
        obtain ⟨_, _, _, _, h9⟩ := fin [p1, p2, p3] _ H8 _ (List.nodup_cons.mpr ⟨by simp only [List.mem_cons, List.not_mem_nil, or_false]; exact fun z => z.elim n12 n13, List.nodup_cons.mpr ⟨fun z => n23 (List.mem_singleton.mp z), List.nodup_cons.mpr ⟨List.not_mem_nil, List.nodup_nil⟩⟩⟩) (fun p hp => by
          simp only [List.mem_cons, List.not_mem_nil, or_false] at hp
          rcases hp with z | z | z
          · rw [z]; exact hok _ d4
          · rw [z]; exact ok2
          · rw [z]; exact hok _ (d3 _ (f3 _ hp3))) (by intro z; cases z) (by show 3 ≤ 3; decide) (by omega) RB
        exact h9
/-! cut law_changed -/
/-- the marks ascend -/
def Ups (mks sch : List Nat) : Prop := List.Pairwise (· ≤ ·) (mks ++ [sch.length])
theorem Ups.nil : Ups [] [] := List.pairwise_singleton _ _
theorem Ups.push {mks sch s2 : List Nat} (h : Ups mks sch) (hl : sch.length ≤ s2.length) : Ups (mks ++ [sch.length]) s2 := by
  refine List.pairwise_append.mpr ⟨h, List.pairwise_singleton _ _, fun x hx y hy => ?_⟩
  rw [List.mem_singleton.mp hy]
  rcases List.mem_append.mp hx with z | z
  · exact Nat.le_trans ((List.pairwise_append.mp h).2.2 x z _ (List.mem_singleton.mpr rfl)) hl
  · rw [List.mem_singleton.mp z]; exact hl
theorem Ups.pop {mk sch : List Nat} {k : Nat} (h : Ups (mk ++ [k]) sch) : k ≤ sch.length ∧ Ups mk (sch.take k) := by
  obtain ⟨h1, _, h3⟩ := List.pairwise_append.mp h
  have hk := h3 k (List.mem_append_right _ (List.mem_singleton.mpr rfl)) _ (List.mem_singleton.mpr rfl)
  refine ⟨hk, ?_⟩
  unfold Ups
  rw [List.length_take, Nat.min_eq_left hk]
  exact h1
def sp_law_changed (K : PySem.W.Frag) (d : Ad) : Sp := fun vs H Q _ => ∃ (B : Hp) (u : Addr) (c : Nat) (R : Rad) (n : Nat) (sch mks ls : List Nat) (l : List (Addr × HO)) (a : Addr), vs = [.ref u, .ref R.r, .ref a, .int (mks.length : Int)] ∧ RunB d B H u c R n sch mks l ∧ (a, HO.lst (nv ls)) ∈ l ∧ ls.Nodup ∧ (∀ p ∈ ls, ((Gs.init n).run sch).Ok p) ∧ ls.length ≤ 100 ∧ 1 ≤ n ∧ n ≤ 40 ∧ c < 900000 ∧ mks.length ≤ 400 ∧ sch.length ≤ 80000 ∧ Ups mks sch ∧
  ∀ B' H' sch' mks', Same B B' → RunB d B' H' u (c + 4) R n sch' mks' l → sch'.length ≤ sch.length + 200 → mks'.length ≤ mks.length + 1 → Ups mks' sch' → Q (.int (mks'.length : Int)) H'
theorem ok_law_changed (m : Mo K mg d) (sm : SM bs) (G_Run_finish : FnOk P w K mg bs CX0 7 d.a_Run_finish d.fd_Run_finish ["self", "process"] (sp_Run_finish K d)) (G_Run_step : FnOk P w K mg bs CX0 8 d.a_Run_step d.fd_Run_step ["self", "process"] (sp_Run_step K d)) (G_Run_undo : FnOk P w K mg bs CX0 10 d.a_Run_undo d.fd_Run_undo ["self"] (sp_Run_undo K d)) (G_law_take : Fg P w K mg bs CX0 1 d.a_law_take d.fd_law_take ["bag", "many"] (sp_law_take K)) (G_law_pick : Fg P w K mg bs CX0 2 d.a_law_pick d.fd_law_pick ["bag", "values"] (sp_law_pick K)) (G_law_played : Fg P w K mg bs CX0 8 d.a_law_played d.fd_law_played ["bag", "run", "left"] (sp_law_played K d)) : Fg P w K mg bs CX0 11 d.a_law_changed d.fd_law_changed ["bag", "run", "left", "depth"] (sp_law_changed K d) := by
  refine ok (n := 10) m.F_law_changed sc_law_changed (fun vs H Q E h => ?_) (fun cdv A fr s H vs Q E hg hr h => ?_)
  · obtain ⟨B, u, c, R, n, sch, mks, ls, l, a, rfl, RB, ha, hnd, hok, hll, h1n, hn, hc, hmk, hm, hks, q⟩ := h
    rfl
  · obtain ⟨B, u, c, R, n, sch, mks, ls, l, a, rfl, RB, ha, hnd, hok, hll, h1n, hn, hc, hmk, hm, hks, q⟩ := h
    refine ⟨_, (pss_cons (ps_asg (pg_call G_law_take hg (hr.mono (by decide)) (by rfl) m.g_law_take m.F_law_take.kp m.b_law_take .nil (fun _ => passG) (pa_cons (pv 0) (pa_cons pe_int pa_nil))) (pg_name (i := 4) sc_law_changed.nd rfl (.inl rfl)))
      (pss_cons (ps_if (PW.pt (pw_or (pt_cmpR op_eq (pv 4) pe_int (nomark _)) (pw_or1 (pt_cmpR (op_eqL hr.units) (pv 2) (pe_lst pa_nil) (nomark _)))))
      (pss_cons (ps_if (pt_cmpR op_gt (pv 3) pe_int (nomark _))
      (pss_one (ps_expr (pe_meth0 (pv 1) m.C_Run m.M_Run_undo G_Run_undo (hr.mono (by decide)) m.b_Run_undo .nil pass0)))
      pss_nil)
      (pss_one (ps_ret (pe_callB (cr_max2 rfl) (by rfl) m.n_max (by decide +kernel) (pa_cons pe_int (pa_cons (pe_op op_sub (pv 3) pe_int) pa_nil))))))
      pss_nil)
      (pss_cons (ps_if (pt_cmpR op_eq (pv 4) pe_int (nomark _))
      (pss_one (ps_expr (pe_meth (pv 1) m.C_Run m.M_Run_finish G_Run_finish (hr.mono (by decide)) m.b_Run_finish .nil pass0 (pa_cons (pg_call G_law_pick hg (hr.mono (by decide)) (by rfl) m.g_law_pick m.F_law_pick.kp m.b_law_pick .nil (fun _ => passG) (pa_cons (pv 0) (pa_cons (pv 2) pa_nil))) pa_nil))))
      (pss_one (ps_if (pt_cmpR op_gt (pv 4) pe_int (nomark _))
      (pss_one (ps_expr (pg_call G_law_played hg (hr.mono (by decide)) (by rfl) m.g_law_played m.F_law_played.kp m.b_law_played .nil (fun _ => passG) (pa_cons (pv 0) (pa_cons (pv 1) (pa_cons (pv 2) pa_nil))))))
      (pss_one (ps_expr (pe_meth (pv 1) m.C_Run m.M_Run_step G_Run_step (hr.mono (by decide)) m.b_Run_step .nil pass0 (pa_cons (pe_ix ix_list (pv 2) (pe_ix ix_list (pe_lst (pa_cons pe_int (pa_cons (pe_op op_sub (pe_callB cr_len (by rfl) m.n_len (by decide +kernel) (pa_cons (pv 2) pa_nil)) pe_int) (pa_cons (pg_call G_law_take hg (hr.mono (by decide)) (by rfl) m.g_law_take m.F_law_take.kp m.b_law_take .nil (fun _ => passG) (pa_cons (pv 0) (pa_cons (pe_callB cr_len (by rfl) m.n_len (by decide +kernel) (pa_cons (pv 2) pa_nil)) pa_nil))) pa_nil)))) (pg_call G_law_take hg (hr.mono (by decide)) (by rfl) m.g_law_take m.F_law_take.kp m.b_law_take .nil (fun _ => passG) (pa_cons (pv 0) (pa_cons pe_int pa_nil))) (fun _ _ => rfl)) (fun _ _ => rfl)) pa_nil)))))))
      (pss_one (ps_ret (pe_op op_add (pv 3) pe_int)))))), ?_⟩
    walk_at "vc"
    have undo : ∀ H1 c1, c1 ≤ c + 4 → RunB d B H1 u c1 R n sch mks l → (if (0 : Int) < (mks.length : Int) then MtK R.r d.c_Run (Str.ofString "undo") H1 (sp_Run_undo K d [V.ref R.r] H1 (fun x H1 => Q (V.int (max 0 ((mks.length : Int) - 1))) H1) E0) else Q (V.int (max 0 ((mks.length : Int) - 1))) H1) := fun H1 c1 hc1 RB => by
      rcases List.eq_nil_or_concat mks with h0 | ⟨mk, k, h0⟩
      · subst h0
        rw [if_neg (by decide)]
        exact q B H1 sch [] (Same.refl B) (RB.up hc1) (by omega) (by decide) hks
      · rw [List.concat_eq_append] at h0
        subst h0
        have hl : (mk ++ [k]).length = mk.length + 1 := by rw [List.length_append]; rfl
        rw [hl] at q hmk ⊢
        rw [if_pos (by omega)]
        obtain ⟨w, e⟩ := RB.at2
        refine ⟨R.dx, _, e, by walk_at "fs", ?_⟩
        obtain ⟨en, RR, back⟩ := RB.run
        refine ⟨B, R, n, sch, mk, k, _, rfl, RR, h1n, hn, by omega, by omega, fun B2 H2 s2 RR => ?_⟩
        rw [show max (0 : Int) (((mk.length + 1 : Nat) : Int) - 1) = (mk.length : Int) by omega]
        refine q B2 H2 (sch.take k) mk s2 ((back B2 H2 _ _ _ s2 RR).up hc1) (by rw [List.length_take]; omega) (by omega) hks.pop.2
    refine RB.take (by omega) (by omega) (by omega) fun H2 way RB a1 b1 => ?_
    refine ⟨rfl, ?_⟩
    by_cases hw : way = 7
    · rw [if_pos (by rw [hw])]
      exact undo _ _ (by omega) RB
    rw [if_neg (by intro z; injection z; contradiction)]
    refine RB.new fun e0 H4 RB => ?_
    refine EqL0 (RB.led.lstAt (xs := nv ls) (.tail _ ha)) (RB.led.lstAt (.head _)) ?_
    have RB := RB.sub (List.sublist_cons_self _ _)
    refine ⟨_, rfl, ?_⟩
    by_cases h1 : ls = []
    · rw [h1, if_pos (by rfl)]
      exact undo _ _ (by omega) RB
    have hpos : 0 < ls.length := List.length_pos_iff.mpr h1
    rw [show (nv ls).isEmpty = false from by cases ls with | nil => exact (h1 rfl).elim | cons _ _ => rfl, if_neg Bool.false_ne_true]
    refine ⟨rfl, ?_⟩
    obtain ⟨w, e⟩ := RB.at2
    have fin : ∀ B' H' s2, Same B B' → RunB d B' H' u (c + 4) R n s2 (mks ++ [sch.length]) l → sch.length ≤ s2.length → s2.length ≤ sch.length + 200 → Q (.int ((mks.length : Int) + 1)) H' := fun B' H' s2 s RB h1 h2 => by
      have := q B' H' s2 (mks ++ [sch.length]) s RB h2 (by rw [List.length_append]; exact Nat.le_refl _) (hks.push h1)
      rw [List.length_append] at this
      exact this
    by_cases h6 : way = 6
    · rw [if_pos (by rw [h6])]
      refine ⟨R.dx, _, e, by walk_at "fs", ?_⟩
      refine RB.pick ha (by omega) h1 (by omega) fun H5 p RB hp => ?_
      obtain ⟨en, RR, back⟩ := RB.run
      have hv := RR.1
      have hpn := (hok p hp).lt (hWf RR)
      have := grid_near hv hpn
      refine ⟨B, R, n, sch, mks, p, n, _, rfl, RR, hok p hp, by omega, by omega, grid_closed hv, by omega, fun B2 H6 j s2 hj RR _ => ?_⟩
      exact fin B2 H6 _ s2 ((back B2 H6 _ _ _ s2 RR).up (by omega)) (by rw [List.length_append]; omega) (by rw [List.length_append, List.length_replicate]; omega)
    rw [if_neg (by intro z; injection z; contradiction)]
    walk_at "vc"
    split
    · refine ⟨B, u, _, R, n, sch, mks, ls, l, a, rfl, RB, ha, hnd, hok, h1, hll, hn, by omega, by omega, by omega, fun B2 H5 v ps s2 hp0 hp3 RB => ?_⟩
      exact fin B2 H5 _ s2 (RB.up (by omega)) (by rw [List.length_append]; omega) (by rw [List.length_append]; omega)
    · refine ⟨R.dx, _, e, by walk_at "fs", ?_⟩
      refine LenK.ofL (RB.led.lstAt (xs := nv ls) ha) (LenK.ofL (RB.led.lstAt (xs := nv ls) ha) ?_)
      rw [nv_len]
      refine RB.take (by omega) (by omega) (by omega) fun H5 r2 RB a2 b2 => ?_
      refine RB.new fun p3 H6 RB => ?_
      refine RB.take (by omega) (by omega) (by omega) fun H7 r3 RB a3 b3 => ?_
      obtain ⟨ix, e3, i0, i1⟩ : ∃ ix : Int, atI [V.int 0, V.int ((ls.length : Int) - 1), V.int r2] r3 = some (.int ix) ∧ 0 ≤ ix ∧ ix < ls.length := by
        obtain rfl | rfl | rfl : r3 = 0 ∨ r3 = 1 ∨ r3 = 2 := by omega
        · exact ⟨0, rfl, by omega, by omega⟩
        · exact ⟨(ls.length : Int) - 1, rfl, by omega, by omega⟩
        · exact ⟨r2, rfl, a2, b2⟩
      refine x_ixL.mpr (IxLK.of (RB.led.lstAt (.head _)) e3 ?_)
      obtain ⟨p, hp, ep⟩ := nv_pick i0 i1
      refine x_ixL.mpr (IxLK.of (RB.led.lstAt (xs := nv ls) (.tail _ ha)) ep ?_)
      have RB := RB.sub (List.sublist_cons_self _ _)
      obtain ⟨en, RR, back⟩ := RB.run
      refine ⟨B, R, n, sch, mks, p, _, rfl, RR, hok p hp, by omega, by omega, fun B2 H8 v s2 RR _ => ?_⟩
      exact fin B2 H8 _ s2 ((back B2 H8 _ _ _ s2 RR).up (by omega)) (by rw [List.length_append]; omega) (by rw [List.length_append]; show _ + 1 ≤ _; omega)
/-! cut law_right -/
theorem RunB.names {K : PySem.W.Frag} {d : Ad} {B H : Hp} {u : Addr} {c : Nat} {R : Rad} {n : Nat} {sch mks : List Nat} {l : List (Addr × HO)} {Q : VK} {E : XK} (RB : RunB d B H u c R n sch mks l) (q : ∀ H' p, RunB d B H' u c R n sch mks ((p, .lst ((Gs.init n).run sch).names) :: l) → Q (.ref p) H') : PropK R.r d.c_Run H (sp_Run_names_now K d [.ref R.r] H Q E) := by
  obtain ⟨e, RR, back⟩ := RB.run
  obtain ⟨fs, e1⟩ := RR.at
  refine ⟨R.dx, fs, e1, B, R, n, sch, mks, _, rfl, RR, fun H' p RR => q H' p (back B H' _ _ ((p, .lst ((Gs.init n).run sch).names) :: l) (Same.refl B) (RR.perm (List.Perm.swap _ _ _)))⟩
theorem Urn.popAt {B H : Hp} {u a : Addr} {c : Nat} {ls : List Nat} {l l' : List (Addr × HO)} {Q : VK} {r : Int} (U : Urn B H u l c) (m : (a, HO.lst (nv ls)) ∈ l) (h0 : 0 ≤ r) (h1 : r < ls.length) (hl : ls.length ≤ 1000) (t : Put l a (.lst (nv (ls.eraseIdx r.toNat))) l')
    (q : ∀ p H', ls[r.toNat]? = some p → Urn B H' u l' c → Q (.int (p : Int)) H') : rPopAt (.ref a) [.int r] H Q := by
  obtain ⟨p, hp⟩ : ∃ p, ls[r.toNat]? = some p := ⟨_, List.getElem?_eq_getElem (by omega)⟩
  refine ⟨a, nv ls, r, r.toNat, .int (p : Int), rfl, rfl, U.led.at m, by omega, by omega, ?_, by unfold nv; rw [List.getElem?_map, hp]; rfl, q p _ hp ?_⟩
  · rw [nv_len]
    exact seqIndex_of h0 h1
  · rw [nv_erase]
    exact U.put t
theorem rgV_nv (n : Nat) : rgV 0 (n : Int) = nv (List.range n) := by
  unfold rgV nv
  rw [show ((n : Int) - 0).toNat = n by omega]
  exact List.map_congr_left fun i _ => by rw [Int.zero_add]
theorem atI_lastN {l : List Nat} (h : l ≠ []) : ∃ p, p ∈ l ∧ atI (nv l) (-1) = some (.int (p : Int)) := by
  obtain ⟨p1, hp1⟩ : ∃ p, l.getLast? = some p := ⟨_, List.getLast?_eq_some_getLast h⟩
  have hpos : 0 < l.length := List.length_pos_iff.mpr h
  refine ⟨p1, List.mem_of_getLast? hp1, ?_⟩
  unfold atI ixN
  rw [if_neg (by decide), nv_len, if_pos (by omega)]
  show (nv l)[((-1 : Int) + (l.length : Int)).toNat]? = _
  unfold nv
  rw [List.getElem?_map, show ((-1 : Int) + (l.length : Int)).toNat = l.length - 1 by omega, ← List.getLast?_eq_getElem?, hp1]
  rfl
/-- one of the pool comes to the members -/
theorem draw_one {n i p : Nat} {ms ps : List Nat} (h : (ms ++ ps).Nodup) (hl : ∀ x ∈ ms ++ ps, x < n) (hp : ps[i]? = some p) : ((ms ++ [p]) ++ ps.eraseIdx i).Nodup ∧ ∀ x ∈ (ms ++ [p]) ++ ps.eraseIdx i, x < n := by
  obtain ⟨n1, n2, n3⟩ := List.nodup_append.mp h
  obtain ⟨e1, e2, e3, e4⟩ := erase_nd n2 hp
  constructor
  · refine List.nodup_append.mpr ⟨List.nodup_append.mpr ⟨n1, List.nodup_cons.mpr ⟨List.not_mem_nil, List.nodup_nil⟩, fun x hx y hy => ?_⟩, e1, fun x hx y hy => ?_⟩
    · rw [List.mem_singleton.mp hy]; exact n3 x hx p e4
    · rcases List.mem_append.mp hx with z | z
      · exact n3 x z y (e3 y hy)
      · rw [List.mem_singleton.mp z]
        exact fun w => e2 (by rw [w]; exact hy)
  · intro x hx
    rcases List.mem_append.mp hx with z | z
    · rcases List.mem_append.mp z with w | w
      · exact hl x (List.mem_append_left _ w)
      · rw [List.mem_singleton.mp w]; exact hl p (List.mem_append_right _ e4)
    · exact hl x (List.mem_append_right _ (e3 x z))
/-- those of a list that have not finished -/
def okL (g : Gs) (ms : List Nat) : List Nat := ms.filter fun p => decide (g.fin[p]? = some false)
theorem okL_ok {g : Gs} {ms : List Nat} : ∀ p ∈ okL g ms, g.Ok p := fun p hp => by
  show g.fin[p]? = some false
  exact of_decide_eq_true (List.mem_filter.mp hp).2
theorem okL_nd {g : Gs} {ms : List Nat} (h : ms.Nodup) : (okL g ms).Nodup := h.sublist List.filter_sublist
theorem okL_len {g : Gs} {ms : List Nat} : (okL g ms).length ≤ ms.length := List.length_filter_le _ _
theorem okL_app {g : Gs} {ms : List Nat} {p : Nat} : okL g (ms ++ [p]) = if g.fin[p]? = some false then okL g ms ++ [p] else okL g ms := by
  unfold okL
  rw [List.filter_append]
  split
  · rename_i h
    rw [List.filter_cons, if_pos (by simpa using h)]
    rfl
  · rename_i h
    rw [List.filter_cons, if_neg (by simpa using h), List.filter_nil, List.append_nil]
theorem names_non {g : Gs} {n p : Nat} (wf : g.Wf n) (hp : p < n) : ∃ v, g.names[p]? = some v ∧ (v = .non ↔ g.fin[p]? = some false) := by
  refine ⟨_, Gs.names_at wf.toLn hp, ?_⟩
  have hfl : p < g.fin.length := by rw [wf.lf]; exact hp
  have hb := List.getElem?_eq_getElem hfl
  cases h : g.fin[p] with
  | true => rw [hb, h, if_pos rfl]; exact ⟨fun z => (by cases z), fun z => (by cases z)⟩
  | false => rw [hb, h, if_neg (by intro z; cases z)]; exact ⟨fun _ => rfl, fun _ => rfl⟩
theorem comp_okL {K : PySem.W.Frag} {d : Ad} {B H : Hp} {u na mem : Addr} {c : Nat} {R : Rad} {n : Nat} {sch mks ms : List Nat} {l : List (Addr × HO)} {Q : VK} {a0 a1 a2 a3 a4 a5 a6 a7 a8 a10 a11 : Option V} (RB : RunB d B H u c R n sch mks l) (hm : (mem, HO.lst (nv ms)) ∈ l) (hna : (na, HO.lst ((Gs.init n).run sch).names) ∈ l) (hlt : ∀ x ∈ ms, x < n) (hl : ms.length ≤ 100)
    (q : ∀ H' la, RunB d B H' u c R n sch mks ((la, .lst (nv (okL ((Gs.init n).run sch) ms))) :: l) → Q (.ref la) H') :
    LcK (Itl K mem) (gName 11) (tTest (tOp (fun x y H Q => y = V.non ∧ Q (V.bl (decide (x = V.non))) H) (tOp (rIxL K) (tVar 9) (tVar 11)) (tC V.non))) (tVar 11) [11] [a0, a1, a2, a3, a4, a5, a6, a7, a8, some (.ref na), a10, a11] H Q := by
  have wf := RB.fact.2.1
  refine comp_list (xs := nv ms) (fun j z acc H' => acc = nv (okL ((Gs.init n).run sch) (ms.take j)) ∧ RunB d B H' u c R n sch mks ((z, .lst acc) :: l)) (fun z hz => ⟨rfl, ?_⟩) (fun j z acc H' h => h.2.led.lstAt (.tail _ hm)) ?_ ?_
  · obtain ⟨rest, U, back⟩ := RB.front
    exact back _ _ _ _ ((z, .lst []) :: l) (Same.refl _) (U.map fun o L => (L.new hz).sel (.cons (.tl .hd) .all))
  · rintro z acc H' ⟨rfl, RB⟩
    rw [nv_len, List.take_length] at RB
    exact q _ _ RB
  · rintro j z acc H' x N hx ⟨rfl, RB⟩ hN
    obtain ⟨p, hp, rfl⟩ := nv_at hx
    have hpn := hlt p (List.mem_of_getElem? hp)
    obtain ⟨v, hv, hvn⟩ := names_non wf hpn
    have ho := okL_len (g := (Gs.init n).run sch) (ms := ms.take j)
    rw [List.length_take] at ho
    rw [List.take_add_one, hp, Option.toList_some, okL_app] at hN
    unfold TurnK
    walk_at "vc"
    refine IxLK.of (RB.led.lstAt (.tail _ hna)) (atI_nat' hv) ?_
    by_cases hf : ((Gs.init n).run sch).fin[p]? = some false
    · rw [if_pos (hvn.mpr hf)]
      rw [if_pos hf] at hN
      obtain ⟨rest, U, back⟩ := RB.front
      refine U.appK (xs := nv (okL ((Gs.init n).run sch) (ms.take j))) (.head _) (Nat.lt_of_lt_of_le (m := 1000) (by rw [nv_len]; omega) (by decide)) .hd fun H1 U => ?_
      rw [← nv_app] at U
      exact hN _ _ ⟨rfl, back _ _ _ _ ((z, .lst (nv (okL ((Gs.init n).run sch) (ms.take j) ++ [p]))) :: l) (Same.refl _) U⟩
    · rw [if_neg (fun z => hf (hvn.mp z))]
      rw [if_neg hf] at hN
      exact hN _ _ ⟨rfl, RB⟩
theorem comp_okR {K : PySem.W.Frag} {d : Ad} {B H : Hp} {u na : Addr} {c : Nat} {R : Rad} {n : Nat} {sch mks : List Nat} {l : List (Addr × HO)} {Q : VK} {a0 a1 a2 a3 a4 a5 a6 a7 a8 a10 a11 : Option V} (RB : RunB d B H u c R n sch mks l) (hna : (na, HO.lst ((Gs.init n).run sch).names) ∈ l) (hl : n ≤ 100)
    (q : ∀ H' la, RunB d B H' u c R n sch mks ((la, .lst (nv (okL ((Gs.init n).run sch) (List.range n)))) :: l) → Q (.ref la) H') :
    LcK (Itr 0 (n : Int).toNat) (gName 11) (tTest (tOp (fun x y H Q => y = V.non ∧ Q (V.bl (decide (x = V.non))) H) (tOp (rIxL K) (tVar 9) (tVar 11)) (tC V.non))) (tVar 11) [11] [a0, a1, a2, a3, a4, a5, a6, a7, a8, some (.ref na), a10, a11] H Q := by
  have wf := RB.fact.2.1
  refine comp_range (fun j z acc H' => acc = nv (okL ((Gs.init n).run sch) (List.range j)) ∧ RunB d B H' u c R n sch mks ((z, .lst acc) :: l)) (fun z hz => ⟨rfl, ?_⟩) ?_ ?_
  · obtain ⟨rest, U, back⟩ := RB.front
    exact back _ _ _ _ ((z, .lst []) :: l) (Same.refl _) (U.map fun o L => (L.new hz).sel (.cons (.tl .hd) .all))
  · rintro z acc H' ⟨rfl, RB⟩
    rw [Int.toNat_natCast] at RB
    exact q _ _ RB
  · rintro p z acc H' N hp ⟨rfl, RB⟩ hN
    have hpn : p < n := by omega
    obtain ⟨v, hv, hvn⟩ := names_non wf hpn
    have ho := okL_len (g := (Gs.init n).run sch) (ms := List.range p)
    rw [List.length_range] at ho
    rw [List.range_succ, okL_app] at hN
    unfold TurnK
    walk_at "vc"
    refine IxLK.of (RB.led.lstAt (.tail _ hna)) (atI_nat' hv) ?_
    by_cases hf : ((Gs.init n).run sch).fin[p]? = some false
    · rw [if_pos (hvn.mpr hf)]
      rw [if_pos hf] at hN
      obtain ⟨rest, U, back⟩ := RB.front
      refine U.appK (xs := nv (okL ((Gs.init n).run sch) (List.range p))) (.head _) (Nat.lt_of_lt_of_le (m := 1000) (by rw [nv_len]; omega) (by decide)) .hd fun H1 U => ?_
      rw [← nv_app] at U
      exact hN _ _ ⟨rfl, back _ _ _ _ ((z, .lst (nv (okL ((Gs.init n).run sch) (List.range p) ++ [p]))) :: l) (Same.refl _) U⟩
    · rw [if_neg (fun z => hf (hvn.mp z))]
      rw [if_neg hf] at hN
      exact hN _ _ ⟨rfl, RB⟩
def sp_law_right (K : PySem.W.Frag) (d : Ad) : Sp := fun vs H Q _ => ∃ (u : Addr) (B : Hp), vs = [.ref u] ∧ Urn B H u [] 6100 ∧ ∀ B' H', Same B B' → Led B' H' [] → Q (.bl true) H'
theorem ok_law_right (m : Mo K mg d) (sm : SM bs) (G_Run___init__ : FnOk P w K mg bs CX0 9 d.a_Run___init__ d.fd_Run___init__ ["self", "count"] (sp_Run___init__ K d)) (G_Run_names_now : FnOk P w K mg bs CX0 1 d.a_Run_names_now d.fd_Run_names_now ["self"] (sp_Run_names_now K d)) (G_law_take : Fg P w K mg bs CX0 1 d.a_law_take d.fd_law_take ["bag", "many"] (sp_law_take K)) (G_law_alone_right : Fg P w K mg bs CX0 13 d.a_law_alone_right d.fd_law_alone_right ["run", "process"] (sp_law_alone_right K d)) (G_law_pick : Fg P w K mg bs CX0 2 d.a_law_pick d.fd_law_pick ["bag", "values"] (sp_law_pick K)) (G_law_changed : Fg P w K mg bs CX0 11 d.a_law_changed d.fd_law_changed ["bag", "run", "left", "depth"] (sp_law_changed K d)) : Fg P w K mg bs CX0 14 d.a_law_right d.fd_law_right ["bag"] (sp_law_right K d) := by
  refine ok (n := 13) m.F_law_right sc_law_right (fun vs H Q E h => ?_) (fun cdv A fr s H vs Q E hg hr h => ?_)
  · obtain ⟨u, B, rfl, U, q⟩ := h
    rfl
  · obtain ⟨u, B, rfl, U, q⟩ := h
    refine ⟨_, (pss_cons (ps_asg (pe_op op_add pe_int (pg_call G_law_take hg (hr.mono (by decide)) (by rfl) m.g_law_take m.F_law_take.kp m.b_law_take .nil (fun _ => passG) (pa_cons (pv 0) (pa_cons pe_int pa_nil)))) (pg_name (i := 1) sc_law_right.nd rfl (.inl rfl)))
      (pss_cons (ps_asg (pe_ix ix_list (pe_lst (pa_cons (pe_op op_add (pv 1) (pg_call G_law_take hg (hr.mono (by decide)) (by rfl) m.g_law_take m.F_law_take.kp m.b_law_take .nil (fun _ => passG) (pa_cons (pv 0) (pa_cons pe_int pa_nil)))) (pa_cons pe_int pa_nil))) (pg_call G_law_take hg (hr.mono (by decide)) (by rfl) m.g_law_take m.F_law_take.kp m.b_law_take .nil (fun _ => passG) (pa_cons (pv 0) (pa_cons pe_int pa_nil))) (fun _ _ => rfl)) (pg_name (i := 2) sc_law_right.nd rfl (.inl rfl)))
      (pss_cons (ps_asg (pe_tup (pa_cons (pe_listRg rfl (by rfl) m.n_list (prg_1 (by rfl) m.n_range (pv 2))) (pa_cons pe_int (pa_cons pe_int pa_nil)))) (show PG _ _ (gTup K 3 _) from pg_tup (by rfl) (pgs_cons (pg_name (i := 3) sc_law_right.nd rfl (.inr rfl)) (pgs_cons (pg_name (i := 4) sc_law_right.nd rfl (.inl rfl)) (pgs_cons (pg_name (i := 5) sc_law_right.nd rfl (.inl rfl)) pgs_nil)))))
      (pss_cons (ps_setLc (i := 6) (own := [("turn", 7)]) (by rfl) sc_law_right.nd rfl rfl (sw_true rfl rfl rfl (by decide +kernel)) (pi_range1 (by rfl) m.n_range (pa_cons (pv 1) pa_nil)) (blkOk_by (own := [("turn", 7)]) (N := ["bag", "active", "count", "pool", "depth", "moments", "members", "turn", "run", "names", "left", "process"]) (sc := defScope s_law_right) (by decide +kernel)) (fun _ _ _ _ _ => by exact (pg_name (i := 7) sc_law_right.nd rfl (.inl rfl))) (fun _ _ _ _ _ => by exact pts_nil) (fun _ _ _ _ _ => by exact (show PE _ _ (tBM K _ _ _ _) from (pe_bm PySem.F.plainAttrs_list PySem.F.slot_list_pop PySem.F.type_list_pop mt_popAt (pv 3) (pa_cons (pg_call G_law_take hg (hr.mono (by decide)) (by rfl) m.g_law_take m.F_law_take.kp m.b_law_take .nil (fun _ => passG) (pa_cons (pv 0) (pa_cons (pe_callB (show CallR _ _ (Vg.rLen K) from cr_len) (by rfl) m.n_len (by decide +kernel) (pa_cons (pv 3) pa_nil)) pa_nil))) pa_nil)))))
      (pss_cons (ps_asg (pe_make m.K_Run G_Run___init__ (hr.mono (by decide)) (by rfl) m.g_Run m.b_Run___init__ .nil pass0 (pa_cons (pv 2) pa_nil)) (pg_name (i := 8) sc_law_right.nd rfl (.inl rfl)))
      (pss_cons (ps_if (pt_not (pt_val (pg_call G_law_alone_right hg (hr.mono (by decide)) (by rfl) m.g_law_alone_right m.F_law_alone_right.kp m.b_law_alone_right .nil (fun _ => passG) (pa_cons (pv 8) (pa_cons (pe_ix ix_list (pv 6) (pe_un un_neg pe_int) (fun _ _ => rfl)) pa_nil)))))
      (pss_one (ps_ret pe_bl))
      pss_nil)
      (pss_cons (ps_for PassesOwn.never rfl (pi_range1 (by rfl) m.n_range (pa_cons pe_int pa_nil)) (pg_name (i := 7) sc_law_right.nd rfl (.inl rfl))
      (pss_cons (ps_asg (pe_prop (pv 8) m.C_Run m.P_Run_names_now G_Run_names_now (hr.mono (by decide)) m.b_Run_names_now .nil pass0 rfl) (pg_name (i := 9) sc_law_right.nd rfl (.inr rfl)))
      (pss_cons (ps_asg (pg_call G_law_changed hg (hr.mono (by decide)) (by rfl) m.g_law_changed m.F_law_changed.kp m.b_law_changed .nil (fun _ => passG) (pa_cons (pv 0) (pa_cons (pv 8) (pa_cons (pe_lc (own := [("process", 11)]) (by rfl) sc_law_right.nd (pi_list (pv 6)) (blkOk_by (own := [("process", 11)]) (N := ["bag", "active", "count", "pool", "depth", "moments", "members", "turn", "run", "names", "left", "process"]) (sc := defScope s_law_right) (by decide +kernel)) (fun _ _ _ _ _ => by exact (pg_name (i := 11) sc_law_right.nd rfl (.inl rfl))) (fun _ _ _ _ _ => by exact (pts_one (pt_cmpR op_isN (pe_ix (show IxR _ (rIxL K) from ix_list) (pv 9) (pv 11) (fun _ _ => rfl)) pe_non (nomark _)))) (fun _ _ _ _ _ => by exact (pv 11))) (pa_cons (pv 4) pa_nil))))) (pg_name (i := 4) sc_law_right.nd rfl (.inl rfl)))
      (pss_cons (ps_asg (pe_prop (pv 8) m.C_Run m.P_Run_names_now G_Run_names_now (hr.mono (by decide)) m.b_Run_names_now .nil pass0 rfl) (pg_name (i := 9) sc_law_right.nd rfl (.inr rfl)))
      (pss_cons (ps_setLc (i := 10) (own := [("process", 11)]) (by rfl) sc_law_right.nd rfl rfl (sw_true rfl rfl rfl (by decide +kernel)) (pi_list (pv 6)) (blkOk_by (own := [("process", 11)]) (N := ["bag", "active", "count", "pool", "depth", "moments", "members", "turn", "run", "names", "left", "process"]) (sc := defScope s_law_right) (by decide +kernel)) (fun _ _ _ _ _ => by exact (pg_name (i := 11) sc_law_right.nd rfl (.inl rfl))) (fun _ _ _ _ _ => by exact (pts_one (pt_cmpR op_isN (pe_ix (show IxR _ (rIxL K) from ix_list) (pv 9) (pv 11) (fun _ _ => rfl)) pe_non (nomark _)))) (fun _ _ _ _ _ => by exact (pv 11)))
      (pss_cons (ps_if (PW.pt (pw_or (pt_cmpR (op_eqL hr.units) (pv 10) (pe_lst pa_nil) (nomark _)) (pw_or1 (pt_cmpR op_eq (pg_call G_law_take hg (hr.mono (by decide)) (by rfl) m.g_law_take m.F_law_take.kp m.b_law_take .nil (fun _ => passG) (pa_cons (pv 0) (pa_cons pe_int pa_nil))) pe_int (nomark _)))))
      (pss_one (ps_setLc (i := 10) (own := [("process", 11)]) (by rfl) sc_law_right.nd rfl rfl (sw_true rfl rfl rfl (by decide +kernel)) (pi_range1 (by rfl) m.n_range (pa_cons (pv 2) pa_nil)) (blkOk_by (own := [("process", 11)]) (N := ["bag", "active", "count", "pool", "depth", "moments", "members", "turn", "run", "names", "left", "process"]) (sc := defScope s_law_right) (by decide +kernel)) (fun _ _ _ _ _ => by exact (pg_name (i := 11) sc_law_right.nd rfl (.inl rfl))) (fun _ _ _ _ _ => by exact (pts_one (pt_cmpR op_isN (pe_ix (show IxR _ (rIxL K) from ix_list) (pv 9) (pv 11) (fun _ _ => rfl)) pe_non (nomark _)))) (fun _ _ _ _ _ => by exact (pv 11))))
      pss_nil)
      (pss_one (ps_if (PW.pt (pw_and (pt_cmpR (op_neD hr.units) (pv 10) (pe_lst pa_nil) (nomark _)) (pw_and (pt_cmpR op_lt (pv 5) pe_int (nomark _)) (pw_and1 (pt_cmpR op_eq (pg_call G_law_take hg (hr.mono (by decide)) (by rfl) m.g_law_take m.F_law_take.kp m.b_law_take .nil (fun _ => passG) (pa_cons (pv 0) (pa_cons pe_int pa_nil))) pe_int (nomark _))))))
      (pss_cons (ps_asg (pe_op op_add (pv 5) pe_int) (pg_name (i := 5) sc_law_right.nd rfl (.inl rfl)))
      (pss_one (ps_if (pt_not (pt_val (pg_call G_law_alone_right hg (hr.mono (by decide)) (by rfl) m.g_law_alone_right m.F_law_alone_right.kp m.b_law_alone_right .nil (fun _ => passG) (pa_cons (pv 8) (pa_cons (pg_call G_law_pick hg (hr.mono (by decide)) (by rfl) m.g_law_pick m.F_law_pick.kp m.b_law_pick .nil (fun _ => passG) (pa_cons (pv 0) (pa_cons (pv 10) pa_nil))) pa_nil)))))
      (pss_one (ps_ret pe_bl))
      pss_nil)))
      pss_nil))))))))
      (pss_one (ps_ret pe_bl))))))))), ?_⟩
    walk_at "vc"
    refine take_go U (by omega) (by omega) (by omega) fun H1 r1 U a1 b1 => ?_
    walk_at "vc"
    refine take_go U (by omega) (by omega) (by omega) fun H2 r2 U a2 b2 => ?_
    walk_at "vc"
    refine U.new fun pc H3 U => ?_
    refine take_go U (by omega) (by omega) (by omega) fun H4 r3 U a3 b3 => ?_
    obtain ⟨ac, ea, ac0, ac1⟩ : ∃ ac : Nat, 1 + r1 = (ac : Int) ∧ 1 ≤ ac ∧ ac ≤ 7 := ⟨(1 + r1).toNat, by rw [Int.toNat_of_nonneg (by omega)], by omega, by omega⟩
    obtain ⟨n, en, n0, n1, n2⟩ : ∃ n : Nat, atI [V.int (1 + r1 + r2), V.int 40] r3 = some (.int (n : Int)) ∧ 1 ≤ n ∧ n ≤ 40 ∧ ac ≤ n := by
      obtain rfl | rfl : r3 = 0 ∨ r3 = 1 := by omega
      · exact ⟨(1 + r1 + r2).toNat, by rw [Int.toNat_of_nonneg (by omega)]; rfl, by omega, by omega, by omega⟩
      · exact ⟨40, rfl, by omega, by omega, by omega⟩
    rw [ea] at en U ⊢
    refine x_ixL.mpr (IxLK.of (U.led.lstAt (.head _)) en ?_)
    have U := U.sel (.skip .all)
    refine ⟨_, rfl, ⟨by omega, by omega⟩, ?_⟩
    refine U.new fun plx H5 U => ?_
    rw [rgV_nv] at U
    refine U.new fun tp H6 U => ?_
    refine UnpK.of (U.led.tupAt (.head _)) rfl ?_
    have U := U.sel (.skip .all)
    walk_at "vc"
    refine ⟨by omega, by omega, ?_⟩
    refine comp_range (fun j z acc H' => ∃ ms ps : List Nat, acc = nv ms ∧ ms.length = j ∧ ps.length = n - j ∧ (ms ++ ps).Nodup ∧ (∀ x ∈ ms ++ ps, x < n) ∧ Urn B H' u ((z, .lst acc) :: (plx, .lst (nv ps)) :: []) (6103 + j)) (fun z hz => ⟨[], List.range n, rfl, rfl, by rw [List.length_range]; omega, List.nodup_range, fun x hx => List.mem_range.mp hx, ?_⟩) ?_ ?_
    · exact U.map fun o L => (L.new hz).sel (.cons (.tl .hd) .all)
    rotate_left
    · rintro j z acc H7 N hj ⟨ms, ps, rfl, h1, h2, h3, h4, U⟩ hN
      unfold TurnK
      walk_at "vc"
      refine ⟨tyL (U.led.lstAt (xs := nv ps) (.tail _ (.head _))), LenK.ofL (U.led.lstAt (xs := nv ps) (.tail _ (.head _))) ?_⟩
      rw [nv_len]
      refine take_go U (by omega) (by omega) (by omega) fun H8 r U a b => ?_
      refine U.popAt (.tail _ (.head _)) a b (by omega) (.tl .hd) fun p H9 hp U => ?_
      obtain ⟨g1, g2⟩ := draw_one h3 h4 hp
      refine U.appK (xs := nv ms) (.head _) (Nat.lt_of_lt_of_le (m := 100) (by rw [nv_len]; omega) (by decide)) .hd fun H10 U => ?_
      rw [← nv_app] at U
      exact hN _ _ ⟨ms ++ [p], _, rfl, by rw [List.length_append, h1]; rfl, by rw [List.length_eraseIdx, if_pos (by omega)]; omega, g1, g2, U⟩
    rintro mem acc H7 ⟨ms, ps, rfl, hml, -, hnd, hlt, U⟩
    have hml : ms.length = ac := by rw [hml]; exact Int.toNat_natCast ac
    have hnd : ms.Nodup := (List.nodup_append.mp hnd).1
    have hlt : ∀ x ∈ ms, x < n := fun x hx => hlt x (List.mem_append_left _ hx)
    walk_at "vc"
    obtain ⟨x0, y0, z0, L, hr⟩ := U
    refine MkK.of L fun x dx H8 L => ?_
    refine ⟨B, x, dx, n, _, rfl, n0, n1, L, fun B9 H9 R s9 hR RR => ⟨rfl, ?_⟩⟩
    subst hR
    have RR := RR.sub (l' := (u, .lst [.int x0, .int y0, .int z0]) :: (mem, .lst (nv ms)) :: []) (.cons_cons _ (.cons_cons _ (.cons _ (.refl _))))
    obtain ⟨W, xs, cs, rp, F, L⟩ := RunR.view.mp RR
    have RB : RunB d B9 H9 u (6103 + ac) R n [] [] [(mem, .lst (nv ms))] := ⟨W, xs, cs, rp, F, x0, y0, z0, L.perm (runL_perm [(u, .lst [.int x0, .int y0, .int z0])] _).symm, hr⟩
    clear L F RR
    have hms0 : ms ≠ [] := fun z => by rw [z] at hml; simp at hml; omega
    obtain ⟨pl, hpl, epl⟩ := atI_lastN hms0
    refine IxLK.of (RB.led.lstAt (xs := nv ms) (.head _)) epl ?_
    obtain ⟨en, RR, back⟩ := RB.run
    have okp : ((Gs.init n).run []).Ok pl := by
      show (List.replicate n false)[pl]? = some false
      rw [List.getElem?_replicate, if_pos (hlt _ hpl)]
    refine ⟨B9, R, n, [], [], _, pl, rfl, RR, n0, n1, okp, Nat.zero_le _, Nat.zero_le _, fun B10 H10 s10 RR => ?_⟩
    have RB := back B10 H10 _ _ _ s10 RR
    clear back RR
    refine ⟨_, rfl, ?_⟩
    rw [if_neg (by decide)]
    refine ⟨by decide, by decide, ?_⟩
    refine loop_range (n := 30) (fun i σ H' => ∃ y7 y9 y10 y11 B' sch mks mm, σ = [some (.ref u), some (.int (ac : Int)), some (.int (n : Int)), some (.ref plx), some (.int ((mks.length : Nat) : Int)), some (.int mm), some (.ref mem), y7, some (.ref R.r), y9, y10, y11] ∧ Same B B' ∧ RunB d B' H' u (6110 + 50 * i) R n sch mks [(mem, .lst (nv ms))] ∧ Ups mks sch ∧ sch.length ≤ 200 * i ∧ mks.length ≤ i)
      ⟨_, _, _, _, B10, [], [], 0, rfl, s9.trans s10, RB.up (by omega), Ups.nil, Nat.zero_le _, Nat.zero_le _⟩ (fun i σ H11 N hi h hN => ?_) (fun σ H11 h => ?_)
    · obtain ⟨y7, y9, y10, y11, B11, sch, mks, mm, rfl, s11, RB, hup, hsl, hmk⟩ := h
      have hi30 : i < 30 := hi
      walk_at "vc"
      refine RB.names fun H12 na RB => ?_
      refine ⟨⟨_, RB.led.lstAt (xs := nv ms) (.tail _ (.head _))⟩, comp_okL RB (.tail _ (.head _)) (.head _) hlt (by omega) fun H13 la RB => ?_⟩
      have hll := okL_len (g := (Gs.init n).run sch) (ms := ms)
      refine ⟨B11, u, _, R, n, sch, mks, _, _, la, rfl, RB, .head _, okL_nd hnd, okL_ok, by omega, n0, n1, by omega, by omega, by omega, hup, fun B14 H14 sch' mks' s14 RB h1 h2 hup' => ?_⟩
      have RB := RB.sub (l' := [(mem, .lst (nv ms))]) (.cons _ (.cons _ (.refl _)))
      refine RB.names fun H15 na RB => ?_
      refine ⟨⟨_, RB.led.lstAt (xs := nv ms) (.tail _ (.head _))⟩, comp_okL RB (.tail _ (.head _)) (.head _) hlt (by omega) fun H16 la RB => ?_⟩
      refine RB.new fun e0 H17 RB => ?_
      refine EqL0 (RB.led.lstAt (xs := nv (okL ((Gs.init n).run sch') ms)) (.tail _ (.head _))) (RB.led.lstAt (.head _)) ?_
      have RB := RB.sub (List.sublist_cons_self _ _)
      have hll := okL_len (g := (Gs.init n).run sch') (ms := ms)
      have hlr := okL_len (g := (Gs.init n).run sch') (ms := List.range n)
      rw [List.length_range] at hlr
      refine ⟨_, rfl, ?_⟩
      by_cases h0 : okL ((Gs.init n).run sch') ms = []
      · rw [h0, if_pos (by rfl)]
        refine ⟨by omega, by omega, comp_okR RB (.tail _ (.head _)) (by omega) fun H18 lb RB => ?_⟩
        generalize hls : okL ((Gs.init n).run sch') (List.range n) = ls at *
        have hok : ∀ p ∈ ls, ((Gs.init n).run sch').Ok p := by rw [← hls]; exact okL_ok
        refine RB.new fun e0 H20 RB => ?_
        refine ne_nv0 (RB.led.lstAt (xs := nv ls) (.tail _ (.head _))) (RB.led.lstAt (.head _)) ?_
        have RB := RB.sub (List.sublist_cons_self _ _)
        refine ⟨_, rfl, ?_⟩
        by_cases h9 : ls = []
        · rw [h9, if_neg (by decide)]
          have RB := RB.sub (l' := [(mem, .lst (nv ms))]) (by first | exact .cons _ (.refl _) | exact .cons _ (.cons _ (.cons _ (.refl _))))
          exact hN _ _ ⟨_, _, _, _, B14, sch', mks', mm, rfl, s11.trans s14, RB.up (by omega), hup', by omega, by omega⟩
        · rw [show (!ls.isEmpty) = true from by cases ls with | nil => exact (h9 rfl).elim | cons _ _ => rfl, if_pos rfl]
          split
          · refine RB.take (by omega) (by omega) (by omega) fun H21 r5 RB a5 b5 => ?_
            refine ⟨rfl, ?_⟩
            split
            · refine RB.pick (.head _) (by omega) h9 (by omega) fun H22 p RB hp => ?_
              obtain ⟨en, RR, back⟩ := RB.run
              refine ⟨B14, R, n, sch', mks', _, p, rfl, RR, n0, n1, hok p hp, by omega, by omega, fun B23 H23 s23 RR => ?_⟩
              have RB := back B23 H23 _ _ _ s23 RR
              refine ⟨_, rfl, ?_⟩
              rw [if_neg (by decide)]
              have RB := RB.sub (l' := [(mem, .lst (nv ms))]) (by first | exact .cons _ (.refl _) | exact .cons _ (.cons _ (.cons _ (.refl _))))
              exact hN _ _ ⟨_, _, _, _, B23, sch', mks', mm + 1, rfl, (s11.trans s14).trans s23, RB.up (by omega), hup', by omega, by omega⟩
            · have RB := RB.sub (l' := [(mem, .lst (nv ms))]) (by first | exact .cons _ (.refl _) | exact .cons _ (.cons _ (.cons _ (.refl _))))
              exact hN _ _ ⟨_, _, _, _, B14, sch', mks', mm, rfl, s11.trans s14, RB.up (by omega), hup', by omega, by omega⟩
          · have RB := RB.sub (l' := [(mem, .lst (nv ms))]) (by first | exact .cons _ (.refl _) | exact .cons _ (.cons _ (.cons _ (.refl _))))
            exact hN _ _ ⟨_, _, _, _, B14, sch', mks', mm, rfl, s11.trans s14, RB.up (by omega), hup', by omega, by omega⟩
      · rw [show (nv (okL ((Gs.init n).run sch') ms)).isEmpty = false from by cases hq : okL ((Gs.init n).run sch') ms with | nil => exact (h0 hq).elim | cons _ _ => rfl, if_neg Bool.false_ne_true]
        refine RB.take (by omega) (by omega) (by omega) fun H18 r4 RB a4 b4 => ?_
        refine ⟨rfl, ?_⟩
        split
        · refine ⟨by omega, by omega, comp_okR RB (.tail _ (.head _)) (by omega) fun H19 lb RB => ?_⟩
          generalize hls : okL ((Gs.init n).run sch') (List.range n) = ls at *
          have hok : ∀ p ∈ ls, ((Gs.init n).run sch').Ok p := by rw [← hls]; exact okL_ok
          refine RB.new fun e0 H20 RB => ?_
          refine ne_nv0 (RB.led.lstAt (xs := nv ls) (.tail _ (.head _))) (RB.led.lstAt (.head _)) ?_
          have RB := RB.sub (List.sublist_cons_self _ _)
          refine ⟨_, rfl, ?_⟩
          by_cases h9 : ls = []
          · rw [h9, if_neg (by decide)]
            have RB := RB.sub (l' := [(mem, .lst (nv ms))]) (by first | exact .cons _ (.refl _) | exact .cons _ (.cons _ (.cons _ (.refl _))))
            exact hN _ _ ⟨_, _, _, _, B14, sch', mks', mm, rfl, s11.trans s14, RB.up (by omega), hup', by omega, by omega⟩
          · rw [show (!ls.isEmpty) = true from by cases ls with | nil => exact (h9 rfl).elim | cons _ _ => rfl, if_pos rfl]
            split
            · refine RB.take (by omega) (by omega) (by omega) fun H21 r5 RB a5 b5 => ?_
              refine ⟨rfl, ?_⟩
              split
              · refine RB.pick (.head _) (by omega) h9 (by omega) fun H22 p RB hp => ?_
                obtain ⟨en, RR, back⟩ := RB.run
                refine ⟨B14, R, n, sch', mks', _, p, rfl, RR, n0, n1, hok p hp, by omega, by omega, fun B23 H23 s23 RR => ?_⟩
                have RB := back B23 H23 _ _ _ s23 RR
                refine ⟨_, rfl, ?_⟩
                rw [if_neg (by decide)]
                have RB := RB.sub (l' := [(mem, .lst (nv ms))]) (by first | exact .cons _ (.refl _) | exact .cons _ (.cons _ (.cons _ (.refl _))))
                exact hN _ _ ⟨_, _, _, _, B23, sch', mks', mm + 1, rfl, (s11.trans s14).trans s23, RB.up (by omega), hup', by omega, by omega⟩
              · have RB := RB.sub (l' := [(mem, .lst (nv ms))]) (by first | exact .cons _ (.refl _) | exact .cons _ (.cons _ (.cons _ (.refl _))))
                exact hN _ _ ⟨_, _, _, _, B14, sch', mks', mm, rfl, s11.trans s14, RB.up (by omega), hup', by omega, by omega⟩
            · have RB := RB.sub (l' := [(mem, .lst (nv ms))]) (by first | exact .cons _ (.refl _) | exact .cons _ (.cons _ (.cons _ (.refl _))))
              exact hN _ _ ⟨_, _, _, _, B14, sch', mks', mm, rfl, s11.trans s14, RB.up (by omega), hup', by omega, by omega⟩
        · have RB := RB.sub (l' := (la, .lst (nv (okL ((Gs.init n).run sch') ms))) :: (mem, .lst (nv ms)) :: []) (.cons_cons _ (.cons _ (.refl _)))
          generalize hls : okL ((Gs.init n).run sch') ms = ls at *
          have hok : ∀ p ∈ ls, ((Gs.init n).run sch').Ok p := by rw [← hls]; exact okL_ok
          refine RB.new fun e0 H20 RB => ?_
          refine ne_nv0 (RB.led.lstAt (xs := nv ls) (.tail _ (.head _))) (RB.led.lstAt (.head _)) ?_
          have RB := RB.sub (List.sublist_cons_self _ _)
          refine ⟨_, rfl, ?_⟩
          by_cases h9 : ls = []
          · rw [h9, if_neg (by decide)]
            have RB := RB.sub (l' := [(mem, .lst (nv ms))]) (by first | exact .cons _ (.refl _) | exact .cons _ (.cons _ (.cons _ (.refl _))))
            exact hN _ _ ⟨_, _, _, _, B14, sch', mks', mm, rfl, s11.trans s14, RB.up (by omega), hup', by omega, by omega⟩
          · rw [show (!ls.isEmpty) = true from by cases ls with | nil => exact (h9 rfl).elim | cons _ _ => rfl, if_pos rfl]
            split
            · refine RB.take (by omega) (by omega) (by omega) fun H21 r5 RB a5 b5 => ?_
              refine ⟨rfl, ?_⟩
              split
              · refine RB.pick (.head _) (by omega) h9 (by omega) fun H22 p RB hp => ?_
                obtain ⟨en, RR, back⟩ := RB.run
                refine ⟨B14, R, n, sch', mks', _, p, rfl, RR, n0, n1, hok p hp, by omega, by omega, fun B23 H23 s23 RR => ?_⟩
                have RB := back B23 H23 _ _ _ s23 RR
                refine ⟨_, rfl, ?_⟩
                rw [if_neg (by decide)]
                have RB := RB.sub (l' := [(mem, .lst (nv ms))]) (by first | exact .cons _ (.refl _) | exact .cons _ (.cons _ (.cons _ (.refl _))))
                exact hN _ _ ⟨_, _, _, _, B23, sch', mks', mm + 1, rfl, (s11.trans s14).trans s23, RB.up (by omega), hup', by omega, by omega⟩
              · have RB := RB.sub (l' := [(mem, .lst (nv ms))]) (by first | exact .cons _ (.refl _) | exact .cons _ (.cons _ (.cons _ (.refl _))))
                exact hN _ _ ⟨_, _, _, _, B14, sch', mks', mm, rfl, s11.trans s14, RB.up (by omega), hup', by omega, by omega⟩
            · have RB := RB.sub (l' := [(mem, .lst (nv ms))]) (by first | exact .cons _ (.refl _) | exact .cons _ (.cons _ (.cons _ (.refl _))))
              exact hN _ _ ⟨_, _, _, _, B14, sch', mks', mm, rfl, s11.trans s14, RB.up (by omega), hup', by omega, by omega⟩
    · obtain ⟨y7, y9, y10, y11, B11, sch, mks, mm, rfl, s11, RB, hup, hsl, hmk⟩ := h
      walk_at "vc"
      exact q B11 H11 s11 (RB.led.subl (.cons _ (.refl _)))
/-! cut law_bag -/
def sp_law_bag (K : PySem.W.Frag) : Sp := fun vs H Q _ => ∃ (a : Addr) (ns : List Int) (k : Int), vs = [.ref a, .int k] ∧ SqL K H a (ns.map V.int) ∧ 0 ≤ k ∧ k < 100 ∧ ∀ p H', Urn H H' p [] 6100 → Q (.ref p) H'
theorem ok_law_bag (m : Mo K mg d) (sm : SM bs) : Fg P w K mg bs CX0 1 d.a_law_bag d.fd_law_bag ["script", "k"] (sp_law_bag K) := by
  refine ok (n := 0) m.F_law_bag sc_law_bag (fun vs H Q E h => ?_) (fun cdv A fr s H vs Q E hg hr h => ?_)
  · obtain ⟨a, ns, k, rfl, hS, h0, h1, q⟩ := h
    rfl
  · obtain ⟨a, ns, k, rfl, hS, h0, h1, q⟩ := h
    refine ⟨_, (pss_cons (ps_asg pe_int (pg_name (i := 2) sc_law_bag.nd rfl (.inl rfl)))
      (pss_cons (ps_if (pt_cmpR op_lt (pv 1) (pe_callB cr_len (by rfl) m.n_len (by decide +kernel) (pa_cons (pv 0) pa_nil)) (nomark _))
      (pss_one (ps_asg (pe_ix ix_list (pv 0) (pv 1) (fun _ _ => rfl)) (pg_name (i := 2) sc_law_bag.nd rfl (.inl rfl))))
      pss_nil)
      (pss_one (ps_ret (pe_lst (pa_cons (pe_callB (cr_max2 rfl) (by rfl) m.n_max (by decide +kernel) (pa_cons pe_int (pa_cons (pe_op op_sub (pv 2) (pe_op op_pow pe_int pe_int)) pa_nil))) (pa_cons (pe_op op_mod (pe_callTy cr_intI (by rfl) m.n_int (by decide +kernel) (pa_cons (pv 2) pa_nil)) (pe_op op_add (pe_op op_pow pe_int pe_int) pe_int)) (pa_cons (pe_op op_mul pe_int (pv 1)) pa_nil)))))))), ?_⟩
    walk_at "vc"
    refine LenK.ofL hS ?_
    walk_at "vc"
    split
    · obtain ⟨n, _, hn⟩ := atI_map h0 ‹_›
      refine IxLK.of hS hn ?_
      walk_at "vc"
      walk_at "sds"
      exact NewK.of (Led.nil H) fun p H1 L => q p H1 ⟨_, _, _, L, by omega, by omega, by omega, by omega, by omega⟩
    · walk_at "sds"
      exact NewK.of (Led.nil H) fun p H1 L => q p H1 ⟨_, _, _, L, by omega, by omega, by omega, by omega, by omega⟩
/-! cut law -/
def sp_law (K : PySem.W.Frag) : Sp := fun vs H Q _ => ∃ (a : Addr) (ns : List Int), vs = [.ref a] ∧ SqL K H a (ns.map V.int) ∧ ns.length ≤ 63 ∧ ∀ H', Q (.bl true) H'
theorem ok_law (m : Mo K mg d) (sm : SM bs) (G_law_right : Fg P w K mg bs CX0 14 d.a_law_right d.fd_law_right ["bag"] (sp_law_right K d)) (G_law_bag : Fg P w K mg bs CX0 1 d.a_law_bag d.fd_law_bag ["script", "k"] (sp_law_bag K)) : Fg P w K mg bs CX0 15 d.a_law d.fd_law ["script"] (sp_law K) := by
  refine ok (n := 14) m.F_law sc_law (fun vs H Q E h => ?_) (fun cdv A fr s H vs Q E hg hr h => ?_)
  · obtain ⟨a, ns, rfl, hS, hl, q⟩ := h
    rfl
  · obtain ⟨a, ns, rfl, hS, hl, q⟩ := h
    refine ⟨_, (pss_cons (ps_for PassesOwn.never rfl (pi_range1 (by rfl) m.n_range (pa_cons (pe_callB (cr_max2 rfl) (by rfl) m.n_max (by decide +kernel) (pa_cons pe_int (pa_cons (pe_callB (cr_min2 rfl) (by rfl) m.n_min (by decide +kernel) (pa_cons pe_int (pa_cons (pe_callB cr_len (by rfl) m.n_len (by decide +kernel) (pa_cons (pv 0) pa_nil)) pa_nil))) pa_nil))) pa_nil)) (pg_name (i := 1) sc_law.nd rfl (.inl rfl))
      (pss_one (ps_if (pt_not (pt_val (pg_call G_law_right hg (hr.mono (by decide)) (by rfl) m.g_law_right m.F_law_right.kp m.b_law_right .nil (fun _ => passG) (pa_cons (pg_call G_law_bag hg (hr.mono (by decide)) (by rfl) m.g_law_bag m.F_law_bag.kp m.b_law_bag .nil (fun _ => passG) (pa_cons (pv 0) (pa_cons (pv 1) pa_nil))) pa_nil))))
      (pss_one (ps_ret pe_bl))
      pss_nil)))
      (pss_one (ps_ret pe_bl))), ?_⟩
    walk_at "vc"
    refine LenK.ofL hS ?_
    rw [List.length_map]
    walk_at "vc"
    refine ⟨by omega, by omega, ?_⟩
    refine loop_range (fun i σ H' => ∃ y, σ = [some (.ref a), y] ∧ Same H H') ⟨_, rfl, Same.refl H⟩ (fun i σ H1 N hi h hN => ?_) (fun σ H1 h => ?_)
    · obtain ⟨y, rfl, s1⟩ := h
      have hi6 : i < 6 := by omega
      walk_at "vc"
      refine ⟨a, ns, (i : Int), rfl, s1.seq hS, by omega, by omega, fun u H2 U => ?_⟩
      walk_at "vc"
      refine ⟨u, H1, rfl, U, fun B3 H3 s3 L => ?_⟩
      exact ⟨_, rfl, by rw [if_neg (by decide)]; exact hN _ _ ⟨_, rfl, (s1.trans s3).trans L.sm⟩⟩
    · obtain ⟨y, rfl, s1⟩ := h
      walk_at "vc"
      exact q _
theorem law_end {K : PySem.W.Frag} {H : Hp} {a : Addr} {ns : List Int} (hl : ns.length ≤ 63) (hb : ∀ z ∈ ns, Builtin.Int.intBits z ≤ 1048576) (hS : SqL K H a (ns.map V.int)) : sp_law K [.ref a] H (fun v _ => v = .bl true) (fun _ _ _ => False) :=
  ⟨a, ns, rfl, hS, hl, fun _ => rfl⟩
end
theorem all_mk {q : Program} (hq : PyProof.Rows.importsNone q = true) {l : PySem.W.OpenLaw} {w : World} {K : PySem.W.Frag} {h : Heap} {mg : Str → Option Value} {fa : Addr} (X : K.In h) (G : h.Ns mainGlobals mg) (hfa : mg "law" = some (.ref fa))
    {f0 f1 f2 f3 f4 f5 f6 f7 f8 f9 f10 f11 f12 f13 f14 f15 f16 f17 f18 f19 f20 f21 f22 f23 f24 f25 f26 f27 f28 f29 f30 f31 f32 f33 f34 f35 f36 f37 f38 f39 f40 f41 f42 f43 cC0 cC1 cC2 : Addr} {od0 an0 od1 an1 od2 an2 od3 an3 od4 an4 od5 an5 od6 an6 od7 an7 od8 an8 od9 an9 od10 an10 od11 an11 od12 an12 od13 an13 od14 an14 od15 an15 od16 an16 od17 an17 od18 an18 od19 an19 od20 an20 od21 an21 od22 an22 od23 an23 od24 an24 od25 an25 od26 an26 od27 an27 od28 an28 od29 an29 od30 an30 od31 an31 od32 an32 od33 an33 od34 an34 od35 an35 od36 an36 od37 an37 od38 an38 od39 an39 od40 an40 od41 an41 od42 an42 od43 an43 : Option Addr} {pp21 pp22 pp23 pp24 pp26 : Addr} {pr21 pr22 pr23 pr24 pr26 : List Value} {sl0 sl1 sl2 sl3 sl4 sl5 sl6 sl7 sl8 sl9 sl10 sl11 sl12 sl13 sl14 sl15 sl16 sl17 sl18 sl19 sl20 sl21 sl22 sl23 sl24 sl25 sl26 sl27 sl28 sl29 sl30 sl31 sl32 sl33 sl34 sl35 sl36 sl37 sl38 sl39 sl40 sl41 sl42 sl43 : Array (Option Value)} {oc0 kV0 dc0 pm0 cd0 ct0 oc1 kV1 dc1 pm1 cd1 ct1 oc2 kV2 dc2 pm2 cd2 ct2 oc3 kV3 dc3 pm3 cd3 ct3 oc4 kV4 dc4 pm4 cd4 ct4 oc5 kV5 dc5 pm5 cd5 ct5 oc6 kV6 dc6 pm6 cd6 ct6 oc7 kV7 dc7 pm7 cd7 ct7 oc8 kV8 dc8 pm8 cd8 ct8 oc9 kV9 dc9 pm9 cd9 ct9 oc10 kV10 dc10 pm10 cd10 ct10 oc11 kV11 dc11 pm11 cd11 ct11 oc12 kV12 dc12 pm12 cd12 ct12 oc13 kV13 dc13 pm13 cd13 ct13 oc14 kV14 dc14 pm14 cd14 ct14 oc15 kV15 dc15 pm15 cd15 ct15 oc16 kV16 dc16 pm16 cd16 ct16 oc17 kV17 dc17 pm17 cd17 ct17 oc18 kV18 dc18 pm18 cd18 ct18 oc19 kV19 dc19 pm19 cd19 ct19 oc20 kV20 dc20 pm20 cd20 ct20 oc21 kV21 dc21 pm21 cd21 ct21 oc22 kV22 dc22 pm22 cd22 ct22 oc23 kV23 dc23 pm23 cd23 ct23 oc24 kV24 dc24 pm24 cd24 ct24 oc25 kV25 dc25 pm25 cd25 ct25 oc26 kV26 dc26 pm26 cd26 ct26 oc27 kV27 dc27 pm27 cd27 ct27 oc28 kV28 dc28 pm28 cd28 ct28 oc29 kV29 dc29 pm29 cd29 ct29 oc30 kV30 dc30 pm30 cd30 ct30 oc31 kV31 dc31 pm31 cd31 ct31 oc32 kV32 dc32 pm32 cd32 ct32 oc33 kV33 dc33 pm33 cd33 ct33 oc34 kV34 dc34 pm34 cd34 ct34 oc35 kV35 dc35 pm35 cd35 ct35 oc36 kV36 dc36 pm36 cd36 ct36 oc37 kV37 dc37 pm37 cd37 ct37 oc38 kV38 dc38 pm38 cd38 ct38 oc39 kV39 dc39 pm39 cd39 ct39 oc40 kV40 dc40 pm40 cd40 ct40 oc41 kV41 dc41 pm41 cd41 ct41 oc42 kV42 dc42 pm42 cd42 ct42 oc43 kV43 dc43 pm43 cd43 ct43 : Value} {tk0 tk1 tk2 tk3 : Tok}
    (ac0 : PySem.W.nsIn K mainGlobals "Splitter" = some (some (.ref cC0)))
    (ac1 : PySem.W.nsIn K mainGlobals "Walk" = some (some (.ref cC1)))
    (ac2 : PySem.W.nsIn K mainGlobals "Run" = some (some (.ref cC2)))
    (a0 : PySem.W.nsIn K mainGlobals "is_integer" = some (some (.ref f0)))
    (l0 : K.lookup f0 = some ⟨oc0, od0, .func (PySem.W.fnOf "is_integer" "is_integer" (defArgs s_is_integer) (defBody s_is_integer) (defScope s_is_integer) .none kV0 dc0 pm0 an0 cd0 ct0), sl0⟩)
    (c0 : PySem.W.codeIn K cd0 "is_integer" = true)
    (k0 : PySem.W.keepIn K (.ref f0) = true)
    (a1 : PySem.W.nsIn K mainGlobals "is_integer_within" = some (some (.ref f1)))
    (l1 : K.lookup f1 = some ⟨oc1, od1, .func (PySem.W.fnOf "is_integer_within" "is_integer_within" (defArgs s_is_integer_within) (defBody s_is_integer_within) (defScope s_is_integer_within) .none kV1 dc1 pm1 an1 cd1 ct1), sl1⟩)
    (c1 : PySem.W.codeIn K cd1 "is_integer_within" = true)
    (k1 : PySem.W.keepIn K (.ref f1) = true)
    (a2 : PySem.W.nsIn K mainGlobals "check_count" = some (some (.ref f2)))
    (l2 : K.lookup f2 = some ⟨oc2, od2, .func (PySem.W.fnOf "check_count" "check_count" (defArgs s_check_count) (defBody s_check_count) (defScope s_check_count) .none kV2 dc2 pm2 an2 cd2 ct2), sl2⟩)
    (c2 : PySem.W.codeIn K cd2 "check_count" = true)
    (k2 : PySem.W.keepIn K (.ref f2) = true)
    (a3 : PySem.W.findIn K (.ref cC1) "__init__" = some (some (.ref f3)))
    (i3 : PySem.W.isFn K (.ref f3) = true)
    (l3 : K.lookup f3 = some ⟨oc3, od3, .func (PySem.W.fnOf "__init__" "Walk.__init__" (defArgs s_Walk___init__) (defBody s_Walk___init__) (defScope s_Walk___init__) .none kV3 dc3 pm3 an3 cd3 ct3), sl3⟩)
    (c3 : PySem.W.codeIn K cd3 "Walk.__init__" = true)
    (k3 : PySem.W.keepIn K (.ref f3) = true)
    (a4 : PySem.W.findIn K (.ref cC0) "perform" = some (some (.ref f4)))
    (i4 : PySem.W.isFn K (.ref f4) = true)
    (l4 : K.lookup f4 = some ⟨oc4, od4, .func (PySem.W.fnOf "perform" "Splitter.perform" (defArgs s_Splitter_perform) (defBody s_Splitter_perform) (defScope s_Splitter_perform) .none kV4 dc4 pm4 an4 cd4 ct4), sl4⟩)
    (c4 : PySem.W.codeIn K cd4 "Splitter.perform" = true)
    (k4 : PySem.W.keepIn K (.ref f4) = true)
    (a5 : PySem.W.nsIn K mainGlobals "_check_coordinate" = some (some (.ref f5)))
    (l5 : K.lookup f5 = some ⟨oc5, od5, .func (PySem.W.fnOf "_check_coordinate" "_check_coordinate" (defArgs s_check_coordinate) (defBody s_check_coordinate) (defScope s_check_coordinate) .none kV5 dc5 pm5 an5 cd5 ct5), sl5⟩)
    (c5 : PySem.W.codeIn K cd5 "_check_coordinate" = true)
    (k5 : PySem.W.keepIn K (.ref f5) = true)
    (a6 : PySem.W.nsIn K mainGlobals "_cells_before" = some (some (.ref f6)))
    (l6 : K.lookup f6 = some ⟨oc6, od6, .func (PySem.W.fnOf "_cells_before" "_cells_before" (defArgs s_cells_before) (defBody s_cells_before) (defScope s_cells_before) .none kV6 dc6 pm6 an6 cd6 ct6), sl6⟩)
    (c6 : PySem.W.codeIn K cd6 "_cells_before" = true)
    (k6 : PySem.W.keepIn K (.ref f6) = true)
    (a7 : PySem.W.nsIn K mainGlobals "name_of" = some (some (.ref f7)))
    (l7 : K.lookup f7 = some ⟨oc7, od7, .func (PySem.W.fnOf "name_of" "name_of" (defArgs s_name_of) (defBody s_name_of) (defScope s_name_of) .none kV7 dc7 pm7 an7 cd7 ct7), sl7⟩)
    (c7 : PySem.W.codeIn K cd7 "name_of" = true)
    (k7 : PySem.W.keepIn K (.ref f7) = true)
    (a8 : PySem.W.findIn K (.ref cC1) "_end_in_cell" = some (some (.ref f8)))
    (i8 : PySem.W.isFn K (.ref f8) = true)
    (l8 : K.lookup f8 = some ⟨oc8, od8, .func (PySem.W.fnOf "_end_in_cell" "Walk._end_in_cell" (defArgs s_Walk__end_in_cell) (defBody s_Walk__end_in_cell) (defScope s_Walk__end_in_cell) .none kV8 dc8 pm8 an8 cd8 ct8), sl8⟩)
    (c8 : PySem.W.codeIn K cd8 "Walk._end_in_cell" = true)
    (k8 : PySem.W.keepIn K (.ref f8) = true)
    (a9 : PySem.W.findIn K (.ref cC0) "__init__" = some (some (.ref f9)))
    (i9 : PySem.W.isFn K (.ref f9) = true)
    (l9 : K.lookup f9 = some ⟨oc9, od9, .func (PySem.W.fnOf "__init__" "Splitter.__init__" (defArgs s_Splitter___init__) (defBody s_Splitter___init__) (defScope s_Splitter___init__) .none kV9 dc9 pm9 an9 cd9 ct9), sl9⟩)
    (c9 : PySem.W.codeIn K cd9 "Splitter.__init__" = true)
    (k9 : PySem.W.keepIn K (.ref f9) = true)
    (a10 : PySem.W.findIn K (.ref cC1) "_splitter_at" = some (some (.ref f10)))
    (i10 : PySem.W.isFn K (.ref f10) = true)
    (l10 : K.lookup f10 = some ⟨oc10, od10, .func (PySem.W.fnOf "_splitter_at" "Walk._splitter_at" (defArgs s_Walk__splitter_at) (defBody s_Walk__splitter_at) (defScope s_Walk__splitter_at) .none kV10 dc10 pm10 an10 cd10 ct10), sl10⟩)
    (c10 : PySem.W.codeIn K cd10 "Walk._splitter_at" = true)
    (k10 : PySem.W.keepIn K (.ref f10) = true)
    (a11 : PySem.W.findIn K (.ref cC1) "step" = some (some (.ref f11)))
    (i11 : PySem.W.isFn K (.ref f11) = true)
    (l11 : K.lookup f11 = some ⟨oc11, od11, .func (PySem.W.fnOf "step" "Walk.step" (defArgs s_Walk_step) (defBody s_Walk_step) (defScope s_Walk_step) .none kV11 dc11 pm11 an11 cd11 ct11), sl11⟩)
    (c11 : PySem.W.codeIn K cd11 "Walk.step" = true)
    (k11 : PySem.W.keepIn K (.ref f11) = true)
    (a12 : PySem.W.findIn K (.ref cC1) "can_step" = some (some (.ref f12)))
    (i12 : PySem.W.isFn K (.ref f12) = true)
    (l12 : K.lookup f12 = some ⟨oc12, od12, .func (PySem.W.fnOf "can_step" "Walk.can_step" (defArgs s_Walk_can_step) (defBody s_Walk_can_step) (defScope s_Walk_can_step) .none kV12 dc12 pm12 an12 cd12 ct12), sl12⟩)
    (c12 : PySem.W.codeIn K cd12 "Walk.can_step" = true)
    (k12 : PySem.W.keepIn K (.ref f12) = true)
    (a13 : PySem.W.nsIn K mainGlobals "perform_schedule" = some (some (.ref f13)))
    (l13 : K.lookup f13 = some ⟨oc13, od13, .func (PySem.W.fnOf "perform_schedule" "perform_schedule" (defArgs s_perform_schedule) (defBody s_perform_schedule) (defScope s_perform_schedule) .none kV13 dc13 pm13 an13 cd13 ct13), sl13⟩)
    (c13 : PySem.W.codeIn K cd13 "perform_schedule" = true)
    (k13 : PySem.W.keepIn K (.ref f13) = true)
    (a14 : PySem.W.nsIn K mainGlobals "walk_after" = some (some (.ref f14)))
    (l14 : K.lookup f14 = some ⟨oc14, od14, .func (PySem.W.fnOf "walk_after" "walk_after" (defArgs s_walk_after) (defBody s_walk_after) (defScope s_walk_after) .none kV14 dc14 pm14 an14 cd14 ct14), sl14⟩)
    (c14 : PySem.W.codeIn K cd14 "walk_after" = true)
    (k14 : PySem.W.keepIn K (.ref f14) = true)
    (a15 : PySem.W.nsIn K mainGlobals "_words_of" = some (some (.ref f15)))
    (l15 : K.lookup f15 = some ⟨oc15, od15, .func (PySem.W.fnOf "_words_of" "_words_of" (defArgs s_words_of) (defBody s_words_of) (defScope s_words_of) .none kV15 dc15 pm15 an15 cd15 ct15), sl15⟩)
    (c15 : PySem.W.codeIn K cd15 "_words_of" = true)
    (k15 : PySem.W.keepIn K (.ref f15) = true)
    (a16 : PySem.W.nsIn K mainGlobals "read_number" = some (some (.ref f16)))
    (l16 : K.lookup f16 = some ⟨oc16, od16, .func (PySem.W.fnOf "read_number" "read_number" (defArgs s_read_number) (defBody s_read_number) (defScope s_read_number) .none kV16 dc16 pm16 an16 cd16 ct16), sl16⟩)
    (c16 : PySem.W.codeIn K cd16 "read_number" = true)
    (k16 : PySem.W.keepIn K (.ref f16) = true)
    (a17 : PySem.W.nsIn K mainGlobals "_read_schedule" = some (some (.ref f17)))
    (l17 : K.lookup f17 = some ⟨oc17, od17, .func (PySem.W.fnOf "_read_schedule" "_read_schedule" (defArgs s_read_schedule) (defBody s_read_schedule) (defScope s_read_schedule) .none kV17 dc17 pm17 an17 cd17 ct17), sl17⟩)
    (c17 : PySem.W.codeIn K cd17 "_read_schedule" = true)
    (k17 : PySem.W.keepIn K (.ref f17) = true)
    (a18 : PySem.W.nsIn K mainGlobals "read_run" = some (some (.ref f18)))
    (l18 : K.lookup f18 = some ⟨oc18, od18, .func (PySem.W.fnOf "read_run" "read_run" (defArgs s_read_run) (defBody s_read_run) (defScope s_read_run) .none kV18 dc18 pm18 an18 cd18 ct18), sl18⟩)
    (c18 : PySem.W.codeIn K cd18 "read_run" = true)
    (k18 : PySem.W.keepIn K (.ref f18) = true)
    (a19 : PySem.W.findIn K (.ref cC2) "__init__" = some (some (.ref f19)))
    (i19 : PySem.W.isFn K (.ref f19) = true)
    (l19 : K.lookup f19 = some ⟨oc19, od19, .func (PySem.W.fnOf "__init__" "Run.__init__" (defArgs s_Run___init__) (defBody s_Run___init__) (defScope s_Run___init__) .none kV19 dc19 pm19 an19 cd19 ct19), sl19⟩)
    (c19 : PySem.W.codeIn K cd19 "Run.__init__" = true)
    (k19 : PySem.W.keepIn K (.ref f19) = true)
    (a20 : PySem.W.findIn K (.ref cC2) "finish" = some (some (.ref f20)))
    (i20 : PySem.W.isFn K (.ref f20) = true)
    (l20 : K.lookup f20 = some ⟨oc20, od20, .func (PySem.W.fnOf "finish" "Run.finish" (defArgs s_Run_finish) (defBody s_Run_finish) (defScope s_Run_finish) .none kV20 dc20 pm20 an20 cd20 ct20), sl20⟩)
    (c20 : PySem.W.codeIn K cd20 "Run.finish" = true)
    (k20 : PySem.W.keepIn K (.ref f20) = true)
    (a21 : PySem.W.findIn K (.ref cC2) "places_now" = some (some (.ref pp21)))
    (pg_21 : PySem.W.specialIn K (.ref pp21) "__get__" = some (some (.builtin "property.__get__")))
    (pt_21 : PySem.W.takesIn K (.ref pp21) = some true)
    (pc_21 : PySem.W.recIn K pp21 "property" = some (.ref f21 :: pr21))
    (l21 : K.lookup f21 = some ⟨oc21, od21, .func (PySem.W.fnOf "places_now" "Run.places_now" (defArgs s_Run_places_now) (defBody s_Run_places_now) (defScope s_Run_places_now) .none kV21 dc21 pm21 an21 cd21 ct21), sl21⟩)
    (c21 : PySem.W.codeIn K cd21 "Run.places_now" = true)
    (k21 : PySem.W.keepIn K (.ref f21) = true)
    (a22 : PySem.W.findIn K (.ref cC2) "names_now" = some (some (.ref pp22)))
    (pg_22 : PySem.W.specialIn K (.ref pp22) "__get__" = some (some (.builtin "property.__get__")))
    (pt_22 : PySem.W.takesIn K (.ref pp22) = some true)
    (pc_22 : PySem.W.recIn K pp22 "property" = some (.ref f22 :: pr22))
    (l22 : K.lookup f22 = some ⟨oc22, od22, .func (PySem.W.fnOf "names_now" "Run.names_now" (defArgs s_Run_names_now) (defBody s_Run_names_now) (defScope s_Run_names_now) .none kV22 dc22 pm22 an22 cd22 ct22), sl22⟩)
    (c22 : PySem.W.codeIn K cd22 "Run.names_now" = true)
    (k22 : PySem.W.keepIn K (.ref f22) = true)
    (a23 : PySem.W.findIn K (.ref cC2) "steps_done" = some (some (.ref pp23)))
    (pg_23 : PySem.W.specialIn K (.ref pp23) "__get__" = some (some (.builtin "property.__get__")))
    (pt_23 : PySem.W.takesIn K (.ref pp23) = some true)
    (pc_23 : PySem.W.recIn K pp23 "property" = some (.ref f23 :: pr23))
    (l23 : K.lookup f23 = some ⟨oc23, od23, .func (PySem.W.fnOf "steps_done" "Run.steps_done" (defArgs s_Run_steps_done) (defBody s_Run_steps_done) (defScope s_Run_steps_done) .none kV23 dc23 pm23 an23 cd23 ct23), sl23⟩)
    (c23 : PySem.W.codeIn K cd23 "Run.steps_done" = true)
    (k23 : PySem.W.keepIn K (.ref f23) = true)
    (a24 : PySem.W.findCls K (.ref cC2) (.type "type") "read" = some (.get (.builtin "classmethod.__get__") (.ref pp24) .none (.ref cC2)))
    (pc_24 : PySem.W.recIn K pp24 "classmethod" = some (.ref f24 :: pr24))
    (pf_24 : PySem.W.fnIn K f24 = true)
    (l24 : K.lookup f24 = some ⟨oc24, od24, .func (PySem.W.fnOf "read" "Run.read" (defArgs s_Run_read) (defBody s_Run_read) (defScope s_Run_read) .none kV24 dc24 pm24 an24 cd24 ct24), sl24⟩)
    (c24 : PySem.W.codeIn K cd24 "Run.read" = true)
    (k24 : PySem.W.keepIn K (.ref f24) = true)
    (a25 : PySem.W.findIn K (.ref cC2) "__len__" = some (some (.ref f25)))
    (ti25 : PySem.W.typeIn K (.ref f25) = some (.type "function"))
    (l25 : K.lookup f25 = some ⟨oc25, od25, .func (PySem.W.fnOf "__len__" "Run.__len__" (defArgs s_Run___len__) (defBody s_Run___len__) (defScope s_Run___len__) .none kV25 dc25 pm25 an25 cd25 ct25), sl25⟩)
    (c25 : PySem.W.codeIn K cd25 "Run.__len__" = true)
    (k25 : PySem.W.keepIn K (.ref f25) = true)
    (a26 : PySem.W.findIn K (.ref cC2) "process_count" = some (some (.ref pp26)))
    (pg_26 : PySem.W.specialIn K (.ref pp26) "__get__" = some (some (.builtin "property.__get__")))
    (pt_26 : PySem.W.takesIn K (.ref pp26) = some true)
    (pc_26 : PySem.W.recIn K pp26 "property" = some (.ref f26 :: pr26))
    (l26 : K.lookup f26 = some ⟨oc26, od26, .func (PySem.W.fnOf "process_count" "Run.process_count" (defArgs s_Run_process_count) (defBody s_Run_process_count) (defScope s_Run_process_count) .none kV26 dc26 pm26 an26 cd26 ct26), sl26⟩)
    (c26 : PySem.W.codeIn K cd26 "Run.process_count" = true)
    (k26 : PySem.W.keepIn K (.ref f26) = true)
    (a27 : PySem.W.findIn K (.ref cC2) "__eq__" = some (some (.ref f27)))
    (i27 : PySem.W.isFn K (.ref f27) = true)
    (l27 : K.lookup f27 = some ⟨oc27, od27, .func (PySem.W.fnOf "__eq__" "Run.__eq__" (defArgs s_Run___eq__) (defBody s_Run___eq__) (defScope s_Run___eq__) .none kV27 dc27 pm27 an27 cd27 ct27), sl27⟩)
    (c27 : PySem.W.codeIn K cd27 "Run.__eq__" = true)
    (k27 : PySem.W.keepIn K (.ref f27) = true)
    (a28 : PySem.W.findIn K (.ref cC2) "play" = some (some (.ref f28)))
    (i28 : PySem.W.isFn K (.ref f28) = true)
    (l28 : K.lookup f28 = some ⟨oc28, od28, .func (PySem.W.fnOf "play" "Run.play" (defArgs s_Run_play) (defBody s_Run_play) (defScope s_Run_play) .none kV28 dc28 pm28 an28 cd28 ct28), sl28⟩)
    (c28 : PySem.W.codeIn K cd28 "Run.play" = true)
    (k28 : PySem.W.keepIn K (.ref f28) = true)
    (a29 : PySem.W.findIn K (.ref cC2) "step" = some (some (.ref f29)))
    (i29 : PySem.W.isFn K (.ref f29) = true)
    (l29 : K.lookup f29 = some ⟨oc29, od29, .func (PySem.W.fnOf "step" "Run.step" (defArgs s_Run_step) (defBody s_Run_step) (defScope s_Run_step) .none kV29 dc29 pm29 an29 cd29 ct29), sl29⟩)
    (c29 : PySem.W.codeIn K cd29 "Run.step" = true)
    (k29 : PySem.W.keepIn K (.ref f29) = true)
    (a30 : PySem.W.findIn K (.ref cC2) "_return_to" = some (some (.ref f30)))
    (i30 : PySem.W.isFn K (.ref f30) = true)
    (l30 : K.lookup f30 = some ⟨oc30, od30, .func (PySem.W.fnOf "_return_to" "Run._return_to" (defArgs s_Run__return_to) (defBody s_Run__return_to) (defScope s_Run__return_to) .none kV30 dc30 pm30 an30 cd30 ct30), sl30⟩)
    (c30 : PySem.W.codeIn K cd30 "Run._return_to" = true)
    (k30 : PySem.W.keepIn K (.ref f30) = true)
    (a31 : PySem.W.findIn K (.ref cC2) "undo" = some (some (.ref f31)))
    (i31 : PySem.W.isFn K (.ref f31) = true)
    (l31 : K.lookup f31 = some ⟨oc31, od31, .func (PySem.W.fnOf "undo" "Run.undo" (defArgs s_Run_undo) (defBody s_Run_undo) (defScope s_Run_undo) .none kV31 dc31 pm31 an31 cd31 ct31), sl31⟩)
    (c31 : PySem.W.codeIn K cd31 "Run.undo" = true)
    (k31 : PySem.W.keepIn K (.ref f31) = true)
    (a32 : PySem.W.nsIn K mainGlobals "_law_take" = some (some (.ref f32)))
    (l32 : K.lookup f32 = some ⟨oc32, od32, .func (PySem.W.fnOf "_law_take" "_law_take" (defArgs s_law_take) (defBody s_law_take) (defScope s_law_take) .none kV32 dc32 pm32 an32 cd32 ct32), sl32⟩)
    (c32 : PySem.W.codeIn K cd32 "_law_take" = true)
    (k32 : PySem.W.keepIn K (.ref f32) = true)
    (a33 : PySem.W.nsIn K mainGlobals "_law_again" = some (some (.ref f33)))
    (l33 : K.lookup f33 = some ⟨oc33, od33, .func (PySem.W.fnOf "_law_again" "_law_again" (defArgs s_law_again) (defBody s_law_again) (defScope s_law_again) .none kV33 dc33 pm33 an33 cd33 ct33), sl33⟩)
    (c33 : PySem.W.codeIn K cd33 "_law_again" = true)
    (k33 : PySem.W.keepIn K (.ref f33) = true)
    (a34 : PySem.W.nsIn K mainGlobals "_law_stands" = some (some (.ref f34)))
    (l34 : K.lookup f34 = some ⟨oc34, od34, .func (PySem.W.fnOf "_law_stands" "_law_stands" (defArgs s_law_stands) (defBody s_law_stands) (defScope s_law_stands) .none kV34 dc34 pm34 an34 cd34 ct34), sl34⟩)
    (c34 : PySem.W.codeIn K cd34 "_law_stands" = true)
    (k34 : PySem.W.keepIn K (.ref f34) = true)
    (a35 : PySem.W.nsIn K mainGlobals "_law_steps_alone" = some (some (.ref f35)))
    (l35 : K.lookup f35 = some ⟨oc35, od35, .func (PySem.W.fnOf "_law_steps_alone" "_law_steps_alone" (defArgs s_law_steps_alone) (defBody s_law_steps_alone) (defScope s_law_steps_alone) .none kV35 dc35 pm35 an35 cd35 ct35), sl35⟩)
    (c35 : PySem.W.codeIn K cd35 "_law_steps_alone" = true)
    (k35 : PySem.W.keepIn K (.ref f35) = true)
    (a36 : PySem.W.nsIn K mainGlobals "_law_diagonal" = some (some (.ref f36)))
    (l36 : K.lookup f36 = some ⟨oc36, od36, .func (PySem.W.fnOf "_law_diagonal" "_law_diagonal" (defArgs s_law_diagonal) (defBody s_law_diagonal) (defScope s_law_diagonal) .none kV36 dc36 pm36 an36 cd36 ct36), sl36⟩)
    (c36 : PySem.W.codeIn K cd36 "_law_diagonal" = true)
    (k36 : PySem.W.keepIn K (.ref f36) = true)
    (a37 : PySem.W.nsIn K mainGlobals "_law_alone_right" = some (some (.ref f37)))
    (l37 : K.lookup f37 = some ⟨oc37, od37, .func (PySem.W.fnOf "_law_alone_right" "_law_alone_right" (defArgs s_law_alone_right) (defBody s_law_alone_right) (defScope s_law_alone_right) .none kV37 dc37 pm37 an37 cd37 ct37), sl37⟩)
    (c37 : PySem.W.codeIn K cd37 "_law_alone_right" = true)
    (k37 : PySem.W.keepIn K (.ref f37) = true)
    (a38 : PySem.W.nsIn K mainGlobals "_law_pick" = some (some (.ref f38)))
    (l38 : K.lookup f38 = some ⟨oc38, od38, .func (PySem.W.fnOf "_law_pick" "_law_pick" (defArgs s_law_pick) (defBody s_law_pick) (defScope s_law_pick) .none kV38 dc38 pm38 an38 cd38 ct38), sl38⟩)
    (c38 : PySem.W.codeIn K cd38 "_law_pick" = true)
    (k38 : PySem.W.keepIn K (.ref f38) = true)
    (a39 : PySem.W.nsIn K mainGlobals "_law_played" = some (some (.ref f39)))
    (l39 : K.lookup f39 = some ⟨oc39, od39, .func (PySem.W.fnOf "_law_played" "_law_played" (defArgs s_law_played) (defBody s_law_played) (defScope s_law_played) .none kV39 dc39 pm39 an39 cd39 ct39), sl39⟩)
    (c39 : PySem.W.codeIn K cd39 "_law_played" = true)
    (k39 : PySem.W.keepIn K (.ref f39) = true)
    (a40 : PySem.W.nsIn K mainGlobals "_law_changed" = some (some (.ref f40)))
    (l40 : K.lookup f40 = some ⟨oc40, od40, .func (PySem.W.fnOf "_law_changed" "_law_changed" (defArgs s_law_changed) (defBody s_law_changed) (defScope s_law_changed) .none kV40 dc40 pm40 an40 cd40 ct40), sl40⟩)
    (c40 : PySem.W.codeIn K cd40 "_law_changed" = true)
    (k40 : PySem.W.keepIn K (.ref f40) = true)
    (a41 : PySem.W.nsIn K mainGlobals "_law_right" = some (some (.ref f41)))
    (l41 : K.lookup f41 = some ⟨oc41, od41, .func (PySem.W.fnOf "_law_right" "_law_right" (defArgs s_law_right) (defBody s_law_right) (defScope s_law_right) .none kV41 dc41 pm41 an41 cd41 ct41), sl41⟩)
    (c41 : PySem.W.codeIn K cd41 "_law_right" = true)
    (k41 : PySem.W.keepIn K (.ref f41) = true)
    (a42 : PySem.W.nsIn K mainGlobals "_law_bag" = some (some (.ref f42)))
    (l42 : K.lookup f42 = some ⟨oc42, od42, .func (PySem.W.fnOf "_law_bag" "_law_bag" (defArgs s_law_bag) (defBody s_law_bag) (defScope s_law_bag) .none kV42 dc42 pm42 an42 cd42 ct42), sl42⟩)
    (c42 : PySem.W.codeIn K cd42 "_law_bag" = true)
    (k42 : PySem.W.keepIn K (.ref f42) = true)
    (a43 : PySem.W.nsIn K mainGlobals "law" = some (some (.ref f43)))
    (l43 : K.lookup f43 = some ⟨oc43, od43, .func (PySem.W.fnOf "law" "law" (defArgs s_law) (defBody s_law) (defScope s_law) .none kV43 dc43 pm43 an43 cd43 ct43), sl43⟩)
    (c43 : PySem.W.codeIn K cd43 "law" = true)
    (k43 : PySem.W.keepIn K (.ref f43) = true)
    (pg0 : PySem.W.plainGet K cC0 Str.empty = true)
    (hd0 : PySem.W.hasDictIn K cC0 = true)
    (po0 : PySem.W.plainOver K cC0 = true)
    (sa0 : PySem.W.findIn K (.ref cC0) "__setattr__" = some (some (.builtin "object.__setattr__")))
    (mk0 : PySem.W.makesIn K cC0 = true)
    (kc0 : PySem.W.keepIn K (.ref cC0) = true)
    (x0_writer : PySem.W.findIn K (.ref cC0) "writer" = some none)
    (x0_closed : PySem.W.findIn K (.ref cC0) "closed" = some none)
    (pg1 : PySem.W.plainGet K cC1 Str.empty = true)
    (hd1 : PySem.W.hasDictIn K cC1 = true)
    (po1 : PySem.W.plainOver K cC1 = true)
    (sa1 : PySem.W.findIn K (.ref cC1) "__setattr__" = some (some (.builtin "object.__setattr__")))
    (mk1 : PySem.W.makesIn K cC1 = true)
    (kc1 : PySem.W.keepIn K (.ref cC1) = true)
    (x1_cells : PySem.W.findIn K (.ref cC1) "cells" = some none)
    (x1_places : PySem.W.findIn K (.ref cC1) "places" = some none)
    (x1_done : PySem.W.findIn K (.ref cC1) "done" = some none)
    (x1_names : PySem.W.findIn K (.ref cC1) "names" = some none)
    (x1_steps : PySem.W.findIn K (.ref cC1) "steps" = some none)
    (x1_reports : PySem.W.findIn K (.ref cC1) "reports" = some none)
    (pg2 : PySem.W.plainGet K cC2 Str.empty = true)
    (hd2 : PySem.W.hasDictIn K cC2 = true)
    (po2 : PySem.W.plainOver K cC2 = true)
    (sa2 : PySem.W.findIn K (.ref cC2) "__setattr__" = some (some (.builtin "object.__setattr__")))
    (mk2 : PySem.W.makesIn K cC2 = true)
    (kc2 : PySem.W.keepIn K (.ref cC2) = true)
    (x2__walk : PySem.W.findIn K (.ref cC2) "_walk" = some none)
    (x2__marks : PySem.W.findIn K (.ref cC2) "_marks" = some none)
    (qn2 : PySem.W.findIn K (.ref cC2) "__ne__" = some (some (.builtin "object.__ne__")))
    (qm2 : PySem.W.mroIn K cC2 (.type "object") = some true)
    (qa2 : PySem.W.findIn K (.ref cC2) "__class__" = some (some (.builtin "object.__class__")))
    (qb2 : PySem.W.specialIn K (.builtin "object.__class__") "__get__" = some (some (.builtin "getset_descriptor.__get__")))
    (qc2 : PySem.W.takesIn K (.builtin "object.__class__") = some true)
    (yr_Run : PySem.W.readsIn K cC2 (.type "type") = true)
    (yg_Run : PySem.W.specialIn K (.ref cC2) "__getattribute__" = some (some (.builtin "type.__getattribute__")))
    (yi_Run : PySem.W.isClsIn K cC2 = true)
    (z_bool : PySem.W.nsIn K mainGlobals "bool" = some none)
    (z_int : PySem.W.nsIn K mainGlobals "int" = some none)
    (z_isinstance : PySem.W.nsIn K mainGlobals "isinstance" = some none)
    (z_len : PySem.W.nsIn K mainGlobals "len" = some none)
    (z_list : PySem.W.nsIn K mainGlobals "list" = some none)
    (z_max : PySem.W.nsIn K mainGlobals "max" = some none)
    (z_min : PySem.W.nsIn K mainGlobals "min" = some none)
    (z_range : PySem.W.nsIn K mainGlobals "range" = some none)
    (z_str : PySem.W.nsIn K mainGlobals "str" = some none)
    (z_zip : PySem.W.nsIn K mainGlobals "zip" = some none)
    (q0 : PySem.W.nsIn K mainGlobals "EMPTY_SCHEDULE" = some (some (.str "-" tk0)))
    (q1 : PySem.W.nsIn K mainGlobals "GREATEST_COORDINATE" = some (some (.int (1000000000000000) tk1)))
    (q2 : PySem.W.nsIn K mainGlobals "GREATEST_COUNT" = some (some (.int (40) tk2)))
    (q3 : PySem.W.nsIn K mainGlobals "MOST_DIGITS" = some (some (.int (40) tk3))) :
    ∃ fd : FuncData, (∀ (s : Shared) (v : Value), BindsTo s fd ⟨[v], []⟩ [("script", v)]) ∧ ∀ bs : Heap, K.In bs → bs.Ns mainGlobals mg → (PyProof.Rows.importsNone q = true → ∃ mm, bs.Ns sysModules mm) → Fg l.prog w K mg bs CX0 15 fa fd ["script"] (sp_law K) := by
  have e := hfa.symm.trans (PySem.W.mg_of X G a43)
  cases e
  have F0 := fun_mk (st := s_is_integer) l0 c0 k0
  have b0 := F0.binds (ps := ["value"]) fun _ _ _ _ _ _ us hl => match us, hl with | [_], _ => rfl
  have F1 := fun_mk (st := s_is_integer_within) l1 c1 k1
  have b1 := F1.binds (ps := ["value", "least", "greatest"]) fun _ _ _ _ _ _ us hl => match us, hl with | [_, _, _], _ => rfl
  have F2 := fun_mk (st := s_check_count) l2 c2 k2
  have b2 := F2.binds (ps := ["count", "greatest"]) fun _ _ _ _ _ _ us hl => match us, hl with | [_, _], _ => rfl
  have F3 := fun_mk (st := s_Walk___init__) l3 c3 k3
  have b3 := F3.binds (ps := ["self", "count"]) fun _ _ _ _ _ _ us hl => match us, hl with | [_, _], _ => rfl
  have F4 := fun_mk (st := s_Splitter_perform) l4 c4 k4
  have b4 := F4.binds (ps := ["self", "process", "done"]) fun _ _ _ _ _ _ us hl => match us, hl with | [_, _, _], _ => rfl
  have F5 := fun_mk (st := s_check_coordinate) l5 c5 k5
  have b5 := F5.binds (ps := ["value"]) fun _ _ _ _ _ _ us hl => match us, hl with | [_], _ => rfl
  have F6 := fun_mk (st := s_cells_before) l6 c6 k6
  have b6 := F6.binds (ps := ["diagonal"]) fun _ _ _ _ _ _ us hl => match us, hl with | [_], _ => rfl
  have F7 := fun_mk (st := s_name_of) l7 c7 k7
  have b7 := F7.binds (ps := ["right", "down"]) fun _ _ _ _ _ _ us hl => match us, hl with | [_, _], _ => rfl
  have F8 := fun_mk (st := s_Walk__end_in_cell) l8 c8 k8
  have b8 := F8.binds (ps := ["self", "process", "result"]) fun _ _ _ _ _ _ us hl => match us, hl with | [_, _, _], _ => rfl
  have F9 := fun_mk (st := s_Splitter___init__) l9 c9 k9
  have b9 := F9.binds (ps := ["self"]) fun _ _ _ _ _ _ us hl => match us, hl with | [_], _ => rfl
  have F10 := fun_mk (st := s_Walk__splitter_at) l10 c10 k10
  have b10 := F10.binds (ps := ["self", "place"]) fun _ _ _ _ _ _ us hl => match us, hl with | [_, _], _ => rfl
  have F11 := fun_mk (st := s_Walk_step) l11 c11 k11
  have b11 := F11.binds (ps := ["self", "process"]) fun _ _ _ _ _ _ us hl => match us, hl with | [_, _], _ => rfl
  have F12 := fun_mk (st := s_Walk_can_step) l12 c12 k12
  have b12 := F12.binds (ps := ["self", "process"]) fun _ _ _ _ _ _ us hl => match us, hl with | [_, _], _ => rfl
  have F13 := fun_mk (st := s_perform_schedule) l13 c13 k13
  have b13 := F13.binds (ps := ["run", "schedule"]) fun _ _ _ _ _ _ us hl => match us, hl with | [_, _], _ => rfl
  have F14 := fun_mk (st := s_walk_after) l14 c14 k14
  have b14 := F14.binds (ps := ["count", "schedule"]) fun _ _ _ _ _ _ us hl => match us, hl with | [_, _], _ => rfl
  have F15 := fun_mk (st := s_words_of) l15 c15 k15
  have b15 := F15.binds (ps := ["text"]) fun _ _ _ _ _ _ us hl => match us, hl with | [_], _ => rfl
  have F16 := fun_mk (st := s_read_number) l16 c16 k16
  have b16 := F16.binds (ps := ["word", "most_digits"]) fun _ _ _ _ _ _ us hl => match us, hl with | [_, _], _ => rfl
  have F17 := fun_mk (st := s_read_schedule) l17 c17 k17
  have b17 := F17.binds (ps := ["word"]) fun _ _ _ _ _ _ us hl => match us, hl with | [_], _ => rfl
  have F18 := fun_mk (st := s_read_run) l18 c18 k18
  have b18 := F18.binds (ps := ["text"]) fun _ _ _ _ _ _ us hl => match us, hl with | [_], _ => rfl
  have F19 := fun_mk (st := s_Run___init__) l19 c19 k19
  have b19 := F19.binds (ps := ["self", "count"]) fun _ _ _ _ _ _ us hl => match us, hl with | [_, _], _ => rfl
  have F20 := fun_mk (st := s_Run_finish) l20 c20 k20
  have b20 := F20.binds (ps := ["self", "process"]) fun _ _ _ _ _ _ us hl => match us, hl with | [_, _], _ => rfl
  have F21 := fun_mk (st := s_Run_places_now) l21 c21 k21
  have b21 := F21.binds (ps := ["self"]) fun _ _ _ _ _ _ us hl => match us, hl with | [_], _ => rfl
  have F22 := fun_mk (st := s_Run_names_now) l22 c22 k22
  have b22 := F22.binds (ps := ["self"]) fun _ _ _ _ _ _ us hl => match us, hl with | [_], _ => rfl
  have F23 := fun_mk (st := s_Run_steps_done) l23 c23 k23
  have b23 := F23.binds (ps := ["self"]) fun _ _ _ _ _ _ us hl => match us, hl with | [_], _ => rfl
  have F24 := fun_mk (st := s_Run_read) l24 c24 k24
  have b24 := F24.binds (ps := ["cls", "text"]) fun _ _ _ _ _ _ us hl => match us, hl with | [_, _], _ => rfl
  have F25 := fun_mk (st := s_Run___len__) l25 c25 k25
  have b25 := F25.binds (ps := ["self"]) fun _ _ _ _ _ _ us hl => match us, hl with | [_], _ => rfl
  have F26 := fun_mk (st := s_Run_process_count) l26 c26 k26
  have b26 := F26.binds (ps := ["self"]) fun _ _ _ _ _ _ us hl => match us, hl with | [_], _ => rfl
  have F27 := fun_mk (st := s_Run___eq__) l27 c27 k27
  have b27 := F27.binds (ps := ["self", "other"]) fun _ _ _ _ _ _ us hl => match us, hl with | [_, _], _ => rfl
  have F28 := fun_mk (st := s_Run_play) l28 c28 k28
  have F29 := fun_mk (st := s_Run_step) l29 c29 k29
  have b29 := F29.binds (ps := ["self", "process"]) fun _ _ _ _ _ _ us hl => match us, hl with | [_, _], _ => rfl
  have F30 := fun_mk (st := s_Run__return_to) l30 c30 k30
  have b30 := F30.binds (ps := ["self", "mark"]) fun _ _ _ _ _ _ us hl => match us, hl with | [_, _], _ => rfl
  have F31 := fun_mk (st := s_Run_undo) l31 c31 k31
  have b31 := F31.binds (ps := ["self"]) fun _ _ _ _ _ _ us hl => match us, hl with | [_], _ => rfl
  have F32 := fun_mk (st := s_law_take) l32 c32 k32
  have b32 := F32.binds (ps := ["bag", "many"]) fun _ _ _ _ _ _ us hl => match us, hl with | [_, _], _ => rfl
  have F33 := fun_mk (st := s_law_again) l33 c33 k33
  have b33 := F33.binds (ps := ["run"]) fun _ _ _ _ _ _ us hl => match us, hl with | [_], _ => rfl
  have F34 := fun_mk (st := s_law_stands) l34 c34 k34
  have b34 := F34.binds (ps := ["run", "places", "names", "steps"]) fun _ _ _ _ _ _ us hl => match us, hl with | [_, _, _, _], _ => rfl
  have F35 := fun_mk (st := s_law_steps_alone) l35 c35 k35
  have b35 := F35.binds (ps := ["other", "process", "added", "found"]) fun _ _ _ _ _ _ us hl => match us, hl with | [_, _, _, _], _ => rfl
  have F36 := fun_mk (st := s_law_diagonal) l36 c36 k36
  have b36 := F36.binds (ps := ["name"]) fun _ _ _ _ _ _ us hl => match us, hl with | [_], _ => rfl
  have F37 := fun_mk (st := s_law_alone_right) l37 c37 k37
  have b37 := F37.binds (ps := ["run", "process"]) fun _ _ _ _ _ _ us hl => match us, hl with | [_, _], _ => rfl
  have F38 := fun_mk (st := s_law_pick) l38 c38 k38
  have b38 := F38.binds (ps := ["bag", "values"]) fun _ _ _ _ _ _ us hl => match us, hl with | [_, _], _ => rfl
  have F39 := fun_mk (st := s_law_played) l39 c39 k39
  have b39 := F39.binds (ps := ["bag", "run", "left"]) fun _ _ _ _ _ _ us hl => match us, hl with | [_, _, _], _ => rfl
  have F40 := fun_mk (st := s_law_changed) l40 c40 k40
  have b40 := F40.binds (ps := ["bag", "run", "left", "depth"]) fun _ _ _ _ _ _ us hl => match us, hl with | [_, _, _, _], _ => rfl
  have F41 := fun_mk (st := s_law_right) l41 c41 k41
  have b41 := F41.binds (ps := ["bag"]) fun _ _ _ _ _ _ us hl => match us, hl with | [_], _ => rfl
  have F42 := fun_mk (st := s_law_bag) l42 c42 k42
  have b42 := F42.binds (ps := ["script", "k"]) fun _ _ _ _ _ _ us hl => match us, hl with | [_, _], _ => rfl
  have F43 := fun_mk (st := s_law) l43 c43 k43
  have b43 := F43.binds (ps := ["script"]) fun _ _ _ _ _ _ us hl => match us, hl with | [_], _ => rfl
  have m : Mo K mg ⟨f0, (PySem.W.fnOf "is_integer" "is_integer" (defArgs s_is_integer) (defBody s_is_integer) (defScope s_is_integer) .none kV0 dc0 pm0 an0 cd0 ct0), f1, (PySem.W.fnOf "is_integer_within" "is_integer_within" (defArgs s_is_integer_within) (defBody s_is_integer_within) (defScope s_is_integer_within) .none kV1 dc1 pm1 an1 cd1 ct1), f2, (PySem.W.fnOf "check_count" "check_count" (defArgs s_check_count) (defBody s_check_count) (defScope s_check_count) .none kV2 dc2 pm2 an2 cd2 ct2), f3, (PySem.W.fnOf "__init__" "Walk.__init__" (defArgs s_Walk___init__) (defBody s_Walk___init__) (defScope s_Walk___init__) .none kV3 dc3 pm3 an3 cd3 ct3), f4, (PySem.W.fnOf "perform" "Splitter.perform" (defArgs s_Splitter_perform) (defBody s_Splitter_perform) (defScope s_Splitter_perform) .none kV4 dc4 pm4 an4 cd4 ct4), f5, (PySem.W.fnOf "_check_coordinate" "_check_coordinate" (defArgs s_check_coordinate) (defBody s_check_coordinate) (defScope s_check_coordinate) .none kV5 dc5 pm5 an5 cd5 ct5), f6, (PySem.W.fnOf "_cells_before" "_cells_before" (defArgs s_cells_before) (defBody s_cells_before) (defScope s_cells_before) .none kV6 dc6 pm6 an6 cd6 ct6), f7, (PySem.W.fnOf "name_of" "name_of" (defArgs s_name_of) (defBody s_name_of) (defScope s_name_of) .none kV7 dc7 pm7 an7 cd7 ct7), f8, (PySem.W.fnOf "_end_in_cell" "Walk._end_in_cell" (defArgs s_Walk__end_in_cell) (defBody s_Walk__end_in_cell) (defScope s_Walk__end_in_cell) .none kV8 dc8 pm8 an8 cd8 ct8), f9, (PySem.W.fnOf "__init__" "Splitter.__init__" (defArgs s_Splitter___init__) (defBody s_Splitter___init__) (defScope s_Splitter___init__) .none kV9 dc9 pm9 an9 cd9 ct9), f10, (PySem.W.fnOf "_splitter_at" "Walk._splitter_at" (defArgs s_Walk__splitter_at) (defBody s_Walk__splitter_at) (defScope s_Walk__splitter_at) .none kV10 dc10 pm10 an10 cd10 ct10), f11, (PySem.W.fnOf "step" "Walk.step" (defArgs s_Walk_step) (defBody s_Walk_step) (defScope s_Walk_step) .none kV11 dc11 pm11 an11 cd11 ct11), f12, (PySem.W.fnOf "can_step" "Walk.can_step" (defArgs s_Walk_can_step) (defBody s_Walk_can_step) (defScope s_Walk_can_step) .none kV12 dc12 pm12 an12 cd12 ct12), f13, (PySem.W.fnOf "perform_schedule" "perform_schedule" (defArgs s_perform_schedule) (defBody s_perform_schedule) (defScope s_perform_schedule) .none kV13 dc13 pm13 an13 cd13 ct13), f14, (PySem.W.fnOf "walk_after" "walk_after" (defArgs s_walk_after) (defBody s_walk_after) (defScope s_walk_after) .none kV14 dc14 pm14 an14 cd14 ct14), f15, (PySem.W.fnOf "_words_of" "_words_of" (defArgs s_words_of) (defBody s_words_of) (defScope s_words_of) .none kV15 dc15 pm15 an15 cd15 ct15), f16, (PySem.W.fnOf "read_number" "read_number" (defArgs s_read_number) (defBody s_read_number) (defScope s_read_number) .none kV16 dc16 pm16 an16 cd16 ct16), f17, (PySem.W.fnOf "_read_schedule" "_read_schedule" (defArgs s_read_schedule) (defBody s_read_schedule) (defScope s_read_schedule) .none kV17 dc17 pm17 an17 cd17 ct17), f18, (PySem.W.fnOf "read_run" "read_run" (defArgs s_read_run) (defBody s_read_run) (defScope s_read_run) .none kV18 dc18 pm18 an18 cd18 ct18), f19, (PySem.W.fnOf "__init__" "Run.__init__" (defArgs s_Run___init__) (defBody s_Run___init__) (defScope s_Run___init__) .none kV19 dc19 pm19 an19 cd19 ct19), f20, (PySem.W.fnOf "finish" "Run.finish" (defArgs s_Run_finish) (defBody s_Run_finish) (defScope s_Run_finish) .none kV20 dc20 pm20 an20 cd20 ct20), f21, (PySem.W.fnOf "places_now" "Run.places_now" (defArgs s_Run_places_now) (defBody s_Run_places_now) (defScope s_Run_places_now) .none kV21 dc21 pm21 an21 cd21 ct21), pp21, f22, (PySem.W.fnOf "names_now" "Run.names_now" (defArgs s_Run_names_now) (defBody s_Run_names_now) (defScope s_Run_names_now) .none kV22 dc22 pm22 an22 cd22 ct22), pp22, f23, (PySem.W.fnOf "steps_done" "Run.steps_done" (defArgs s_Run_steps_done) (defBody s_Run_steps_done) (defScope s_Run_steps_done) .none kV23 dc23 pm23 an23 cd23 ct23), pp23, f24, (PySem.W.fnOf "read" "Run.read" (defArgs s_Run_read) (defBody s_Run_read) (defScope s_Run_read) .none kV24 dc24 pm24 an24 cd24 ct24), pp24, f25, (PySem.W.fnOf "__len__" "Run.__len__" (defArgs s_Run___len__) (defBody s_Run___len__) (defScope s_Run___len__) .none kV25 dc25 pm25 an25 cd25 ct25), f26, (PySem.W.fnOf "process_count" "Run.process_count" (defArgs s_Run_process_count) (defBody s_Run_process_count) (defScope s_Run_process_count) .none kV26 dc26 pm26 an26 cd26 ct26), pp26, f27, (PySem.W.fnOf "__eq__" "Run.__eq__" (defArgs s_Run___eq__) (defBody s_Run___eq__) (defScope s_Run___eq__) .none kV27 dc27 pm27 an27 cd27 ct27), f28, (PySem.W.fnOf "play" "Run.play" (defArgs s_Run_play) (defBody s_Run_play) (defScope s_Run_play) .none kV28 dc28 pm28 an28 cd28 ct28), f29, (PySem.W.fnOf "step" "Run.step" (defArgs s_Run_step) (defBody s_Run_step) (defScope s_Run_step) .none kV29 dc29 pm29 an29 cd29 ct29), f30, (PySem.W.fnOf "_return_to" "Run._return_to" (defArgs s_Run__return_to) (defBody s_Run__return_to) (defScope s_Run__return_to) .none kV30 dc30 pm30 an30 cd30 ct30), f31, (PySem.W.fnOf "undo" "Run.undo" (defArgs s_Run_undo) (defBody s_Run_undo) (defScope s_Run_undo) .none kV31 dc31 pm31 an31 cd31 ct31), f32, (PySem.W.fnOf "_law_take" "_law_take" (defArgs s_law_take) (defBody s_law_take) (defScope s_law_take) .none kV32 dc32 pm32 an32 cd32 ct32), f33, (PySem.W.fnOf "_law_again" "_law_again" (defArgs s_law_again) (defBody s_law_again) (defScope s_law_again) .none kV33 dc33 pm33 an33 cd33 ct33), f34, (PySem.W.fnOf "_law_stands" "_law_stands" (defArgs s_law_stands) (defBody s_law_stands) (defScope s_law_stands) .none kV34 dc34 pm34 an34 cd34 ct34), f35, (PySem.W.fnOf "_law_steps_alone" "_law_steps_alone" (defArgs s_law_steps_alone) (defBody s_law_steps_alone) (defScope s_law_steps_alone) .none kV35 dc35 pm35 an35 cd35 ct35), f36, (PySem.W.fnOf "_law_diagonal" "_law_diagonal" (defArgs s_law_diagonal) (defBody s_law_diagonal) (defScope s_law_diagonal) .none kV36 dc36 pm36 an36 cd36 ct36), f37, (PySem.W.fnOf "_law_alone_right" "_law_alone_right" (defArgs s_law_alone_right) (defBody s_law_alone_right) (defScope s_law_alone_right) .none kV37 dc37 pm37 an37 cd37 ct37), f38, (PySem.W.fnOf "_law_pick" "_law_pick" (defArgs s_law_pick) (defBody s_law_pick) (defScope s_law_pick) .none kV38 dc38 pm38 an38 cd38 ct38), f39, (PySem.W.fnOf "_law_played" "_law_played" (defArgs s_law_played) (defBody s_law_played) (defScope s_law_played) .none kV39 dc39 pm39 an39 cd39 ct39), f40, (PySem.W.fnOf "_law_changed" "_law_changed" (defArgs s_law_changed) (defBody s_law_changed) (defScope s_law_changed) .none kV40 dc40 pm40 an40 cd40 ct40), f41, (PySem.W.fnOf "_law_right" "_law_right" (defArgs s_law_right) (defBody s_law_right) (defScope s_law_right) .none kV41 dc41 pm41 an41 cd41 ct41), f42, (PySem.W.fnOf "_law_bag" "_law_bag" (defArgs s_law_bag) (defBody s_law_bag) (defScope s_law_bag) .none kV42 dc42 pm42 an42 cd42 ct42), fa, (PySem.W.fnOf "law" "law" (defArgs s_law) (defBody s_law) (defScope s_law) .none kV43 dc43 pm43 an43 cd43 ct43), cC0, cC1, cC2⟩ := by
    constructor
    · exact F0
    · exact b0
    · exact PySem.W.mg_of X G a0
    · exact F1
    · exact b1
    · exact PySem.W.mg_of X G a1
    · exact F2
    · exact b2
    · exact PySem.W.mg_of X G a2
    · exact F3
    · exact b3
    · exact F4
    · exact b4
    · exact ⟨a4, i4, k4⟩
    · exact F5
    · exact b5
    · exact PySem.W.mg_of X G a5
    · exact F6
    · exact b6
    · exact PySem.W.mg_of X G a6
    · exact F7
    · exact b7
    · exact PySem.W.mg_of X G a7
    · exact F8
    · exact b8
    · exact ⟨a8, i8, k8⟩
    · exact F9
    · exact b9
    · exact F10
    · exact b10
    · exact ⟨a10, i10, k10⟩
    · exact F11
    · exact b11
    · exact ⟨a11, i11, k11⟩
    · exact F12
    · exact b12
    · exact ⟨a12, i12, k12⟩
    · exact F13
    · exact b13
    · exact PySem.W.mg_of X G a13
    · exact F14
    · exact b14
    · exact PySem.W.mg_of X G a14
    · exact F15
    · exact b15
    · exact PySem.W.mg_of X G a15
    · exact F16
    · exact b16
    · exact PySem.W.mg_of X G a16
    · exact F17
    · exact b17
    · exact PySem.W.mg_of X G a17
    · exact F18
    · exact b18
    · exact PySem.W.mg_of X G a18
    · exact F19
    · exact b19
    · exact F20
    · exact b20
    · exact ⟨a20, i20, k20⟩
    · exact F21
    · exact b21
    · exact ⟨a21, pg_21, pt_21, ⟨_, pc_21⟩⟩
    · exact F22
    · exact b22
    · exact ⟨a22, pg_22, pt_22, ⟨_, pc_22⟩⟩
    · exact F23
    · exact b23
    · exact ⟨a23, pg_23, pt_23, ⟨_, pc_23⟩⟩
    · exact F24
    · exact b24
    · exact ⟨a24, ⟨_, pc_24⟩, pf_24⟩
    · exact F25
    · exact b25
    · exact ⟨a25, ti25⟩
    · exact F26
    · exact b26
    · exact ⟨a26, pg_26, pt_26, ⟨_, pc_26⟩⟩
    · exact F27
    · exact b27
    · exact ⟨a27, i27, k27⟩
    · exact F28
    · exact ⟨a28, i28, k28⟩
    · exact F29
    · exact b29
    · exact ⟨a29, i29, k29⟩
    · exact F30
    · exact b30
    · exact ⟨a30, i30, k30⟩
    · exact F31
    · exact b31
    · exact ⟨a31, i31, k31⟩
    · exact F32
    · exact b32
    · exact PySem.W.mg_of X G a32
    · exact F33
    · exact b33
    · exact PySem.W.mg_of X G a33
    · exact F34
    · exact b34
    · exact PySem.W.mg_of X G a34
    · exact F35
    · exact b35
    · exact PySem.W.mg_of X G a35
    · exact F36
    · exact b36
    · exact PySem.W.mg_of X G a36
    · exact F37
    · exact b37
    · exact PySem.W.mg_of X G a37
    · exact F38
    · exact b38
    · exact PySem.W.mg_of X G a38
    · exact F39
    · exact b39
    · exact PySem.W.mg_of X G a39
    · exact F40
    · exact b40
    · exact PySem.W.mg_of X G a40
    · exact F41
    · exact b41
    · exact PySem.W.mg_of X G a41
    · exact F42
    · exact b42
    · exact PySem.W.mg_of X G a42
    · exact F43
    · exact b43
    · exact PySem.W.mg_of X G a43
    · exact PySem.W.mg_of X G ac0
    · exact ⟨pg0, hd0, po0, sa0⟩
    · exact ⟨mk0, a9, i9, kc0⟩
    · exact x0_writer
    · exact x0_closed
    · exact PySem.W.mg_of X G ac1
    · exact ⟨pg1, hd1, po1, sa1⟩
    · exact ⟨mk1, a3, i3, kc1⟩
    · exact x1_cells
    · exact x1_places
    · exact x1_done
    · exact x1_names
    · exact x1_steps
    · exact x1_reports
    · exact PySem.W.mg_of X G ac2
    · exact ⟨pg2, hd2, po2, sa2⟩
    · exact ⟨mk2, a19, i19, kc2⟩
    · exact x2__walk
    · exact x2__marks
    · exact ⟨a27, i27, qn2, qm2⟩
    · exact ⟨⟨pg2, hd2, po2, sa2⟩, ⟨qa2, qb2, qc2, qm2⟩⟩
    · exact ⟨yr_Run, yg_Run⟩
    · exact PySem.W.mg_none_of X G z_bool
    · exact PySem.W.mg_none_of X G z_int
    · exact PySem.W.mg_none_of X G z_isinstance
    · exact PySem.W.mg_none_of X G z_len
    · exact PySem.W.mg_none_of X G z_list
    · exact PySem.W.mg_none_of X G z_max
    · exact PySem.W.mg_none_of X G z_min
    · exact PySem.W.mg_none_of X G z_range
    · exact PySem.W.mg_none_of X G z_str
    · exact PySem.W.mg_none_of X G z_zip
    · exact ⟨_, PySem.W.mg_of X G q0⟩
    · exact ⟨_, PySem.W.mg_of X G q1⟩
    · exact ⟨_, PySem.W.mg_of X G q2⟩
    · exact ⟨_, PySem.W.mg_of X G q3⟩
  refine ⟨(PySem.W.fnOf "law" "law" (defArgs s_law) (defBody s_law) (defScope s_law) .none kV43 dc43 pm43 an43 cd43 ct43), fun s v => .of_eq rfl, fun bs _ _ smq => ?_⟩
  have G_is_integer := ok_is_integer (P := l.prog) (w := w) (bs := bs) m (smq hq) 
  have G_is_integer_within := ok_is_integer_within (P := l.prog) (w := w) (bs := bs) m (smq hq) G_is_integer
  have G_check_count := ok_check_count (P := l.prog) (w := w) (bs := bs) m (smq hq) G_is_integer_within
  have G_Walk___init__ := ok_Walk___init__ (P := l.prog) (w := w) (bs := bs) m (smq hq) 
  have G_Splitter_perform := ok_Splitter_perform (P := l.prog) (w := w) (bs := bs) m (smq hq) 
  have G_check_coordinate := ok_check_coordinate (P := l.prog) (w := w) (bs := bs) m (smq hq) G_is_integer_within
  have G_cells_before := ok_cells_before (P := l.prog) (w := w) (bs := bs) m (smq hq) 
  have G_name_of := ok_name_of (P := l.prog) (w := w) (bs := bs) m (smq hq) G_check_coordinate G_cells_before
  have G_Walk__end_in_cell := ok_Walk__end_in_cell (P := l.prog) (w := w) (bs := bs) m (smq hq) G_name_of
  have G_Splitter___init__ := ok_Splitter___init__ (P := l.prog) (w := w) (bs := bs) m (smq hq) 
  have G_Walk__splitter_at := ok_Walk__splitter_at (P := l.prog) (w := w) (bs := bs) m (smq hq) G_Splitter___init__
  have G_Walk_step := ok_Walk_step (P := l.prog) (w := w) (bs := bs) m (smq hq) G_Splitter_perform G_Walk__end_in_cell G_Walk__splitter_at
  have G_Walk_can_step := ok_Walk_can_step (P := l.prog) (w := w) (bs := bs) m (smq hq) G_is_integer_within
  have G_perform_schedule := ok_perform_schedule (P := l.prog) (w := w) (bs := bs) m (smq hq) G_Walk_step G_Walk_can_step
  have G_walk_after := ok_walk_after (P := l.prog) (w := w) (bs := bs) m (smq hq) G_check_count G_Walk___init__ G_perform_schedule
  have G_words_of := ok_words_of (P := l.prog) (w := w) (bs := bs) m (smq hq) 
  have G_read_number := ok_read_number (P := l.prog) (w := w) (bs := bs) m (smq hq) 
  have G_read_schedule := ok_read_schedule (P := l.prog) (w := w) (bs := bs) m (smq hq) G_read_number
  have G_read_run := ok_read_run (P := l.prog) (w := w) (bs := bs) m (smq hq) G_walk_after G_words_of G_read_number G_read_schedule
  have G_Run___init__ := ok_Run___init__ (P := l.prog) (w := w) (bs := bs) m (smq hq) G_walk_after
  have G_Run_finish := ok_Run_finish (P := l.prog) (w := w) (bs := bs) m (smq hq) G_Walk_step G_Walk_can_step
  have G_Run_places_now := ok_Run_places_now (P := l.prog) (w := w) (bs := bs) m (smq hq) G_name_of
  have G_Run_names_now := ok_Run_names_now (P := l.prog) (w := w) (bs := bs) m (smq hq) 
  have G_Run_steps_done := ok_Run_steps_done (P := l.prog) (w := w) (bs := bs) m (smq hq) 
  have G_Run_read := ok_Run_read (P := l.prog) (w := w) (bs := bs) m (smq hq) G_walk_after G_read_run G_Run___init__
  have G_Run___len__ := ok_Run___len__ (P := l.prog) (w := w) (bs := bs) m (smq hq) 
  have G_Run_process_count := ok_Run_process_count (P := l.prog) (w := w) (bs := bs) m (smq hq) 
  have G_Run___eq__ := ok_Run___eq__ (P := l.prog) (w := w) (bs := bs) m (smq hq) G_Run_steps_done G_Run_process_count
  have G_Run_play := ok_Run_play (P := l.prog) (w := w) (bs := bs) m (smq hq) G_Walk_step G_Walk_can_step
  have G_Run_step := ok_Run_step (P := l.prog) (w := w) (bs := bs) m (smq hq) G_Run_play
  have G_Run__return_to := ok_Run__return_to (P := l.prog) (w := w) (bs := bs) m (smq hq) G_walk_after G_Run_process_count
  have G_Run_undo := ok_Run_undo (P := l.prog) (w := w) (bs := bs) m (smq hq) G_Run__return_to
  have G_law_take := ok_law_take (P := l.prog) (w := w) (bs := bs) m (smq hq) 
  have G_law_again := ok_law_again (P := l.prog) (w := w) (bs := bs) m (smq hq) G_Run_steps_done G_Run_read G_Run___len__ G_Run_process_count
  have G_law_stands := ok_law_stands (P := l.prog) (w := w) (bs := bs) m (smq hq) G_Run_places_now G_Run_names_now G_Run_steps_done
  have G_law_steps_alone := ok_law_steps_alone (P := l.prog) (w := w) (bs := bs) m (smq hq) G_Run_step
  have G_law_diagonal := ok_law_diagonal (P := l.prog) (w := w) (bs := bs) m (smq hq) 
  have G_law_alone_right := ok_law_alone_right (P := l.prog) (w := w) (bs := bs) m (smq hq) G_Run_finish G_Run_places_now G_Run_names_now G_Run_steps_done G_Run___len__ G_Run___eq__ G_Run_undo G_law_again G_law_stands G_law_steps_alone G_law_diagonal
  have G_law_pick := ok_law_pick (P := l.prog) (w := w) (bs := bs) m (smq hq) G_law_take
  have G_law_played := ok_law_played (P := l.prog) (w := w) (bs := bs) m (smq hq) G_Run_play G_law_take G_law_pick
  have G_law_changed := ok_law_changed (P := l.prog) (w := w) (bs := bs) m (smq hq) G_Run_finish G_Run_step G_Run_undo G_law_take G_law_pick G_law_played
  have G_law_right := ok_law_right (P := l.prog) (w := w) (bs := bs) m (smq hq) G_Run___init__ G_Run_names_now G_law_take G_law_alone_right G_law_pick G_law_changed
  have G_law_bag := ok_law_bag (P := l.prog) (w := w) (bs := bs) m (smq hq) 
  have G_law := ok_law (P := l.prog) (w := w) (bs := bs) m (smq hq) G_law_right G_law_bag
  exact G_law
end My
open PySem PySem.W PyProof.Rows
set_option maxHeartbeats 0 in
theorem PySem.Challenge.cw_splitnames_k57_whole_no_process_waits_holds : PySem.Challenge.rw_splitnames_k57_whole_no_process_waits.Holds := by
  w_on; o_law; k_head; (case hw => w_witness2)
  k_fill
  refine Vg.walk_q (l := PySem.Challenge.rw_splitnames_k57_whole_no_process_waits) (n := 63) (k := 15) (x := "script") (C := fun _ => L2.CX0) (sp := fun w => My.sp_law _) rfl (by decide) rfl ⟨rfl, by decide, by decide⟩ (fun w h Y => PySem.W.kIn_of Y) ?F (fun _ _ a ns hl hb _ hS => My.law_end hl hb hS) (fun _ _ _ _ _ h => h)
  case F =>
    intro w mg fa h KX G hmg
    refine' My.all_mk (by decide +kernel) KX G hmg ?ac0 ?ac1 ?ac2 ?a0 ?l0 ?c0 ?k0 ?a1 ?l1 ?c1 ?k1 ?a2 ?l2 ?c2 ?k2 ?a3 ?i3 ?l3 ?c3 ?k3 ?a4 ?i4 ?l4 ?c4 ?k4 ?a5 ?l5 ?c5 ?k5 ?a6 ?l6 ?c6 ?k6 ?a7 ?l7 ?c7 ?k7 ?a8 ?i8 ?l8 ?c8 ?k8 ?a9 ?i9 ?l9 ?c9 ?k9 ?a10 ?i10 ?l10 ?c10 ?k10 ?a11 ?i11 ?l11 ?c11 ?k11 ?a12 ?i12 ?l12 ?c12 ?k12 ?a13 ?l13 ?c13 ?k13 ?a14 ?l14 ?c14 ?k14 ?a15 ?l15 ?c15 ?k15 ?a16 ?l16 ?c16 ?k16 ?a17 ?l17 ?c17 ?k17 ?a18 ?l18 ?c18 ?k18 ?a19 ?i19 ?l19 ?c19 ?k19 ?a20 ?i20 ?l20 ?c20 ?k20 ?a21 ?pg_21 ?pt_21 ?pc_21 ?l21 ?c21 ?k21 ?a22 ?pg_22 ?pt_22 ?pc_22 ?l22 ?c22 ?k22 ?a23 ?pg_23 ?pt_23 ?pc_23 ?l23 ?c23 ?k23 ?a24 ?pc_24 ?pf_24 ?l24 ?c24 ?k24 ?a25 ?ti25 ?l25 ?c25 ?k25 ?a26 ?pg_26 ?pt_26 ?pc_26 ?l26 ?c26 ?k26 ?a27 ?i27 ?l27 ?c27 ?k27 ?a28 ?i28 ?l28 ?c28 ?k28 ?a29 ?i29 ?l29 ?c29 ?k29 ?a30 ?i30 ?l30 ?c30 ?k30 ?a31 ?i31 ?l31 ?c31 ?k31 ?a32 ?l32 ?c32 ?k32 ?a33 ?l33 ?c33 ?k33 ?a34 ?l34 ?c34 ?k34 ?a35 ?l35 ?c35 ?k35 ?a36 ?l36 ?c36 ?k36 ?a37 ?l37 ?c37 ?k37 ?a38 ?l38 ?c38 ?k38 ?a39 ?l39 ?c39 ?k39 ?a40 ?l40 ?c40 ?k40 ?a41 ?l41 ?c41 ?k41 ?a42 ?l42 ?c42 ?k42 ?a43 ?l43 ?c43 ?k43 ?pg0 ?hd0 ?po0 ?sa0 ?mk0 ?kc0 ?x0_writer ?x0_closed ?pg1 ?hd1 ?po1 ?sa1 ?mk1 ?kc1 ?x1_cells ?x1_places ?x1_done ?x1_names ?x1_steps ?x1_reports ?pg2 ?hd2 ?po2 ?sa2 ?mk2 ?kc2 ?x2__walk ?x2__marks ?qn2 ?qm2 ?qa2 ?qb2 ?qc2 ?yr_Run ?yg_Run ?yi_Run ?z_bool ?z_int ?z_isinstance ?z_len ?z_list ?z_max ?z_min ?z_range ?z_str ?z_zip ?q0 ?q1 ?q2 ?q3
    (case ac0 => k_is)
    (case ac1 => k_is)
    (case ac2 => k_is)
    (case a0 => k_is)
    (case l0 => k_is)
    (case c0 => k_is)
    (case k0 => k_is)
    (case a1 => k_is)
    (case l1 => k_is)
    (case c1 => k_is)
    (case k1 => k_is)
    (case a2 => k_is)
    (case l2 => k_is)
    (case c2 => k_is)
    (case k2 => k_is)
    (case a3 => k_is)
    (case i3 => k_is)
    (case l3 => k_is)
    (case c3 => k_is)
    (case k3 => k_is)
    (case a4 => k_is)
    (case i4 => k_is)
    (case l4 => k_is)
    (case c4 => k_is)
    (case k4 => k_is)
    (case a5 => k_is)
    (case l5 => k_is)
    (case c5 => k_is)
    (case k5 => k_is)
    (case a6 => k_is)
    (case l6 => k_is)
    (case c6 => k_is)
    (case k6 => k_is)
    (case a7 => k_is)
    (case l7 => k_is)
    (case c7 => k_is)
    (case k7 => k_is)
    (case a8 => k_is)
    (case i8 => k_is)
    (case l8 => k_is)
    (case c8 => k_is)
    (case k8 => k_is)
    (case a9 => k_is)
    (case i9 => k_is)
    (case l9 => k_is)
    (case c9 => k_is)
    (case k9 => k_is)
    (case a10 => k_is)
    (case i10 => k_is)
    (case l10 => k_is)
    (case c10 => k_is)
    (case k10 => k_is)
    (case a11 => k_is)
    (case i11 => k_is)
    (case l11 => k_is)
    (case c11 => k_is)
    (case k11 => k_is)
    (case a12 => k_is)
    (case i12 => k_is)
    (case l12 => k_is)
    (case c12 => k_is)
    (case k12 => k_is)
    (case a13 => k_is)
    (case l13 => k_is)
    (case c13 => k_is)
    (case k13 => k_is)
    (case a14 => k_is)
    (case l14 => k_is)
    (case c14 => k_is)
    (case k14 => k_is)
    (case a15 => k_is)
    (case l15 => k_is)
    (case c15 => k_is)
    (case k15 => k_is)
    (case a16 => k_is)
    (case l16 => k_is)
    (case c16 => k_is)
    (case k16 => k_is)
    (case a17 => k_is)
    (case l17 => k_is)
    (case c17 => k_is)
    (case k17 => k_is)
    (case a18 => k_is)
    (case l18 => k_is)
    (case c18 => k_is)
    (case k18 => k_is)
    (case a19 => k_is)
    (case i19 => k_is)
    (case l19 => k_is)
    (case c19 => k_is)
    (case k19 => k_is)
    (case a20 => k_is)
    (case i20 => k_is)
    (case l20 => k_is)
    (case c20 => k_is)
    (case k20 => k_is)
    (case a21 => k_is)
    (case pg_21 => k_is)
    (case pt_21 => k_is)
    (case pc_21 => k_is)
    (case l21 => k_is)
    (case c21 => k_is)
    (case k21 => k_is)
    (case a22 => k_is)
    (case pg_22 => k_is)
    (case pt_22 => k_is)
    (case pc_22 => k_is)
    (case l22 => k_is)
    (case c22 => k_is)
    (case k22 => k_is)
    (case a23 => k_is)
    (case pg_23 => k_is)
    (case pt_23 => k_is)
    (case pc_23 => k_is)
    (case l23 => k_is)
    (case c23 => k_is)
    (case k23 => k_is)
    (case a24 => k_is)
    (case pc_24 => k_is)
    (case pf_24 => k_is)
    (case l24 => k_is)
    (case c24 => k_is)
    (case k24 => k_is)
    (case a25 => k_is)
    (case ti25 => k_is)
    (case l25 => k_is)
    (case c25 => k_is)
    (case k25 => k_is)
    (case a26 => k_is)
    (case pg_26 => k_is)
    (case pt_26 => k_is)
    (case pc_26 => k_is)
    (case l26 => k_is)
    (case c26 => k_is)
    (case k26 => k_is)
    (case a27 => k_is)
    (case i27 => k_is)
    (case l27 => k_is)
    (case c27 => k_is)
    (case k27 => k_is)
    (case a28 => k_is)
    (case i28 => k_is)
    (case l28 => k_is)
    (case c28 => k_is)
    (case k28 => k_is)
    (case a29 => k_is)
    (case i29 => k_is)
    (case l29 => k_is)
    (case c29 => k_is)
    (case k29 => k_is)
    (case a30 => k_is)
    (case i30 => k_is)
    (case l30 => k_is)
    (case c30 => k_is)
    (case k30 => k_is)
    (case a31 => k_is)
    (case i31 => k_is)
    (case l31 => k_is)
    (case c31 => k_is)
    (case k31 => k_is)
    (case a32 => k_is)
    (case l32 => k_is)
    (case c32 => k_is)
    (case k32 => k_is)
    (case a33 => k_is)
    (case l33 => k_is)
    (case c33 => k_is)
    (case k33 => k_is)
    (case a34 => k_is)
    (case l34 => k_is)
    (case c34 => k_is)
    (case k34 => k_is)
    (case a35 => k_is)
    (case l35 => k_is)
    (case c35 => k_is)
    (case k35 => k_is)
    (case a36 => k_is)
    (case l36 => k_is)
    (case c36 => k_is)
    (case k36 => k_is)
    (case a37 => k_is)
    (case l37 => k_is)
    (case c37 => k_is)
    (case k37 => k_is)
    (case a38 => k_is)
    (case l38 => k_is)
    (case c38 => k_is)
    (case k38 => k_is)
    (case a39 => k_is)
    (case l39 => k_is)
    (case c39 => k_is)
    (case k39 => k_is)
    (case a40 => k_is)
    (case l40 => k_is)
    (case c40 => k_is)
    (case k40 => k_is)
    (case a41 => k_is)
    (case l41 => k_is)
    (case c41 => k_is)
    (case k41 => k_is)
    (case a42 => k_is)
    (case l42 => k_is)
    (case c42 => k_is)
    (case k42 => k_is)
    (case a43 => k_is)
    (case l43 => k_is)
    (case c43 => k_is)
    (case k43 => k_is)
    (case pg0 => k_is)
    (case hd0 => k_is)
    (case po0 => k_is)
    (case sa0 => k_is)
    (case mk0 => k_is)
    (case kc0 => k_is)
    (case x0_writer => k_is)
    (case x0_closed => k_is)
    (case pg1 => k_is)
    (case hd1 => k_is)
    (case po1 => k_is)
    (case sa1 => k_is)
    (case mk1 => k_is)
    (case kc1 => k_is)
    (case x1_cells => k_is)
    (case x1_places => k_is)
    (case x1_done => k_is)
    (case x1_names => k_is)
    (case x1_steps => k_is)
    (case x1_reports => k_is)
    (case pg2 => k_is)
    (case hd2 => k_is)
    (case po2 => k_is)
    (case sa2 => k_is)
    (case mk2 => k_is)
    (case kc2 => k_is)
    (case x2__walk => k_is)
    (case x2__marks => k_is)
    (case qn2 => k_is)
    (case qm2 => k_is)
    (case qa2 => k_is)
    (case qb2 => k_is)
    (case qc2 => k_is)
    (case yr_Run => k_is)
    (case yg_Run => k_is)
    (case yi_Run => k_is)
    (case z_bool => k_is)
    (case z_int => k_is)
    (case z_isinstance => k_is)
    (case z_len => k_is)
    (case z_list => k_is)
    (case z_max => k_is)
    (case z_min => k_is)
    (case z_range => k_is)
    (case z_str => k_is)
    (case z_zip => k_is)
    (case q0 => k_is)
    (case q1 => k_is)
    (case q2 => k_is)
    (case q3 => k_is)

